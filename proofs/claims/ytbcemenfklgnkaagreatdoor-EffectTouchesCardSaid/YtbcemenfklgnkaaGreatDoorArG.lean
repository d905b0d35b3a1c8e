/- Walks of package ar: the member with which a text begins. Walks of package ar: how a text comes apart. -/
import Derived.Test.YtbcemenfklgnkaaGreatDoorArE
import Derived.IntWalk
namespace Go.Proofs.YtbcemenfklgnkaaGreatDoor
open Go.RowKit

theorem ext_list (s : ByteArray) (a b : Nat) : (s.extract a b).data.toList = (s.data.toList.drop a).take (b - a) := by rw [Lib.extract_eq]
/-- a cell that holds a member, and that can be written -/
def BoxM (w : World) (p : Nat) (m : Mb) : Prop := w.heap[p]? = some (.cells #[.string m.n, .int .i64 m.t, .string m.c] 113 (0, 0))
theorem BoxM.kept {w w' : World} {p : Nat} {m : Mb} (h : BoxM w p m) (hg : w.grownBy w' none) : BoxM w' p m := (hg.block p (Array.getElem?_eq_some_iff.1 h).1 (by simp)).trans h
theorem BoxM.cells {w : World} {p : Nat} {m : Mb} (h : BoxM w p m) : w.cell? ⟨p, 0, none⟩ = some (.string m.n) ∧ w.cell? ⟨p, 1, none⟩ = some (.int .i64 m.t) ∧ w.cell? ⟨p, 2, none⟩ = some (.string m.c) ∧
    w.frozen? ⟨p, 0, none⟩ = false ∧ w.frozen? ⟨p, 1, none⟩ = false ∧ w.frozen? ⟨p, 2, none⟩ = false := by
  unfold BoxM at h
  refine ⟨?_, ?_, ?_, frozen_of_row w p 0 _ _ h, frozen_of_row w p 1 _ _ h, frozen_of_row w p 2 _ _ h⟩
  all_goals simp [World.cell?, h]
theorem box_new (w : World) (m : Mb) : BoxM (w.alloc (.cells #[.string m.n, .int .i64 m.t, .string m.c] 113)) w.heap.size m := heap_alloc_new w _
theorem BoxM.lt {w : World} {p : Nat} {m : Mb} (h : BoxM w p m) : p < w.heap.size := (Array.getElem?_eq_some_iff.1 h).1

def putM (w : World) (p : Nat) (m : Mb) : World := ((w.setCell ⟨p, 0, none⟩ (.string m.n)).setCell ⟨p, 1, none⟩ (.int .i64 m.t)).setCell ⟨p, 2, none⟩ (.string m.c)
theorem BoxM.put {w : World} {p : Nat} {m : Mb} (h : BoxM w p m) (x : Mb) : BoxM (putM w p x) p x ∧ w.grownBy (putM w p x) (some p) := by
  have one : ∀ (W : World) (o : Nat) (u : Value), W.grownBy (W.setCell ⟨p, o, none⟩ u) (some p) := fun W o u =>
    ⟨rfl, rfl, rfl, by simp, fun k _ hk => heap_setCell_other W ⟨p, o, none⟩ k u (fun e => hk (by simp [e]))⟩
  refine ⟨?_, ((one _ _ _).trans (one _ _ _)).trans (one _ _ _)⟩
  have h1 := heap_setCell_same w p 0 _ _ (.string x.n) h
  have h2 := heap_setCell_same _ p 1 _ _ (.int .i64 x.t) h1
  have h3 := heap_setCell_same _ p 2 _ _ (.string x.c) h2
  exact h3
/-- what first answers -/
def FirstPost (s : ByteArray) (w : World) (e : Ending) (w' : World) : Prop :=
  ∃ (x : Mb) (ok : Bool), e = .returned (.tuple #[valM x, .bool ok]) ∧ FirstOf s.data.toList x ok ∧ x.n.size ≤ maxLen ∧ x.c.size ≤ s.size ∧ w.grownBy w' none

set_option maxRecDepth 100000 in
set_option maxHeartbeats 4000000 in
theorem aFirst (s : ByteArray) (A : Nat → Addr) (w : World) (hE : Env A w) (hs : s.size ≤ 100000) :
    Calls Tryz.prog 125 #[.string s] w (FirstPost s w) := by
  by_cases h60 : s.size < 60
  · have HF := Lib.hid (first_no nilM (s := s.data.toList) (.inl (by rw [bytes_len]; exact h60)))
    go_enter Tryz.func125, Tryz.ntmps125
    go_wp2
    exact bodyPost_ret (v := .tuple #[valM nilM, .bool false]) (by simp [valM, nilM, results, Tryz.results125, go_sem]) rfl ⟨nilM, false, rfl, HF.out, by unfold nilM maxLen; decide, Nat.zero_le _, World.grownBy_alloc _ _ _⟩
  have HE := Lib.hid hE
  have HB := Lib.hid (box_new w nilM)
  have G0 := Lib.hid (World.grownBy_alloc w (.cells #[.string nilM.n, .int .i64 nilM.t, .string nilM.c] 113) none)
  have s1 : (s.extract 16 28).size = 12 := by rw [ByteArray.size_extract]; omega
  have s2 : (s.extract 48 58).size = 10 := by rw [ByteArray.size_extract]; omega
  obtain ⟨x1, hx1, z1⟩ := some_ba (Lib.trimRightB (s.extract 16 28).data.toList 32)
  obtain ⟨x2, hx2, z2⟩ := some_ba (Lib.trimRightB (s.extract 48 58).data.toList 32)
  have t1 := trim_len (s.extract 16 28).data.toList
  have t2 := trim_len (s.extract 48 58).data.toList
  rw [bytes_len, s1] at t1
  rw [bytes_len, s2] at t2
  have T1 := Lib.hid (show Lib.atoi x1.data.toList = fT s.data.toList by rw [hx1, ext_list]; rfl)
  have T2 := Lib.hid (show Lib.atoi x2.data.toList = fZ s.data.toList by rw [hx2, ext_list]; rfl)
  have HU1 := Lib.hid (fun W => aUn (s := s.extract 16 28) W (by rw [s1]; decide) hx1)
  have HU2 := Lib.hid (fun W => aUn (s := s.extract 48 58) W (by rw [s2]; decide) hx2)
  have HA1 := Lib.hid (fun (W : World) (hW : Env A W) => aAtoi (s := x1) W hW (by omega))
  have HA2 := Lib.hid (fun (W : World) (hW : Env A W) => aAtoi (s := x2) W hW (by omega))
  clear hE hx1 hx2 s1 s2 z1 z2 t1 t2
  unfold nilM at HB G0
  simp only at HB G0
  go_enter Tryz.func125, Tryz.ntmps125
  go_wp2_with fail
  generalize (w.alloc (.cells #[.string ⟨#[]⟩, .int .i64 0, .string ⟨#[]⟩] 113)) = w1 at *
  generalize hp : w.heap.size = p at *
  have PS := Lib.hid (show w.heap.size ≤ p by omega)
  clear hp
  refine (HU1.out _).mono ?_
  rintro e w' ⟨rfl, rfl⟩
  go_wp2_with fail
  refine (HA1.out _ (HE.out.grown G0.out)).mono ?_
  rintro e w2 ⟨n1, v1, rfl, r1, g1⟩
  have G2 := Lib.hid (G0.out.trans g1)
  have B2 := Lib.hid (HB.out.kept g1)
  rw [T1.out] at r1
  have R1 := Lib.hid r1
  clear g1 G0 HB r1
  go_wp2_with fail
  refine (HU2.out _).mono ?_
  rintro e w' ⟨rfl, rfl⟩
  go_wp2_with fail
  refine (HA2.out _ (HE.out.grown G2.out)).mono ?_
  rintro e w3 ⟨n2, v2, rfl, r2, g2⟩
  have G3 := Lib.hid (G2.out.trans g2)
  have B3 := Lib.hid (B2.out.kept g2)
  rw [T2.out] at r2
  have R2 := Lib.hid r2
  clear g2 G2 B2 r2 HA1 HA2 HU1 HU2 T1 T2
  obtain ⟨c0, c1, c2, f0, f1, f2⟩ := B3.out.cells
  have plt := B3.out.lt
  rcases R1.out with ⟨e1, rfl⟩ | ⟨e1, ta, aa, rfl⟩
  · rcases R2.out with ⟨e2, rfl⟩ | ⟨e2, tb, ab, rfl⟩
    · by_cases hz : n2 < 0
      · have HF := Lib.hid (first_no nilM (s := s.data.toList) (.inr (.inr (.inr ⟨n2, e2, .inl hz⟩))))
        clear e1 e2 R1 R2
        go_wp2
        obtain ⟨bz, gz⟩ := B3.out.put nilM
        unfold putM nilM at bz gz
        simp only at bz gz
        generalize (((w3.setCell ⟨p, 0, none⟩ (.string ⟨#[]⟩)).setCell ⟨p, 1, none⟩ (.int .i64 0)).setCell ⟨p, 2, none⟩ (.string ⟨#[]⟩)) = wz at *
        have BZ := Lib.hid bz; have GZ := Lib.hid (grown_none G3.out gz PS.out)
        clear bz gz
        obtain ⟨d0, d1, d2, -, -, -⟩ := BZ.out.cells
        exact bodyPost_ret (v := .tuple #[valM nilM, .bool false]) (by simp [valM, nilM, results, Tryz.results125, go_sem, d0, d1, d2]) rfl ⟨nilM, false, rfl, HF.out, by unfold nilM maxLen; decide, Nat.zero_le _, GZ.out⟩
      by_cases hz2 : (s.size : Int) - 60 < n2
      · have HF := Lib.hid (first_no nilM (s := s.data.toList) (.inr (.inr (.inr ⟨n2, e2, .inr (by rw [bytes_len]; exact hz2)⟩))))
        clear e1 e2 R1 R2
        go_wp2
        obtain ⟨bz, gz⟩ := B3.out.put nilM
        unfold putM nilM at bz gz
        simp only at bz gz
        generalize (((w3.setCell ⟨p, 0, none⟩ (.string ⟨#[]⟩)).setCell ⟨p, 1, none⟩ (.int .i64 0)).setCell ⟨p, 2, none⟩ (.string ⟨#[]⟩)) = wz at *
        have BZ := Lib.hid bz; have GZ := Lib.hid (grown_none G3.out gz PS.out)
        clear bz gz
        obtain ⟨d0, d1, d2, -, -, -⟩ := BZ.out.cells
        exact bodyPost_ret (v := .tuple #[valM nilM, .bool false]) (by simp [valM, nilM, results, Tryz.results125, go_sem, d0, d1, d2]) rfl ⟨nilM, false, rfl, HF.out, by unfold nilM maxLen; decide, Nat.zero_le _, GZ.out⟩
      obtain ⟨z, rfl⟩ := Int.eq_ofNat_of_zero_le (show 0 ≤ n2 by omega)
      have E1 := Lib.hid e1; have E2 := Lib.hid e2
      clear e1 e2 R1 R2
      have hz3 : (z : Int) ≤ (s.size : Int) - 60 := by omega
      have s3 : (s.extract 0 16).size = 16 := by rw [ByteArray.size_extract]; omega
      obtain ⟨x3, hx3, z3⟩ := some_ba (Lib.trimRightB (s.extract 0 16).data.toList 32)
      have t3 := trim_len (s.extract 0 16).data.toList
      rw [bytes_len, s3] at t3
      have HU3 := Lib.hid (fun W => aUn (s := s.extract 0 16) W (by rw [s3]; decide) hx3)
      have X3 := Lib.hid (show x3.data.toList = Lib.trimRightB (s.data.toList.take 16) 32 by rw [hx3, ext_list]; rfl)
      have Z3 := Lib.hid (show x3.size ≤ 16 by omega)
      have hw1 : IntKind.i64.wrap (60 + (z : Int)) = 60 + (z : Int) := IntWalk.i64_in _ (by omega)
      have hw2 : (0 : Int) ≤ 60 + (z : Int) := by omega
      have hw3 : (60 + (z : Int)).toNat = 60 + z := by omega
      have hw4 : (60 : Int) ≤ 60 + (z : Int) := by omega
      have hw5 : 60 + (z : Int) ≤ (s.size : Int) := by omega
      have hw6 : (16 : Int) ≤ (s.size : Int) := by omega
      clear s3 z3 t3 hx3
      go_wp2
      go_region_with ((go_at_call 136; refine (HU3.out _).mono ?_; rintro e w' ⟨rfl, rfl⟩))
      all_goals
        generalize hy : s.extract 60 (60 + z) = y at *
        have hys : y.size = z := by rw [← hy, ByteArray.size_extract]; omega
        have hyl : y.data.toList = (s.data.toList.drop 60).take z := by rw [← hy, ext_list]; congr 1; omega
        have BQ := Lib.hid (show BoxM ((w3.alloc (.cells #[.string x3, .int .i64 n1, .string y] 113)).drew) w3.heap.size ⟨x3, n1, y⟩ from box_new w3 ⟨x3, n1, y⟩)
        have G4 := Lib.hid (grown_drew (G3.out.trans (World.grownBy_alloc w3 (.cells #[.string x3, .int .i64 n1, .string y] 113) none)))
        have B4 := Lib.hid (B3.out.kept (grown_drew (World.grownBy_alloc w3 (.cells #[.string x3, .int .i64 n1, .string y] 113) none)))
        generalize (w3.alloc (.cells #[.string x3, .int .i64 n1, .string y] 113)).drew = w4 at *
        have NE := Lib.hid (show some w3.heap.size ≠ some p by intro e; have := Option.some.inj e; omega)
        generalize w3.heap.size = q at *
        subst hys
        have YL := Lib.hid hyl
        clear hy hyl hw1 hw2 hw3 hw4 hw5 hw6 G3 B3 f0 f1 f2 plt HU3
        have HF := Lib.hid (first_yes (s := s.data.toList) (x := ⟨x3, n1, y⟩) X3.out E1.out E2.out YL.out)
        clear X3 E1 E2 YL
        have hcon := fun (W : World) => aSize ⟨x3, n1, y⟩ W (show y.size ≤ 140737488350000 by omega)
        unfold valM at hcon
        simp only at hcon
        have HC := Lib.hid hcon
        clear hcon
        have SB := Lib.hid (show sizeM ⟨x3, n1, y⟩ ≤ 200000 by unfold sizeM; simp only; omega)
        rw [bytes_len] at HF
        generalize sizeM ⟨x3, n1, y⟩ = zz at HC SB HF
        obtain ⟨q0, q1, q2, -, -, -⟩ := BQ.out.cells
        simp only at q0 q1 q2
        go_wp2
        go_region_held3 (fun W => W.cell? ⟨q, 0, none⟩ = some (.string x3) ∧ W.cell? ⟨q, 1, none⟩ = some (.int .i64 n1) ∧ W.cell? ⟨q, 2, none⟩ = some (.string y))
          (first | exact ⟨q0, q1, q2⟩ | exact ⟨r0, r1, r2⟩ | exact ⟨(B5.out.put ⟨x3, n1, y⟩).2.cell r0 NE.out, (B5.out.put ⟨x3, n1, y⟩).2.cell r1 NE.out, (B5.out.put ⟨x3, n1, y⟩).2.cell r2 NE.out⟩)
          (first | (go_at_call 126; refine (HC.out _).mono ?_; rintro e w5 ⟨rfl, g5⟩; have B5 := Lib.hid (BoxM.kept (w := w4.drew) B4.out g5); have G5 := Lib.hid ((grown_drew G4.out).trans g5); obtain ⟨r0, r1, r2, -, -, -⟩ := (BoxM.kept (w := w4.drew) BQ.out g5).cells; obtain ⟨c0, c1, c2, f0, f1, f2⟩ := B5.out.cells))
        all_goals
          obtain ⟨bz, gz⟩ := B5.out.put ⟨x3, n1, y⟩
          unfold putM at bz gz
          simp only at bz gz
          generalize (((w5.setCell ⟨p, 0, none⟩ (.string x3)).setCell ⟨p, 1, none⟩ (.int .i64 n1)).setCell ⟨p, 2, none⟩ (.string y)) = wz at *
          have BZ := Lib.hid bz; have GZ := Lib.hid (grown_none G5.out gz PS.out)
          clear bz gz
          obtain ⟨d0, d1, d2, -, -, -⟩ := BZ.out.cells
          have hd : decide ((zz : Int) ≤ (s.size : Int)) = decide (zz ≤ s.size) := decide_eq_decide.2 (by omega)
          rw [hd] at HF
          go_wp2
          exact bodyPost_ret (v := .tuple #[valM ⟨x3, n1, y⟩, .bool (decide (zz ≤ s.size))]) (by simp [valM, results, Tryz.results125, go_sem, d0, d1, d2]) rfl ⟨⟨x3, n1, y⟩, _, rfl, HF.out, by have := Z3.out; unfold maxLen; simp only; omega, by simp only; omega, GZ.out⟩
    · have HF := Lib.hid (first_no nilM (s := s.data.toList) (.inr (.inr (.inl e2))))
      clear e1 e2 R1 R2
      go_wp2
      obtain ⟨bz, gz⟩ := B3.out.put nilM
      unfold putM nilM at bz gz
      simp only at bz gz
      generalize (((w3.setCell ⟨p, 0, none⟩ (.string ⟨#[]⟩)).setCell ⟨p, 1, none⟩ (.int .i64 0)).setCell ⟨p, 2, none⟩ (.string ⟨#[]⟩)) = wz at *
      have BZ := Lib.hid bz; have GZ := Lib.hid (grown_none G3.out gz PS.out)
      clear bz gz
      obtain ⟨d0, d1, d2, -, -, -⟩ := BZ.out.cells
      exact bodyPost_ret (v := .tuple #[valM nilM, .bool false]) (by simp [valM, nilM, results, Tryz.results125, go_sem, d0, d1, d2]) rfl ⟨nilM, false, rfl, HF.out, by unfold nilM maxLen; decide, Nat.zero_le _, GZ.out⟩
  · have HF := Lib.hid (first_no nilM (s := s.data.toList) (.inr (.inl e1)))
    clear e1 R1 R2
    go_wp2
    obtain ⟨bz, gz⟩ := B3.out.put nilM
    unfold putM nilM at bz gz
    simp only at bz gz
    generalize (((w3.setCell ⟨p, 0, none⟩ (.string ⟨#[]⟩)).setCell ⟨p, 1, none⟩ (.int .i64 0)).setCell ⟨p, 2, none⟩ (.string ⟨#[]⟩)) = wz at *
    have BZ := Lib.hid bz; have GZ := Lib.hid (grown_none G3.out gz PS.out)
    clear bz gz
    obtain ⟨d0, d1, d2, -, -, -⟩ := BZ.out.cells
    exact bodyPost_ret (v := .tuple #[valM nilM, .bool false]) (by simp [valM, nilM, results, Tryz.results125, go_sem, d0, d1, d2]) rfl ⟨nilM, false, rfl, HF.out, by unfold nilM maxLen; decide, Nat.zero_le _, GZ.out⟩
end Go.Proofs.YtbcemenfklgnkaaGreatDoor

namespace Go.Proofs.YtbcemenfklgnkaaGreatDoor
open Go.RowKit

theorem infoMember : (Tryz.prog.info? 113).map (fun i => (i.zero, i.size, i.bytes)) = some (some (.agg #[.string ByteArray.empty, .int .i64 0, .string ByteArray.empty]), 3, 40) := by kernel_rfl
theorem newsAtM (w : World) (m : Mb) (t : TypeId) (p : Nat) (hp : p = w.heap.size) : ∀ j u, ([.string m.n, .int .i64 m.t, .string m.c] : List Value)[j]? = some u → (w.alloc (.cells #[.string m.n, .int .i64 m.t, .string m.c] t)).cell? ((⟨p, 0, none⟩ : Addr).add j) = some u := by
  subst hp; exact newsM w m t
theorem OwnM.snoc {w : World} {base : Nat} {e : TypeId} {v : Value} {l : List Mb} {m : Mb} {n : Nat} {xs : List Value} (h : ∀ x ∈ l, x.n.size ≤ maxLen ∧ x.c.size ≤ maxLen) (h1 : m.n.size ≤ maxLen) (h2 : m.c.size ≤ maxLen) (ho : w.ownsRow base e 3 v n xs) (hn : n = l.length + 1) (hx : xs = cellsM l ++ [.string m.n, .int .i64 m.t, .string m.c]) : OwnM w base e v (l ++ [m]) := by
  refine ⟨?_, fun x hx => ?_⟩
  · rw [List.length_append, List.length_singleton, cellsM_snoc, ← hn, ← hx]; exact ho
  · rcases List.mem_append.1 hx with hx | hx
    · exact h x hx
    · rw [List.mem_singleton] at hx; subst hx; exact ⟨h1, h2⟩
theorem OwnM.base {w : World} {base base' : Nat} {e : TypeId} {v : Value} {l : List Mb} (h : OwnM w base e v l) (hb : base' ≤ base) : OwnM w base' e v l := by
  obtain ⟨⟨h1, h2⟩, h3⟩ := h
  refine ⟨⟨h1, ?_⟩, h3⟩
  rcases h2 with h2 | ⟨g, cap, cur, e1, e2, r⟩
  · exact .inl h2
  · exact .inr ⟨g, cap, cur, e1, Nat.le_trans hb e2, r⟩

theorem aCut (s p : ByteArray) (w : World) :
    Calls Tryz.prog 124 #[.string s, .string p] w fun e w' => e = .returned (.tuple #[.string ⟨(Lib.trimPrefix s.data.toList p.data.toList).toArray⟩, .bool (Lib.hasPrefix s.data.toList p.data.toList)]) ∧ w = w' :=
  (Tryz.strings_CutPrefix s p w).mono fun _ _ ⟨h1, h2⟩ => ⟨h1, h2.symm⟩
theorem BoxM.keptBut {w w' : World} {p : Nat} {m : Mb} {row : Option Nat} (h : BoxM w p m) (hg : w.grownBy w' row) (hne : some p ≠ row) : BoxM w' p m := (hg.block p (Array.getElem?_eq_some_iff.1 h).1 hne).trans h
theorem ext_drop (s : ByteArray) (k : Nat) : (s.extract k s.size).data.toList = s.data.toList.drop k := by
  rw [ext_list, List.take_of_length_le (by rw [List.length_drop, bytes_len]; exact Nat.le_refl _)]
theorem not_own {w : World} {base : Nat} {e : TypeId} {size : Nat} {v : Value} {n : Nat} {xs : List Value} (h : w.ownsRow base e size v n xs) {b : Nat} (hb : b < base ∨ w.heap.size ≤ b) : some b ≠ v.ownBlock := fun e => by
  have := h.lt b e.symm
  omega
/-- what split answers -/
def SplitPost (s : ByteArray) (w : World) (e : Ending) (w' : World) : Prop :=
  ∃ (v : Value) (acc : List Mb) (ok : Bool), e = .returned (.tuple #[v, .bool ok]) ∧ OwnM w' w.heap.size 113 v acc ∧ sumM acc ≤ s.size ∧ (ok = true → ∀ l, Arch s l → l = acc) ∧ (ok = false → ∀ l, ¬ Arch s l) ∧ w.grownBy w' none

set_option maxRecDepth 100000 in
set_option maxHeartbeats 4000000 in
theorem aSplit (s : ByteArray) (A : Nat → Addr) (w : World) (hE : Env A w) (hs : s.size ≤ 100000) :
    Calls Tryz.prog 106 #[.string s] w (SplitPost s w) := by
  have hc := aCut s ⟨#[33, 60, 97, 114, 99, 104, 62, 10]⟩ w
  rw [show (⟨#[33, 60, 97, 114, 99, 104, 62, 10]⟩ : ByteArray).data.toList = magL by rfl] at hc
  cases hq : Lib.hasPrefix s.data.toList magL
  · rw [hq] at hc
    have HN := Lib.hid (show ∀ l, ¬ Arch s l from fun l hl => by rw [arch_mag hl] at hq; cases hq)
    have HC := Lib.hid hc
    clear hc hq
    go_enter Tryz.func106, Tryz.ntmps106
    go_wp2_with (go_at_call 124; refine (HC.out).mono ?_; rintro e w' ⟨rfl, rfl⟩)
    go_ret2
    exact ⟨_, [], false, rfl, OwnM.nil _ _ _, by simp [sumM], fun e => (by cases e), fun _ => HN.out, World.grownBy.refl _ _⟩
  rw [hq] at hc
  have hr := mag_rest hq
  obtain ⟨r0, hr0⟩ : ∃ r0 : ByteArray, r0 = ⟨(Lib.trimPrefix s.data.toList magL).toArray⟩ := ⟨_, rfl⟩
  rw [← hr0] at hc
  have hr1 : s.data.toList = magL ++ r0.data.toList := by rw [hr, hr0]
  have REM := Lib.hid (rem_start hr1)
  have hrs : r0.size ≤ s.size := by
    have := congrArg List.length hr1
    rw [List.length_append, bytes_len, bytes_len] at this; omega
  have HC := Lib.hid hc
  have HE := Lib.hid hE
  obtain ⟨i0, hi, hz0, hz1, hz2⟩ := info_parts infoMember
  have I := Lib.hid hi; have Z0 := Lib.hid hz0; have Z1 := Lib.hid hz1; have Z2 := Lib.hid hz2
  clear hi hz0 hz1 hz2 hc hq hr hr0 hr1 hE
  go_enter Tryz.func106, Tryz.ntmps106
  go_wp2_with (go_at_call 124; refine (HC.out).mono ?_; rintro e w' ⟨rfl, rfl⟩)
  go_loopg [4, 6, 7, 8] r0.size (fun g r v _ _ wr => ∃ (x : ByteArray) (acc : List Mb), r = .string x ∧ x.size ≤ r0.size ∧ g = x.size ∧ Hid (OwnM wr w.heap.size 113 v acc) ∧ Hid (sumM acc + x.size ≤ s.size) ∧ Hid (Rem s acc x.data.toList) ∧ Hid (w.grownBy wr none))
  case atStart => exact ⟨r0, [], rfl, Nat.le_refl _, rfl, Lib.hid (OwnM.nil _ _ _), Lib.hid (by simp [sumM]; exact hrs), REM, Lib.hid (World.grownBy.refl _ _)⟩
  case round =>
    obtain ⟨x, acc, rfl, hxs, rfl, hO, hS, hR, hG⟩ := hrel
    cases hq : x.toList.isEmpty
    · have hne : x.data.toList ≠ [] := by
        intro e; rw [Lib.toList_data, e] at hq; cases hq
      have NE := Lib.hid hne
      have HF := Lib.hid (aFirst x A wr (HE.out.grown hG.out) (by omega))
      clear hne
      go_wp2_with fail
      refine HF.out.mono ?_
      rintro e w1 ⟨m, ok, rfl, hf, hn, hc, hg⟩
      cases ok
      · have HN := Lib.hid (rem_not hR.out NE.out (fun m r h1 h2 => by have := (hf.2 m r h1 h2).1; cases this))
        have G2 := Lib.hid (hG.out.trans hg)
        clear hf hn hc hg
        unfold valM
        go_wp2
        go_ret2
        exact ⟨_, [], false, rfl, OwnM.nil _ _ _, by simp [sumM], fun e => (by cases e), fun _ => HN.out, G2.out.trans (World.grownBy_alloc _ _ _)⟩
      · have hsz := hf.1 rfl
        rw [bytes_len] at hsz
        have HNX := Lib.hid (rem_next hR.out NE.out (x := m) (fun m' r h1 h2 => (hf.2 m' r h1 h2).2))
        have G2 := Lib.hid (hG.out.trans hg)
        have O2 := Lib.hid (hO.out.kept hg)
        have BX := Lib.hid ((box_new w1 m).kept (World.grownBy_alloc _ (.cells #[.string m.n, .int .i64 m.t, .string m.c] 113) none))
        have NB := Lib.hid (not_own O2.out.1 (b := w1.heap.size) (.inr (Nat.le_refl _)))
        have LEN := Lib.hid (show acc.length ≤ 100000 by
          have h1 : ∀ l : List Mb, l.length ≤ sumM l := by
            intro l
            induction l with
            | nil => simp [sumM]
            | cons a r ih => have : sumM (a :: r) = sizeM a + sumM r := by simp [sumM]
                             rw [this, List.length_cons]; unfold sizeM; omega
          have := h1 acc; have := hS.out; omega)
        have HB := Lib.hid G2.out.size
        have MS := Lib.hid (show m.n.size ≤ maxLen ∧ m.c.size ≤ maxLen from ⟨hn, by unfold maxLen; omega⟩)
        have hcon := fun (W : World) => aSize m W (by omega)
        have SUM := Lib.hid (show sumM (acc ++ [m]) + (x.size - sizeM m) ≤ s.size by rw [sumM_snoc]; have := hS.out; omega)
        have hpos : 60 ≤ sizeM m := by unfold sizeM; omega
        unfold valM at hcon ⊢
        have HCS := Lib.hid hcon
        have HX := Lib.hid (ext_drop x (sizeM m))
        have hsi : ((sizeM m : Nat) : Int) ≤ (x.size : Int) := by omega
        have hl40 : acc.length ≤ 100000 := LEN.out
        clear hcon hf hc hg hn hR hO hG hS LEN
        generalize sizeM m = z at *
        go_wp2_with (first
          | (at_builtin; refine wpList_append_own _ rfl _ _ 141 rfl w.heap.size 113 i0 _ 3 40 Tryz.underlying141 I.out Z0.out Z1.out Z2.out rfl (by decide) _ _ _ rfl ((O2.out.1.alloc _).alloc _) ⟨_, 0, none⟩ 1 1 [.string m.n, .int .i64 m.t, .string m.c] rfl rfl (newsAtM _ m _ _ (by simp)) (oneM m) (by unfold maxLen; omega) (by omega) (by have := HB.out; simp; omega) ?_; intro v' w2 hown' hgrow2 hnil2; have O3 := Lib.hid (OwnM.snoc O2.out.2 MS.out.1 MS.out.2 hown' rfl rfl); have G3 := Lib.hid (((G2.out.trans (World.grownBy_alloc w1 (.cells #[.string m.n, .int .i64 m.t, .string m.c] 113) none)).trans (World.grownBy_alloc _ (.cells #[.string m.n, .int .i64 m.t, .string m.c] 113) none)).andThen hgrow2 (fun j e => .inl (O2.out.1.lt j e).1)); obtain ⟨k0, k1, k2, -, -, -⟩ := (BX.out.keptBut hgrow2 NB.out).cells; clear hown' hgrow2 hnil2)
          | (go_at_call 126; refine (HCS.out _).mono ?_; rintro e w3 ⟨rfl, hg3⟩; have O4 := Lib.hid (O3.out.kept hg3); have G4 := Lib.hid (G3.out.trans hg3); clear hg3))
        go_roundg (x.extract z x.size).size
        case measure => rw [ByteArray.size_extract]; omega
        case rel => exact ⟨_, acc ++ [m], rfl, by rw [ByteArray.size_extract]; omega, rfl, O4, Lib.hid (by rw [ByteArray.size_extract]; have := SUM.out; omega), Lib.hid (by rw [HX.out]; exact HNX.out), G4⟩
    · have he : x.data.toList = [] := by
        rw [Lib.toList_data] at hq
        simpa using hq
      have REND := Lib.hid (rem_end (s := s) (acc := acc) (by have := hR.out; rwa [he] at this))
      clear he
      go_wp2
      go_ret2
      exact ⟨_, acc, true, rfl, hO.out, by have := hS.out; omega, fun _ => REND.out, fun e => (by cases e), hG.out⟩
end Go.Proofs.YtbcemenfklgnkaaGreatDoor

/- Walks of package ar: the member with which a text begins. -/
import Derived.Test.YtgicfbhhnohndaaGreatDoorArE
import Derived.IntWalk
namespace Go.Proofs.YtgicfbhhnohndaaGreatDoor
open Go.RowKit

theorem ext_list (s : ByteArray) (a b : Nat) : (s.extract a b).data.toList = (s.data.toList.drop a).take (b - a) := by rw [Lib.extract_eq]
/-- a cell that holds a member, and that can be written -/
def BoxM (w : World) (p : Nat) (m : Mb) : Prop := w.heap[p]? = some (.cells #[.string m.n, .int .i64 m.t, .string m.c] 35 (0, 0))
theorem BoxM.kept {w w' : World} {p : Nat} {m : Mb} (h : BoxM w p m) (hg : w.grownBy w' none) : BoxM w' p m := (hg.block p (Array.getElem?_eq_some_iff.1 h).1 (by simp)).trans h
theorem BoxM.cells {w : World} {p : Nat} {m : Mb} (h : BoxM w p m) : w.cell? ⟨p, 0, none⟩ = some (.string m.n) ∧ w.cell? ⟨p, 1, none⟩ = some (.int .i64 m.t) ∧ w.cell? ⟨p, 2, none⟩ = some (.string m.c) ∧
    w.frozen? ⟨p, 0, none⟩ = false ∧ w.frozen? ⟨p, 1, none⟩ = false ∧ w.frozen? ⟨p, 2, none⟩ = false := by
  unfold BoxM at h
  refine ⟨?_, ?_, ?_, frozen_of_row w p 0 _ _ h, frozen_of_row w p 1 _ _ h, frozen_of_row w p 2 _ _ h⟩
  all_goals simp [World.cell?, h]
theorem box_new (w : World) (m : Mb) : BoxM (w.alloc (.cells #[.string m.n, .int .i64 m.t, .string m.c] 35)) w.heap.size m := heap_alloc_new w _
theorem BoxM.lt {w : World} {p : Nat} {m : Mb} (h : BoxM w p m) : p < w.heap.size := (Array.getElem?_eq_some_iff.1 h).1

def putM (w : World) (p : Nat) (m : Mb) : World := ((w.setCell ⟨p, 0, none⟩ (.string m.n)).setCell ⟨p, 1, none⟩ (.int .i64 m.t)).setCell ⟨p, 2, none⟩ (.string m.c)
theorem BoxM.put {w : World} {p : Nat} {m : Mb} (h : BoxM w p m) (x : Mb) : BoxM (putM w p x) p x ∧ w.grownBy (putM w p x) (some p) := by
  have one : ∀ (W : World) (o : Nat) (u : Value), W.grownBy (W.setCell ⟨p, o, none⟩ u) (some p) := fun W o u =>
    ⟨rfl, rfl, rfl, by simp, fun k _ hk => heap_setCell_other W ⟨p, o, none⟩ k u (fun e => hk (by simp [e]))⟩
  refine ⟨?_, ((one _ _ _).trans (one _ _ _)).trans (one _ _ _)⟩
  have h1 := heap_setCell_same w p 0 _ _ (.string x.n) h
  have h2 := heap_setCell_same _ p 1 _ _ (.int .i64 x.t) h1
  have h3 := heap_setCell_same _ p 2 _ _ (.string x.c) h2
  exact h3
/-- what first answers -/
def FirstPost (s : ByteArray) (w : World) (e : Ending) (w' : World) : Prop :=
  ∃ (x : Mb) (ok : Bool), e = .returned (.tuple #[valM x, .bool ok]) ∧ FirstOf s.data.toList x ok ∧ x.n.size ≤ maxLen ∧ x.c.size ≤ s.size ∧ w.grownBy w' none

set_option maxRecDepth 100000 in
set_option maxHeartbeats 4000000 in
theorem aFirst (s : ByteArray) (A : Nat → Addr) (w : World) (hE : Env A w) (hs : s.size ≤ 100000) :
    Calls Tryz.prog 39 #[.string s] w (FirstPost s w) := by
  by_cases h60 : s.size < 60
  · have HF := Lib.hid (first_no nilM (s := s.data.toList) (.inl (by rw [bytes_len]; exact h60)))
    go_enter Tryz.func39, Tryz.ntmps39
    go_wp2
    exact bodyPost_ret (v := .tuple #[valM nilM, .bool false]) (by simp [valM, nilM, results, Tryz.results39, go_sem]) rfl ⟨nilM, false, rfl, HF.out, by unfold nilM maxLen; decide, Nat.zero_le _, World.grownBy_alloc _ _ _⟩
  have HE := Lib.hid hE
  have HB := Lib.hid (box_new w nilM)
  have G0 := Lib.hid (World.grownBy_alloc w (.cells #[.string nilM.n, .int .i64 nilM.t, .string nilM.c] 35) none)
  have s1 : (s.extract 16 28).size = 12 := by rw [ByteArray.size_extract]; omega
  have s2 : (s.extract 48 58).size = 10 := by rw [ByteArray.size_extract]; omega
  obtain ⟨x1, hx1, z1⟩ := some_ba (Lib.trimRightB (s.extract 16 28).data.toList 32)
  obtain ⟨x2, hx2, z2⟩ := some_ba (Lib.trimRightB (s.extract 48 58).data.toList 32)
  have t1 := trim_len (s.extract 16 28).data.toList
  have t2 := trim_len (s.extract 48 58).data.toList
  rw [bytes_len, s1] at t1
  rw [bytes_len, s2] at t2
  have T1 := Lib.hid (show Lib.atoi x1.data.toList = fT s.data.toList by rw [hx1, ext_list]; rfl)
  have T2 := Lib.hid (show Lib.atoi x2.data.toList = fZ s.data.toList by rw [hx2, ext_list]; rfl)
  have HU1 := Lib.hid (fun W => aUn (s := s.extract 16 28) W (by rw [s1]; decide) hx1)
  have HU2 := Lib.hid (fun W => aUn (s := s.extract 48 58) W (by rw [s2]; decide) hx2)
  have HA1 := Lib.hid (fun (W : World) (hW : Env A W) => aAtoi (s := x1) W hW (by omega))
  have HA2 := Lib.hid (fun (W : World) (hW : Env A W) => aAtoi (s := x2) W hW (by omega))
  clear hE hx1 hx2 s1 s2 z1 z2 t1 t2
  unfold nilM at HB G0
  simp only at HB G0
  go_enter Tryz.func39, Tryz.ntmps39
  go_wp2_with fail
  generalize (w.alloc (.cells #[.string ⟨#[]⟩, .int .i64 0, .string ⟨#[]⟩] 35)) = w1 at *
  generalize hp : w.heap.size = p at *
  have PS := Lib.hid (show w.heap.size ≤ p by omega)
  clear hp
  refine (HU1.out _).mono ?_
  rintro e w' ⟨rfl, rfl⟩
  go_wp2_with fail
  refine (HA1.out _ (HE.out.grown G0.out)).mono ?_
  rintro e w2 ⟨n1, v1, rfl, r1, g1⟩
  have G2 := Lib.hid (G0.out.trans g1)
  have B2 := Lib.hid (HB.out.kept g1)
  rw [T1.out] at r1
  have R1 := Lib.hid r1
  clear g1 G0 HB r1
  go_wp2_with fail
  refine (HU2.out _).mono ?_
  rintro e w' ⟨rfl, rfl⟩
  go_wp2_with fail
  refine (HA2.out _ (HE.out.grown G2.out)).mono ?_
  rintro e w3 ⟨n2, v2, rfl, r2, g2⟩
  have G3 := Lib.hid (G2.out.trans g2)
  have B3 := Lib.hid (B2.out.kept g2)
  rw [T2.out] at r2
  have R2 := Lib.hid r2
  clear g2 G2 B2 r2 HA1 HA2 HU1 HU2 T1 T2
  obtain ⟨c0, c1, c2, f0, f1, f2⟩ := B3.out.cells
  have plt := B3.out.lt
  rcases R1.out with ⟨e1, rfl⟩ | ⟨e1, ta, aa, rfl⟩
  · rcases R2.out with ⟨e2, rfl⟩ | ⟨e2, tb, ab, rfl⟩
    · by_cases hz : n2 < 0
      · have HF := Lib.hid (first_no nilM (s := s.data.toList) (.inr (.inr (.inr ⟨n2, e2, .inl hz⟩))))
        clear e1 e2 R1 R2
        go_wp2
        obtain ⟨bz, gz⟩ := B3.out.put nilM
        unfold putM nilM at bz gz
        simp only at bz gz
        generalize (((w3.setCell ⟨p, 0, none⟩ (.string ⟨#[]⟩)).setCell ⟨p, 1, none⟩ (.int .i64 0)).setCell ⟨p, 2, none⟩ (.string ⟨#[]⟩)) = wz at *
        have BZ := Lib.hid bz; have GZ := Lib.hid (grown_none G3.out gz PS.out)
        clear bz gz
        obtain ⟨d0, d1, d2, -, -, -⟩ := BZ.out.cells
        exact bodyPost_ret (v := .tuple #[valM nilM, .bool false]) (by simp [valM, nilM, results, Tryz.results39, go_sem, d0, d1, d2]) rfl ⟨nilM, false, rfl, HF.out, by unfold nilM maxLen; decide, Nat.zero_le _, GZ.out⟩
      by_cases hz2 : (s.size : Int) - 60 < n2
      · have HF := Lib.hid (first_no nilM (s := s.data.toList) (.inr (.inr (.inr ⟨n2, e2, .inr (by rw [bytes_len]; exact hz2)⟩))))
        clear e1 e2 R1 R2
        go_wp2
        obtain ⟨bz, gz⟩ := B3.out.put nilM
        unfold putM nilM at bz gz
        simp only at bz gz
        generalize (((w3.setCell ⟨p, 0, none⟩ (.string ⟨#[]⟩)).setCell ⟨p, 1, none⟩ (.int .i64 0)).setCell ⟨p, 2, none⟩ (.string ⟨#[]⟩)) = wz at *
        have BZ := Lib.hid bz; have GZ := Lib.hid (grown_none G3.out gz PS.out)
        clear bz gz
        obtain ⟨d0, d1, d2, -, -, -⟩ := BZ.out.cells
        exact bodyPost_ret (v := .tuple #[valM nilM, .bool false]) (by simp [valM, nilM, results, Tryz.results39, go_sem, d0, d1, d2]) rfl ⟨nilM, false, rfl, HF.out, by unfold nilM maxLen; decide, Nat.zero_le _, GZ.out⟩
      obtain ⟨z, rfl⟩ := Int.eq_ofNat_of_zero_le (show 0 ≤ n2 by omega)
      have E1 := Lib.hid e1; have E2 := Lib.hid e2
      clear e1 e2 R1 R2
      have hz3 : (z : Int) ≤ (s.size : Int) - 60 := by omega
      have s3 : (s.extract 0 16).size = 16 := by rw [ByteArray.size_extract]; omega
      obtain ⟨x3, hx3, z3⟩ := some_ba (Lib.trimRightB (s.extract 0 16).data.toList 32)
      have t3 := trim_len (s.extract 0 16).data.toList
      rw [bytes_len, s3] at t3
      have HU3 := Lib.hid (fun W => aUn (s := s.extract 0 16) W (by rw [s3]; decide) hx3)
      have X3 := Lib.hid (show x3.data.toList = Lib.trimRightB (s.data.toList.take 16) 32 by rw [hx3, ext_list]; rfl)
      have Z3 := Lib.hid (show x3.size ≤ 16 by omega)
      have hw1 : IntKind.i64.wrap (60 + (z : Int)) = 60 + (z : Int) := IntWalk.i64_in _ (by omega)
      have hw2 : (0 : Int) ≤ 60 + (z : Int) := by omega
      have hw3 : (60 + (z : Int)).toNat = 60 + z := by omega
      have hw4 : (60 : Int) ≤ 60 + (z : Int) := by omega
      have hw5 : 60 + (z : Int) ≤ (s.size : Int) := by omega
      have hw6 : (16 : Int) ≤ (s.size : Int) := by omega
      clear s3 z3 t3 hx3
      go_wp2
      go_region_with ((go_at_call 49; refine (HU3.out _).mono ?_; rintro e w' ⟨rfl, rfl⟩))
      all_goals
        generalize hy : s.extract 60 (60 + z) = y at *
        have hys : y.size = z := by rw [← hy, ByteArray.size_extract]; omega
        have hyl : y.data.toList = (s.data.toList.drop 60).take z := by rw [← hy, ext_list]; congr 1; omega
        have BQ := Lib.hid (show BoxM ((w3.alloc (.cells #[.string x3, .int .i64 n1, .string y] 35)).drew) w3.heap.size ⟨x3, n1, y⟩ from box_new w3 ⟨x3, n1, y⟩)
        have G4 := Lib.hid (grown_drew (G3.out.trans (World.grownBy_alloc w3 (.cells #[.string x3, .int .i64 n1, .string y] 35) none)))
        have B4 := Lib.hid (B3.out.kept (grown_drew (World.grownBy_alloc w3 (.cells #[.string x3, .int .i64 n1, .string y] 35) none)))
        generalize (w3.alloc (.cells #[.string x3, .int .i64 n1, .string y] 35)).drew = w4 at *
        have NE := Lib.hid (show some w3.heap.size ≠ some p by intro e; have := Option.some.inj e; omega)
        generalize w3.heap.size = q at *
        subst hys
        have YL := Lib.hid hyl
        clear hy hyl hw1 hw2 hw3 hw4 hw5 hw6 G3 B3 f0 f1 f2 plt HU3
        have HF := Lib.hid (first_yes (s := s.data.toList) (x := ⟨x3, n1, y⟩) X3.out E1.out E2.out YL.out)
        clear X3 E1 E2 YL
        have hcon := fun (W : World) => aSize ⟨x3, n1, y⟩ W (show y.size ≤ 140737488350000 by omega)
        unfold valM at hcon
        simp only at hcon
        have HC := Lib.hid hcon
        clear hcon
        have SB := Lib.hid (show sizeM ⟨x3, n1, y⟩ ≤ 200000 by unfold sizeM; simp only; omega)
        rw [bytes_len] at HF
        generalize sizeM ⟨x3, n1, y⟩ = zz at HC SB HF
        obtain ⟨q0, q1, q2, -, -, -⟩ := BQ.out.cells
        simp only at q0 q1 q2
        go_wp2
        go_region_held3 (fun W => W.cell? ⟨q, 0, none⟩ = some (.string x3) ∧ W.cell? ⟨q, 1, none⟩ = some (.int .i64 n1) ∧ W.cell? ⟨q, 2, none⟩ = some (.string y))
          (first | exact ⟨q0, q1, q2⟩ | exact ⟨r0, r1, r2⟩ | exact ⟨(B5.out.put ⟨x3, n1, y⟩).2.cell r0 NE.out, (B5.out.put ⟨x3, n1, y⟩).2.cell r1 NE.out, (B5.out.put ⟨x3, n1, y⟩).2.cell r2 NE.out⟩)
          (first | (go_at_call 12; refine (HC.out _).mono ?_; rintro e w5 ⟨rfl, g5⟩; have B5 := Lib.hid (BoxM.kept (w := w4.drew) B4.out g5); have G5 := Lib.hid ((grown_drew G4.out).trans g5); obtain ⟨r0, r1, r2, -, -, -⟩ := (BoxM.kept (w := w4.drew) BQ.out g5).cells; obtain ⟨c0, c1, c2, f0, f1, f2⟩ := B5.out.cells))
        all_goals
          obtain ⟨bz, gz⟩ := B5.out.put ⟨x3, n1, y⟩
          unfold putM at bz gz
          simp only at bz gz
          generalize (((w5.setCell ⟨p, 0, none⟩ (.string x3)).setCell ⟨p, 1, none⟩ (.int .i64 n1)).setCell ⟨p, 2, none⟩ (.string y)) = wz at *
          have BZ := Lib.hid bz; have GZ := Lib.hid (grown_none G5.out gz PS.out)
          clear bz gz
          obtain ⟨d0, d1, d2, -, -, -⟩ := BZ.out.cells
          have hd : decide ((zz : Int) ≤ (s.size : Int)) = decide (zz ≤ s.size) := decide_eq_decide.2 (by omega)
          rw [hd] at HF
          go_wp2
          exact bodyPost_ret (v := .tuple #[valM ⟨x3, n1, y⟩, .bool (decide (zz ≤ s.size))]) (by simp [valM, results, Tryz.results39, go_sem, d0, d1, d2]) rfl ⟨⟨x3, n1, y⟩, _, rfl, HF.out, by have := Z3.out; unfold maxLen; simp only; omega, by simp only; omega, GZ.out⟩
    · have HF := Lib.hid (first_no nilM (s := s.data.toList) (.inr (.inr (.inl e2))))
      clear e1 e2 R1 R2
      go_wp2
      obtain ⟨bz, gz⟩ := B3.out.put nilM
      unfold putM nilM at bz gz
      simp only at bz gz
      generalize (((w3.setCell ⟨p, 0, none⟩ (.string ⟨#[]⟩)).setCell ⟨p, 1, none⟩ (.int .i64 0)).setCell ⟨p, 2, none⟩ (.string ⟨#[]⟩)) = wz at *
      have BZ := Lib.hid bz; have GZ := Lib.hid (grown_none G3.out gz PS.out)
      clear bz gz
      obtain ⟨d0, d1, d2, -, -, -⟩ := BZ.out.cells
      exact bodyPost_ret (v := .tuple #[valM nilM, .bool false]) (by simp [valM, nilM, results, Tryz.results39, go_sem, d0, d1, d2]) rfl ⟨nilM, false, rfl, HF.out, by unfold nilM maxLen; decide, Nat.zero_le _, GZ.out⟩
  · have HF := Lib.hid (first_no nilM (s := s.data.toList) (.inr (.inl e1)))
    clear e1 R1 R2
    go_wp2
    obtain ⟨bz, gz⟩ := B3.out.put nilM
    unfold putM nilM at bz gz
    simp only at bz gz
    generalize (((w3.setCell ⟨p, 0, none⟩ (.string ⟨#[]⟩)).setCell ⟨p, 1, none⟩ (.int .i64 0)).setCell ⟨p, 2, none⟩ (.string ⟨#[]⟩)) = wz at *
    have BZ := Lib.hid bz; have GZ := Lib.hid (grown_none G3.out gz PS.out)
    clear bz gz
    obtain ⟨d0, d1, d2, -, -, -⟩ := BZ.out.cells
    exact bodyPost_ret (v := .tuple #[valM nilM, .bool false]) (by simp [valM, nilM, results, Tryz.results39, go_sem, d0, d1, d2]) rfl ⟨nilM, false, rfl, HF.out, by unfold nilM maxLen; decide, Nat.zero_le _, GZ.out⟩
end Go.Proofs.YtgicfbhhnohndaaGreatDoor

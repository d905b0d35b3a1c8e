/- Walks of package ar: Find. -/
import Derived.Test.YtgicfbhhnohndaaGreatDoorArI
namespace Go.Proofs.YtgicfbhhnohndaaGreatDoor
open Go.RowKit

/-- a text's member of a name -/
noncomputable def foundM (s nm : ByteArray) : Option Mb := (archOf s).bind fun l => (findI l nm).bind fun i => l[i]?
theorem found_none {s nm : ByteArray} (h : archOf s = none) : foundM s nm = none := by unfold foundM; rw [h]; rfl
theorem found_miss {s nm : ByteArray} {l : List Mb} (h : archOf s = some l) (h2 : findI l nm = none) : foundM s nm = none := by unfold foundM; rw [h]; simp [h2]
theorem found_hit {s nm : ByteArray} {l : List Mb} {i : Nat} {m : Mb} (h : archOf s = some l) (h2 : findI l nm = some i) (h3 : l[i]? = some m) : foundM s nm = some m := by unfold foundM; rw [h]; simp [h2, h3]
def FindPost (s nm : ByteArray) (w : World) (e : Ending) (w' : World) : Prop :=
  (foundM s nm = none ∧ e = .returned (.tuple #[valM nilM, .bool false]) ∧ w.grownBy w' none) ∨ (∃ m, foundM s nm = some m ∧ e = .returned (.tuple #[valM m, .bool true]) ∧ w.grownBy w' none)

set_option maxRecDepth 100000 in
set_option maxHeartbeats 4000000 in
theorem aFind (s nm : ByteArray) (A : Nat → Addr) (w : World) (hE : Env A w) (hs : s.size ≤ maxLen) :
    Calls Tryz.prog 15 #[.string s, .string nm] w (FindPost s nm w) := by
  have HE := Lib.hid hE
  have HB := Lib.hid (box_new w nilM)
  have G0 := Lib.hid (World.grownBy_alloc w (.cells #[.string nilM.n, .int .i64 nilM.t, .string nilM.c] 35) none)
  clear hE
  unfold nilM at HB G0
  simp only at HB G0
  cases h : archOf s with
  | none =>
    have HF := Lib.hid (found_none (nm := nm) h)
    have HP := Lib.hid (fun (W : World) (hW : Env A W) => aParse_no (w := W) hW hs h)
    clear h
    go_enter Tryz.func15, Tryz.ntmps15
    go_wp2_with fail
    generalize (w.alloc (.cells #[.string ⟨#[]⟩, .int .i64 0, .string ⟨#[]⟩] 35)) = w1 at *
    generalize hp : w.heap.size = p at *
    have PS := Lib.hid (show w.heap.size ≤ p by omega)
    clear hp
    refine (HP.out _ (HE.out.grown G0.out)).mono ?_
    rintro e w2 ⟨rfl, g2⟩
    have G2 := Lib.hid (G0.out.trans g2); have B2 := Lib.hid (HB.out.kept g2)
    clear g2 G0 HB HP
    go_wp2_with fail
    refine (aAt _ [] nm w2 (MRow.nil w2)).mono ?_
    rintro e w3 ⟨rfl, g3⟩
    have G3 := Lib.hid (G2.out.trans g3); have B3 := Lib.hid (B2.out.kept g3)
    clear g3 G2 B2
    rw [show idxI [] nm = -1 by rfl]
    obtain ⟨c0, c1, c2, f0, f1, f2⟩ := B3.out.cells
    go_wp2
    obtain ⟨bz, gz⟩ := B3.out.put nilM
    unfold putM nilM at bz gz
    simp only at bz gz
    generalize (((w3.setCell ⟨p, 0, none⟩ (.string ⟨#[]⟩)).setCell ⟨p, 1, none⟩ (.int .i64 0)).setCell ⟨p, 2, none⟩ (.string ⟨#[]⟩)) = wz at *
    have BZ := Lib.hid bz; have GZ := Lib.hid (grown_none G3.out gz PS.out)
    clear bz gz
    obtain ⟨d0, d1, d2, -, -, -⟩ := BZ.out.cells
    exact bodyPost_ret (v := .tuple #[valM nilM, .bool false]) (by simp [valM, nilM, results, Tryz.results15, go_sem, d0, d1, d2]) rfl (.inl ⟨HF.out, rfl, GZ.out⟩)
  | some l =>
    have HP := Lib.hid (fun (W : World) (hW : Env A W) => aParse_yes (w := W) hW hs h)
    cases hi : findI l nm with
    | none =>
      have HF := Lib.hid (found_miss h hi)
      have HI := Lib.hid (show idxI l nm = -1 by unfold idxI; rw [hi])
      clear h hi
      go_enter Tryz.func15, Tryz.ntmps15
      go_wp2_with fail
      generalize (w.alloc (.cells #[.string ⟨#[]⟩, .int .i64 0, .string ⟨#[]⟩] 35)) = w1 at *
      generalize hp : w.heap.size = p at *
      have PS := Lib.hid (show w.heap.size ≤ p by omega)
      clear hp
      refine (HP.out _ (HE.out.grown G0.out)).mono ?_
      rintro e w2 ⟨v, rfl, o2, g2⟩
      have G2 := Lib.hid (G0.out.trans g2); have B2 := Lib.hid (HB.out.kept g2); have R2 := Lib.hid o2.row
      clear g2 G0 HB HP o2
      go_wp2_with fail
      refine (aAt _ l nm w2 R2.out).mono ?_
      rintro e w3 ⟨rfl, g3⟩
      have G3 := Lib.hid (G2.out.trans g3); have B3 := Lib.hid (B2.out.kept g3)
      clear g3 G2 B2
      rw [HI.out]
      obtain ⟨c0, c1, c2, f0, f1, f2⟩ := B3.out.cells
      go_wp2
      obtain ⟨bz, gz⟩ := B3.out.put nilM
      unfold putM nilM at bz gz
      simp only at bz gz
      generalize (((w3.setCell ⟨p, 0, none⟩ (.string ⟨#[]⟩)).setCell ⟨p, 1, none⟩ (.int .i64 0)).setCell ⟨p, 2, none⟩ (.string ⟨#[]⟩)) = wz at *
      have BZ := Lib.hid bz; have GZ := Lib.hid (grown_none G3.out gz PS.out)
      clear bz gz
      obtain ⟨d0, d1, d2, -, -, -⟩ := BZ.out.cells
      exact bodyPost_ret (v := .tuple #[valM nilM, .bool false]) (by simp [valM, nilM, results, Tryz.results15, go_sem, d0, d1, d2]) rfl (.inl ⟨HF.out, rfl, GZ.out⟩)
    | some i =>
      obtain ⟨m, hm, -⟩ := findI_get hi
      have HF := Lib.hid (found_hit h hi hm)
      have HI := Lib.hid (show idxI l nm = i by unfold idxI; rw [hi])
      have Hm := Lib.hid hm
      have hil : i < l.length := (List.getElem?_eq_some_iff.1 hm).1
      clear h hi hm
      go_enter Tryz.func15, Tryz.ntmps15
      go_wp2_with fail
      generalize (w.alloc (.cells #[.string ⟨#[]⟩, .int .i64 0, .string ⟨#[]⟩] 35)) = w1 at *
      generalize hp : w.heap.size = p at *
      have PS := Lib.hid (show w.heap.size ≤ p by omega)
      clear hp
      refine (HP.out _ (HE.out.grown G0.out)).mono ?_
      rintro e w2 ⟨v, rfl, o2, g2⟩
      have G2 := Lib.hid (G0.out.trans g2); have B2 := Lib.hid (HB.out.kept g2); have R2 := Lib.hid o2.row
      clear g2 G0 HB HP o2
      go_wp2_with fail
      refine (aAt _ l nm w2 R2.out).mono ?_
      rintro e w3 ⟨rfl, g3⟩
      have G3 := Lib.hid (G2.out.trans g3); have B3 := Lib.hid (B2.out.kept g3)
      have R3 := R2.out.grown g3
      clear g3 G2 B2
      rw [HI.out]
      obtain ⟨b, off, c', m', rfl, hm', -, -, hb, y0, y1, y2⟩ := R3.at i hil
      have hmm : m' = m := by rw [Hm.out] at hm'; exact (Option.some.inj hm').symm
      subst hmm
      have hlen : (l.length : Int) ≤ 9223372036854775807 := by obtain ⟨_, _, _, hn, _⟩ := R3; omega
      clear hm' R3
      obtain ⟨c0, c1, c2, f0, f1, f2⟩ := B3.out.cells
      have hi0 : (0 : Int) ≤ (i : Int) := Int.natCast_nonneg _
      have hi1 : (i : Int) < (l.length : Int) := by omega
      go_wp2
      obtain ⟨bz, gz⟩ := B3.out.put m'
      unfold putM at bz gz
      generalize (((w3.setCell ⟨p, 0, none⟩ (.string m'.n)).setCell ⟨p, 1, none⟩ (.int .i64 m'.t)).setCell ⟨p, 2, none⟩ (.string m'.c)) = wz at *
      have BZ := Lib.hid bz; have GZ := Lib.hid (grown_none G3.out gz PS.out)
      clear bz gz
      obtain ⟨d0, d1, d2, -, -, -⟩ := BZ.out.cells
      exact bodyPost_ret (v := .tuple #[valM m', .bool true]) (by simp [valM, results, Tryz.results15, go_sem, d0, d1, d2]) rfl (.inr ⟨m', HF.out, rfl, GZ.out⟩)
theorem aFind_no {s nm : ByteArray} {A : Nat → Addr} {w : World} (hE : Env A w) (hs : s.size ≤ maxLen) (h : foundM s nm = none) :
    Calls Tryz.prog 15 #[.string s, .string nm] w fun e w' => e = .returned (.tuple #[valM nilM, .bool false]) ∧ w.grownBy w' none :=
  (aFind s nm A w hE hs).mono fun e w' hp => by
    rcases hp with ⟨_, h1, h2⟩ | ⟨m, h1, _⟩
    · exact ⟨h1, h2⟩
    · rw [h] at h1; cases h1
theorem aFind_yes {s nm : ByteArray} {A : Nat → Addr} {w : World} (hE : Env A w) (hs : s.size ≤ maxLen) {m : Mb} (h : foundM s nm = some m) :
    Calls Tryz.prog 15 #[.string s, .string nm] w fun e w' => e = .returned (.tuple #[valM m, .bool true]) ∧ w.grownBy w' none :=
  (aFind s nm A w hE hs).mono fun e w' hp => by
    rcases hp with ⟨h1, _⟩ | ⟨m', h1, h2, h3⟩
    · rw [h] at h1; cases h1
    · rw [h] at h1; obtain rfl := Option.some.inj h1; exact ⟨h2, h3⟩
end Go.Proofs.YtgicfbhhnohndaaGreatDoor

/- Walks of package ar: Set. -/
import Derived.Test.YtgicfbhhnohndaaGreatDoorArJ
namespace Go.Proofs.YtgicfbhhnohndaaGreatDoor
open Go.RowKit

/-- members with one that is set -/
def setM (l : List Mb) (m : Mb) : List Mb := match findI l m.n with | none => l ++ [m] | some i => l.set i m
theorem setM_none {l : List Mb} {m : Mb} (h : findI l m.n = none) : setM l m = l ++ [m] := by unfold setM; rw [h]
theorem setM_some {l : List Mb} {m : Mb} {i : Nat} (h : findI l m.n = some i) : setM l m = l.set i m := by unfold setM; rw [h]
theorem sumM_cons (a : Mb) (l : List Mb) : sumM (a :: l) = sizeM a + sumM l := by simp [sumM]
theorem sumM_set : ∀ (l : List Mb) (i : Nat) (m : Mb), sumM (l.set i m) ≤ sumM l + sizeM m
  | [], i, m => by simp [sumM]
  | a :: r, 0, m => by rw [List.set_cons_zero, sumM_cons, sumM_cons]; omega
  | a :: r, i + 1, m => by
    have := sumM_set r i m
    rw [List.set_cons_succ, sumM_cons, sumM_cons]; omega
theorem sumM_setM (l : List Mb) (m : Mb) : sumM (setM l m) ≤ sumM l + sizeM m := by
  unfold setM
  split
  · rw [sumM_snoc]; exact Nat.le_refl _
  · exact sumM_set _ _ _

theorem OwnM.store {w : World} {base : Nat} {e : TypeId} {g cap : Nat} {l : List Mb} (h : OwnM w base e (.slice (some ⟨g, 0, none⟩) l.length cap) l) {i : Nat} (hi : i < l.length) {m : Mb} (h1 : m.n.size ≤ maxLen) (h2 : m.c.size ≤ maxLen) :
    OwnM (((w.setCell ⟨g, i * 3, none⟩ (.string m.n)).setCell ⟨g, i * 3 + 1, none⟩ (.int .i64 m.t)).setCell ⟨g, i * 3 + 2, none⟩ (.string m.c)) base e (.slice (some ⟨g, 0, none⟩) l.length cap) (l.set i m) ∧
      w.grownBy (((w.setCell ⟨g, i * 3, none⟩ (.string m.n)).setCell ⟨g, i * 3 + 1, none⟩ (.int .i64 m.t)).setCell ⟨g, i * 3 + 2, none⟩ (.string m.c)) (some g) := by
  obtain ⟨o, hs⟩ := h
  obtain ⟨o1, g1⟩ := o.stored (i * 3) (.string m.n)
  obtain ⟨o2, g2⟩ := o1.stored (i * 3 + 1) (.int .i64 m.t)
  obtain ⟨o3, g3⟩ := o2.stored (i * 3 + 2) (.string m.c)
  refine ⟨⟨?_, fun x hx => ?_⟩, (g1.trans g2).trans g3⟩
  · rw [← cellsM_set l i m hi] at o3
    rw [List.length_set]; exact o3
  · rcases List.mem_or_eq_of_mem_set hx with h | rfl
    · exact hs x h
    · exact ⟨h1, h2⟩

/-- what Set answers of a text that is the archive of l -/
def SetPost (l : List Mb) (m : Mb) (A : Nat → Addr) (w : World) (e : Ending) (w' : World) : Prop :=
  (makeE (setM l m) ≠ 0 ∧ e = .returned (.tuple #[.string ⟨#[]⟩, .iface 146 (.pointer (some (A (makeE (setM l m)))))]) ∧ w.grownBy w' none) ∨
  (∃ x : ByteArray, makeE (setM l m) = 0 ∧ x.data.toList = makeL (setM l m) ∧ e = .returned (.tuple #[.string x, .nilIface]) ∧ w.grownBy w' none)
/-- Make, whatever comes of it -/
theorem aMake (v : Value) (l : List Mb) (m : Mb) (A : Nat → Addr) (w : World) (q : List Mb) (hq : q = setM l m) (h : MRow w v q) (hE : Env A w) (hs : sumM q ≤ 10000000) :
    Calls Tryz.prog 8 #[v] w fun e w' => ∃ (x : ByteArray) (y : Value), e = .returned (.tuple #[.string x, y]) ∧ w.grownBy w' none ∧
      ((makeE (setM l m) ≠ 0 ∧ x = ⟨#[]⟩ ∧ y = .iface 146 (.pointer (some (A (makeE (setM l m)))))) ∨ (makeE (setM l m) = 0 ∧ x.data.toList = makeL (setM l m) ∧ y = .nilIface)) := by
  subst hq
  by_cases hk : makeE (setM l m) = 0
  · obtain ⟨x, hx, -⟩ := some_ba (makeL (setM l m))
    refine (aMake_yes v _ A w h hE hk hx).mono ?_
    rintro e w' ⟨rfl, hg⟩
    exact ⟨x, _, rfl, hg, .inr ⟨hk, hx, rfl⟩⟩
  · refine (aMake_no v _ A w h hE hs hk).mono ?_
    rintro e w' ⟨rfl, hg⟩
    exact ⟨_, _, rfl, hg, .inl ⟨hk, rfl, rfl⟩⟩

/-- the text of which Set speaks -/
def startOf (s : ByteArray) : ByteArray := if s.toList.isEmpty = true then ⟨#[33, 60, 97, 114, 99, 104, 62, 10]⟩ else s

set_option maxRecDepth 100000 in
set_option maxHeartbeats 4000000 in
/-- behind the text: what comes of Set -/
theorem aSet (s : ByteArray) (m : Mb) (A : Nat → Addr) (w : World) (hE : Env A w) (hs : s.size ≤ maxLen) (hn : m.n.size ≤ maxLen) (hc : m.c.size ≤ 100000) {l : List Mb} (h : archOf (startOf s) = some l) :
    Calls Tryz.prog 17 #[.string s, valM m] w (SetPost l m A w) := by
  have hss : (startOf s).size ≤ maxLen := by unfold startOf; split; decide; exact hs
  have HP := Lib.hid (fun (W : World) (hW : Env A W) => aParse_yes (w := W) hW hss h)
  have HE := Lib.hid hE
  have hl9 : sumM l ≤ 900 := by have := ((makeE_zero l).1 (archOf_get h).1).2.2.2; omega
  have SUM := Lib.hid (show sumM (setM l m) ≤ 10000000 by have := sumM_setM l m; unfold sizeM at this; omega)
  have MS := Lib.hid (show m.n.size ≤ maxLen ∧ m.c.size ≤ maxLen from ⟨hn, by unfold maxLen; omega⟩)
  have HB := Lib.hid (box_new w m)
  have G0 := Lib.hid (World.grownBy_alloc w (.cells #[.string m.n, .int .i64 m.t, .string m.c] 35) none)
  have hl100 : l.length ≤ 900 := by
    have h1 : ∀ l : List Mb, l.length ≤ sumM l := by
      intro l
      induction l with
      | nil => simp [sumM]
      | cons a r ih => rw [sumM_cons, List.length_cons]; unfold sizeM; omega
    have := h1 l; omega
  obtain ⟨i0, hi, hz0, hz1, hz2⟩ := info_parts infoMember
  have I := Lib.hid hi; have Z0 := Lib.hid hz0; have Z1 := Lib.hid hz1; have Z2 := Lib.hid hz2
  clear hi hz0 hz1 hz2 hE h hl9
  unfold startOf at HP
  unfold valM
  cases hq : s.toList.isEmpty
  all_goals
    rw [hq] at HP
    simp only [if_true, Bool.false_eq_true, if_false] at HP
    go_enter Tryz.func17, Tryz.ntmps17
    go_wp2_with fail
    generalize (w.alloc (.cells #[.string m.n, .int .i64 m.t, .string m.c] 35)) = w1 at *
    generalize w.heap.size = p at *
    refine (HP.out _ (HE.out.grown G0.out)).mono ?_
    rintro e w2 ⟨v, rfl, o2, g2⟩
    have G2 := Lib.hid (G0.out.trans g2); have B2 := Lib.hid (HB.out.kept g2); have O2 := Lib.hid o2
    have W1 := Lib.hid (show w.heap.size ≤ w1.heap.size from G0.out.size)
    have S2 := Lib.hid g2.size
    clear g2 HB HP o2
    obtain ⟨c0, c1, c2, -, -, -⟩ := B2.out.cells
    go_wp2_with fail
    refine (aAt _ l m.n w2 O2.out.row).mono ?_
    rintro e w3 ⟨rfl, g3⟩
    have G3 := Lib.hid (G2.out.trans g3); have B3 := Lib.hid (B2.out.kept g3); have O3 := Lib.hid (O2.out.kept g3)
    have BASE := Lib.hid (show w1.heap.size ≤ w3.heap.size from Nat.le_trans S2.out g3.size)
    clear g3 G2 B2 O2 c0 c1 c2
    obtain ⟨c0, c1, c2, -, -, -⟩ := B3.out.cells
    cases hfi : findI l m.n with
    | none =>
      have HQ := Lib.hid (setM_none hfi)
      have HI := Lib.hid (show idxI l m.n = -1 by unfold idxI; rw [hfi])
      rw [HI.out]
      have BL := BASE
      clear hfi
      go_wp2_with (first
        | (at_builtin; refine wpList_append_own _ rfl _ _ 22 rfl w1.heap.size 35 i0 _ 3 40 Tryz.underlying22 I.out Z0.out Z1.out Z2.out rfl (by decide) _ _ _ rfl (O3.out.1.alloc _) ⟨_, 0, none⟩ 1 1 [.string m.n, .int .i64 m.t, .string m.c] rfl rfl (newsAtM _ m _ _ rfl) (oneM m) (by unfold maxLen; omega) (by omega) (by have := BL.out; simp; omega) ?_; intro v' w4 hown' hgrow2 hnil2; have O4 := Lib.hid (OwnM.snoc O3.out.2 MS.out.1 MS.out.2 hown' rfl rfl); have G4 := Lib.hid ((G3.out.trans (World.grownBy_alloc w3 (.cells #[.string m.n, .int .i64 m.t, .string m.c] 35) none)).andThen hgrow2 (fun j e => .inl (Nat.le_trans W1.out (O3.out.1.lt j e).1))); clear hown' hgrow2 hnil2)
        | (go_at_call 8; refine (aMake _ l m A _ (l ++ [m]) HQ.out.symm O4.out.row (HE.out.grown G4.out) (by rw [← HQ.out]; exact SUM.out)).mono ?_; rintro e w5 ⟨x, y, rfl, hg, hxy⟩; have G5 := Lib.hid (G4.out.trans hg); have XY := Lib.hid hxy; clear hg hxy))
      go_ret2
      rcases XY.out with ⟨hk, rfl, rfl⟩ | ⟨hk, hx, rfl⟩
      · exact .inl ⟨hk, rfl, G5.out⟩
      · exact .inr ⟨_, hk, hx, rfl, G5.out⟩
    | some i =>
      obtain ⟨m0, hm0, -⟩ := findI_get hfi
      have hil : i < l.length := (List.getElem?_eq_some_iff.1 hm0).1
      have HQ := Lib.hid (setM_some hfi)
      have HI := Lib.hid (show idxI l m.n = i by unfold idxI; rw [hfi])
      rw [HI.out]
      obtain ⟨g, cap, rfl, gb, glt, -, -⟩ := O3.out.form (by intro e; rw [e] at hil; simp at hil)
      have GB := Lib.hid gb
      have x0 := (O3.out.1.cellAt (i * 3) (by omega)).trans (cellsM_get hm0).1
      have x1 := (O3.out.1.cellAt (i * 3 + 1) (by omega)).trans (cellsM_get hm0).2.1
      have x2 := (O3.out.1.cellAt (i * 3 + 2) (by omega)).trans (cellsM_get hm0).2.2
      have f0 := O3.out.1.frozenAt (i * 3)
      have f1 := O3.out.1.frozenAt (i * 3 + 1)
      have f2 := O3.out.1.frozenAt (i * 3 + 2)
      obtain ⟨o4, g4⟩ := O3.out.store hil MS.out.1 MS.out.2
      have O4 := Lib.hid o4
      have G4 := Lib.hid (grown_none G3.out g4 (Nat.le_trans W1.out GB.out))
      have hi0 : (0 : Int) ≤ (i : Int) := Int.natCast_nonneg _
      have hi1 : (i : Int) < (l.length : Int) := by omega
      clear hfi hm0 o4 g4 gb glt
      go_wp2_with fail
      refine (aMake _ l m A _ (l.set i m) HQ.out.symm O4.out.row (HE.out.grown G4.out) (by rw [← HQ.out]; exact SUM.out)).mono ?_
      rintro e w5 ⟨x, y, rfl, hg, hxy⟩
      have G5 := Lib.hid (G4.out.trans hg); have XY := Lib.hid hxy
      clear hg hxy x0 x1 x2 f0 f1 f2 O4 G4
      go_wp2
      go_ret2
      rcases XY.out with ⟨hk, rfl, rfl⟩ | ⟨hk, hx, rfl⟩
      · exact .inl ⟨hk, rfl, G5.out⟩
      · exact .inr ⟨_, hk, hx, rfl, G5.out⟩
theorem aSet_no {s : ByteArray} {l : List Mb} {m : Mb} {A : Nat → Addr} {w : World} (hE : Env A w) (hs : s.size ≤ maxLen) (hn : m.n.size ≤ maxLen) (hc : m.c.size ≤ 100000) (h : archOf (startOf s) = some l) (hk : makeE (setM l m) ≠ 0) :
    Calls Tryz.prog 17 #[.string s, valM m] w fun e w' => e = .returned (.tuple #[.string ⟨#[]⟩, .iface 146 (.pointer (some (A (makeE (setM l m)))))]) ∧ w.grownBy w' none :=
  (aSet s m A w hE hs hn hc h).mono fun e w' hp => by
    rcases hp with ⟨_, h1, h2⟩ | ⟨x, h1, _⟩
    · exact ⟨h1, h2⟩
    · exact absurd h1 hk
theorem aSet_yes {s : ByteArray} {l : List Mb} {m : Mb} {A : Nat → Addr} {w : World} (hE : Env A w) (hs : s.size ≤ maxLen) (hn : m.n.size ≤ maxLen) (hc : m.c.size ≤ 100000) (h : archOf (startOf s) = some l) (hk : makeE (setM l m) = 0) {y : ByteArray} (hy : y.data.toList = makeL (setM l m)) :
    Calls Tryz.prog 17 #[.string s, valM m] w fun e w' => e = .returned (.tuple #[.string y, .nilIface]) ∧ w.grownBy w' none :=
  (aSet s m A w hE hs hn hc h).mono fun e w' hp => by
    rcases hp with ⟨h1, _⟩ | ⟨x, _, h2, h3, h4⟩
    · exact absurd hk h1
    · obtain rfl : x = y := ba_ext (h2.trans hy.symm)
      exact ⟨h3, h4⟩

set_option maxRecDepth 100000 in
set_option maxHeartbeats 1000000 in
theorem aSet_form {s : ByteArray} {m : Mb} {A : Nat → Addr} {w : World} (hE : Env A w) (hs : s.size ≤ maxLen) (h : archOf s = none) (hq : s.toList.isEmpty = false) :
    Calls Tryz.prog 17 #[.string s, valM m] w fun e w' => e = .returned (.tuple #[.string ⟨#[]⟩, .iface 146 (.pointer (some (A 3)))]) ∧ w.grownBy w' none := by
  have G0 := Lib.hid (World.grownBy_alloc w (.cells #[.string m.n, .int .i64 m.t, .string m.c] 35) none)
  have HP := Lib.hid (aParse_no (hE.grown G0.out) hs h)
  clear hE h
  unfold valM
  go_enter Tryz.func17, Tryz.ntmps17
  go_wp2_with fail
  refine HP.out.mono ?_
  rintro e w2 ⟨rfl, g2⟩
  have G2 := Lib.hid (G0.out.trans g2)
  clear g2
  go_wp2
  go_ret2
  exact ⟨rfl, G2.out⟩
end Go.Proofs.YtgicfbhhnohndaaGreatDoor

/- The reader: a member of a class. -/
import Derived.Test.YtonbcldhbinmeaaDoorRexJ
namespace Go.Proofs.YtonbcldhbinmeaaDoor
open Go.RowKit

theorem heap_row {w w' : World} {r b : Nat} {o : Obj} (g : w.grownBy w' (some r)) (hne : b ≠ r) (hb : w.heap[b]? = some o) : w'.heap[b]? = some o := by
  rw [g.block b (by rcases Nat.lt_or_ge b w.heap.size with h | h; exact h; simp [Array.getElem?_eq_none h] at hb) (fun e => hne (by cases e; rfl))]; exact hb
theorem grown_setR {w w1 : World} {r : Nat} (h : w.grownBy w1 (some r)) {b : Nat} (o : Nat) (v : Value) (hb : w.heap.size ≤ b) : w.grownBy (w1.setCell ⟨b, o, none⟩ v) (some r) :=
  h.andThen (grown_at w1 b o v) (fun j e => .inl (by cases e; exact hb))
theorem grown_into {w w1 w2 : World} {r : Nat} (h : w.grownBy w1 none) (g : w1.grownBy w2 (some r)) : w.grownBy w2 (some r) :=
  (World.grownBy.mk h.os h.tape h.output h.size (fun k hk _ => h.block k hk (by simp)) : w.grownBy w1 (some r)).trans g
theorem grown_wide {w w1 : World} {r : Nat} (h : w.grownBy w1 none) : w.grownBy w1 (some r) := grown_into h (World.grownBy.refl _ _)
theorem grown_then {w w1 w2 : World} {r : Nat} (h : w.grownBy w1 (some r)) (g : w1.grownBy w2 none) : w.grownBy w2 (some r) := h.trans (grown_wide g)
theorem Rd.lt {w : World} {r : Nat} {s : ByteArray} {i c : Nat} (h : Rd w r s i c) : r < w.heap.size := (Array.getElem?_eq_some_iff.1 h.B).1
theorem Rd.other {w : World} {r : Nat} {s : ByteArray} {i c : Nat} (h : Rd w r s i c) {b : Nat} (o : Nat) (v : Value) (hb : r ≠ b) : Rd (w.setCell ⟨b, o, none⟩ v) r s i c :=
  ⟨(heap_setCell_other w ⟨b, o, none⟩ r v hb).trans h.B, h.hi, h.hs, h.hc⟩
theorem grown_four {w w1 : World} {r : Nat} (h : w.grownBy w1 (some r)) {b : Nat} (v0 v1 v2 v3 : Value) (hb : w.heap.size ≤ b) : w.grownBy ((((w1.setCell ⟨b, 0, none⟩ v0).setCell ⟨b, 1, none⟩ v1).setCell ⟨b, 2, none⟩ v2).setCell ⟨b, 3, none⟩ v3) (some r) :=
  grown_setR (grown_setR (grown_setR (grown_setR h _ _ hb) _ _ hb) _ _ hb) _ _ hb
theorem Rd.four {w : World} {r : Nat} {s : ByteArray} {i c : Nat} (h : Rd w r s i c) {b : Nat} (v0 v1 v2 v3 : Value) (hb : r ≠ b) : Rd ((((w.setCell ⟨b, 0, none⟩ v0).setCell ⟨b, 1, none⟩ v1).setCell ⟨b, 2, none⟩ v2).setCell ⟨b, 3, none⟩ v3) r s i c :=
  (((h.other _ _ hb).other _ _ hb).other _ _ hb).other _ _ hb
theorem brow_one (w : World) (b : Nat) (t : TypeId) (hb : b < 256) (n : Nat) (hn : n = w.heap.size) : BRow (w.alloc (.cells #[.int .u8 b] t)) (.slice (some ⟨n, 0, none⟩) 1 1) [b] := by
  subst hn
  refine ⟨_, 1, rfl, ⟨by simp, by simpa using hb⟩, fun _ => ⟨_, 0, rfl, by show _ < (w.heap.push _).size; simp, fun k x hx => ?_⟩⟩
  cases k with
  | zero =>
    simp at hx; subst hx
    simp [byteV]
  | succ k => simp at hx
theorem ofL_one (b : Nat) : ofL [b] = one b := by
  show un emp (one b) = _
  unfold un emp; simp
/-- what a member answers -/
def MemOut (r c : Nat) (s : ByteArray) (w : World) (o : Option (BitVec 256 × Nat)) (e : Ending) (w' : World) : Prop :=
  match o with
  | some (t, j) => e = .returned (.tuple #[setV t, .bool true]) ∧ Rd w' r s j c ∧ w.grownBy w' (some r)
  | none => ∃ t, e = .returned (.tuple #[setV t, .bool false]) ∧ w.grownBy w' (some r)

theorem ret_set {s t : BitVec 256} {x y : Bool} (h : s = t) (h2 : x = y) : Ending.returned (.tuple #[setV s, .bool x]) = .returned (.tuple #[setV t, .bool y]) := by rw [h, h2]

set_option maxHeartbeats 4000000 in
theorem cMember (r : Nat) (s : ByteArray) (i c : Nat) (w : World) (h : Rd w r s i c) :
    Calls Tryd.prog 57 #[.pointer (some ⟨r, 0, none⟩)] w (MemOut r c s w (memP s i)) := by
  have hlt := h.lt
  have B3 := heap_alloc_new w (.cells #[.int .u64 0, .int .u64 0, .int .u64 0, .int .u64 0] 25)
  have G := Lib.hid (World.grownBy_alloc w (.cells #[.int .u64 0, .int .u64 0, .int .u64 0, .int .u64 0] 25) none)
  have H1 := Lib.hid (h.kept G.out)
  clear h
  go_enter Tryd.func57, Tryd.ntmps57
  go_upto_region 1 with fail
  generalize w.alloc _ = w1 at B3 G H1 ⊢
  obtain ⟨q, eq⟩ : ∃ q, q = w.heap.size := ⟨_, rfl⟩
  rw [← eq] at B3 ⊢
  have HR := Lib.hid (show w.heap.size ≤ q by omega)
  have HN := Lib.hid (show q ≠ r by omega)
  have B3 := Lib.hid B3
  clear eq hlt
  cases hb : byteAt s i with
  | none =>
    have HM := Lib.hid (show memP s i = none by unfold memP; rw [hb])
    have HB := Lib.hid hb
    clear hb
    go_wp2_with fail
    refine (cMByte0 _ _ _ _ _ H1.out HB.out).mono ?_
    rintro e w2 ⟨rfl, g2⟩
    have B4 := Lib.hid (heap_row g2 HN.out B3.out)
    have G2 := Lib.hid (grown_into G.out g2)
    clear g2
    obtain ⟨r0, r1, r2, r3⟩ := four_cells B4.out
    have fr := four_free B4.out
    go_wp2
    refine bodyPost_ret (v := .tuple #[setV emp, .bool false]) (back_pair 25 Tryd.underlying25 (by kernel_rfl) Tryd.results57 rfl rfl (zero_four B4.out)) rfl ?_
    rw [HM.out]
    exact ⟨emp, rfl, grown_four G2.out _ _ _ _ HR.out⟩
  | some p =>
    obtain ⟨lo, fl, j⟩ := p
    have hlo := Lib.hid (byteAt_gt hb).2.2
    by_cases hj : joins s j = true
    · have hjj := hj
      unfold joins at hjj
      simp only [Bool.and_eq_true, Bool.not_eq_true'] at hjj
      obtain ⟨n45, n93⟩ := hjj
      have CP := Lib.hid (fun w => cPre s j w)
      rw [n45, n93] at CP
      simp only [Bool.and_false] at CP
      have N45 := Lib.hid n45
      clear n45 n93
      cases hb2 : byteAt s (j + 1) with
      | none =>
        have HM := Lib.hid (show memP s i = none by unfold memP; rw [hb]; simp only [hj, if_true, hb2])
        have HB := Lib.hid hb; have HB2 := Lib.hid hb2
        clear hb hj hb2
        go_wp2_with fail
        refine (cMByte1 _ _ _ _ _ _ _ _ H1.out HB.out).mono ?_
        rintro e w2 ⟨rfl, r2, g2⟩
        have R2 := Lib.hid r2
        have B4 := Lib.hid (heap_row g2 HN.out B3.out)
        have G2 := Lib.hid (grown_into G.out g2)
        obtain ⟨c0, c1⟩ := two_cells r2.B
        clear r2 g2
        go_wp2_with (first
          | (go_at_call 63; refine (CP.out _).mono ?_; rintro e w3 ⟨rfl, rfl⟩)
          | (go_at_call 36; refine (cTake1 45 _ _ _ _ _ R2.out N45.out).mono ?_; rintro e w3 ⟨rfl, r3, g3⟩; have R3 := Lib.hid r3; have B5 := Lib.hid (heap_row g3 HN.out B4.out); have G3 := Lib.hid (G2.out.trans g3); clear r3 g3 c0 c1))
        refine (cMByte0 _ _ _ _ _ R3.out HB2.out).mono ?_
        rintro e w4 ⟨rfl, g4⟩
        have B6 := Lib.hid (heap_row g4 HN.out B5.out)
        have G4 := Lib.hid (G3.out.trans g4)
        clear g4
        go_wp2_with fail
        refine (cSpan lo 0 _).mono ?_
        rintro e w5 ⟨rfl, g5⟩
        have B7 := Lib.hid (heap_grown g5 B6.out)
        have G5 := Lib.hid (grown_then G4.out g5)
        clear g5
        obtain ⟨r0, r1, r2, r3⟩ := four_cells B7.out
        have fr := four_free B7.out
        generalize spn lo 0 = z
        go_wp2
        refine bodyPost_ret (v := .tuple #[setV z, .bool false]) (back_pair 25 Tryd.underlying25 (by kernel_rfl) Tryd.results57 rfl rfl (set_four B7.out _ _ _ _)) rfl ?_
        rw [HM.out]
        exact ⟨z, rfl, grown_four G5.out _ _ _ _ HR.out⟩
      | some p2 =>
        obtain ⟨hi, fl2, k⟩ := p2
        have HM := Lib.hid (show memP s i = if lo ≤ hi then some (spn lo hi, k) else none by unfold memP; rw [hb]; simp only [hj, if_true, hb2])
        have HB := Lib.hid hb; have HB2 := Lib.hid hb2
        clear hb hj hb2
        go_wp2_with fail
        refine (cMByte1 _ _ _ _ _ _ _ _ H1.out HB.out).mono ?_
        rintro e w2 ⟨rfl, r2, g2⟩
        have R2 := Lib.hid r2
        have B4 := Lib.hid (heap_row g2 HN.out B3.out)
        have G2 := Lib.hid (grown_into G.out g2)
        obtain ⟨c0, c1⟩ := two_cells r2.B
        clear r2 g2
        go_wp2_with (first
          | (go_at_call 63; refine (CP.out _).mono ?_; rintro e w3 ⟨rfl, rfl⟩)
          | (go_at_call 36; refine (cTake1 45 _ _ _ _ _ R2.out N45.out).mono ?_; rintro e w3 ⟨rfl, r3, g3⟩; have R3 := Lib.hid r3; have B5 := Lib.hid (heap_row g3 HN.out B4.out); have G3 := Lib.hid (G2.out.trans g3); clear r3 g3 c0 c1))
        refine (cMByte1 _ _ _ _ _ _ _ _ R3.out HB2.out).mono ?_
        rintro e w4 ⟨rfl, r4, g4⟩
        have B6 := Lib.hid (heap_row g4 HN.out B5.out)
        have G4 := Lib.hid (G3.out.trans g4)
        have R4 := Lib.hid r4
        clear r4 g4
        go_wp2_with fail
        refine (cSpan lo hi _).mono ?_
        rintro e w5 ⟨rfl, g5⟩
        have B7 := Lib.hid (heap_grown g5 B6.out)
        have G5 := Lib.hid (grown_then G4.out g5)
        have R5 := Lib.hid (R4.out.kept g5)
        clear g5
        obtain ⟨r0, r1, r2, r3⟩ := four_cells B7.out
        have fr := four_free B7.out
        generalize spn lo hi = z at HM ⊢
        by_cases hle : lo ≤ hi
        · have hd : decide (lo ≤ hi) = true := decide_eq_true hle
          have HM2 := Lib.hid (show memP s i = some (z, k) by rw [HM.out, if_pos hle])
          clear hle HM
          go_wp2
          refine bodyPost_ret (v := .tuple #[setV z, .bool true]) (back_pair 25 Tryd.underlying25 (by kernel_rfl) Tryd.results57 rfl rfl (set_four B7.out _ _ _ _)) rfl ?_
          rw [HM2.out]
          exact ⟨rfl, R5.out.four _ _ _ _ (Ne.symm HN.out), grown_four G5.out _ _ _ _ HR.out⟩
        · have hd : decide (lo ≤ hi) = false := decide_eq_false hle
          have HM2 := Lib.hid (show memP s i = none by rw [HM.out, if_neg hle])
          clear hle HM
          go_wp2
          refine bodyPost_ret (v := .tuple #[setV z, .bool false]) (back_pair 25 Tryd.underlying25 (by kernel_rfl) Tryd.results57 rfl rfl (set_four B7.out _ _ _ _)) rfl ?_
          rw [HM2.out]
          exact ⟨z, rfl, grown_four G5.out _ _ _ _ HR.out⟩
    · have hj' : joins s j = false := by simpa using hj
      have HM := Lib.hid (show memP s i = some (one lo, j) by unfold memP; rw [hb]; simp only [hj', Bool.false_eq_true, if_false])
      have HB := Lib.hid hb
      have HO := Lib.hid (ofL_one lo)
      have CP := Lib.hid (fun w => cPre s j w)
      clear hb hj
      unfold joins at hj'
      cases n45 : nxt s j 45 with
      | true =>
        rw [n45] at hj' CP
        simp only [Bool.true_and, Bool.not_eq_false'] at hj'
        rw [hj'] at CP
        simp only [Bool.and_self] at CP
        clear hj' n45
        go_wp2_with fail
        refine (cMByte1 _ _ _ _ _ _ _ _ H1.out HB.out).mono ?_
        rintro e w2 ⟨rfl, r2, g2⟩
        have R2 := Lib.hid r2
        have B4 := Lib.hid (heap_row g2 HN.out B3.out)
        have G2 := Lib.hid (grown_into G.out g2)
        obtain ⟨c0, c1⟩ := two_cells r2.B
        clear r2 g2
        go_wp2_with (first
          | (go_at_call 63; refine (CP.out _).mono ?_; rintro e w3 ⟨rfl, rfl⟩)
          | (go_at_call 44; refine (cOf _ [lo] _ (brow_one _ _ _ hlo.out _ rfl)).mono ?_; rintro e w4 ⟨rfl, g4⟩; have g5 := (World.grownBy_alloc w2 (.cells #[.int .u8 lo] 5) none).trans g4; have B5 := Lib.hid (heap_grown g5 B4.out); have G4 := Lib.hid (grown_then G2.out g5); have R4 := Lib.hid (R2.out.kept g5); clear g4 g5 c0 c1; obtain ⟨r0, r1, r2, r3⟩ := four_cells B5.out; have fr := four_free B5.out; generalize ofL [lo] = z at HO ⊢))
        refine bodyPost_ret (v := .tuple #[setV z, .bool true]) (back_pair 25 Tryd.underlying25 (by kernel_rfl) Tryd.results57 rfl rfl (set_four B5.out _ _ _ _)) rfl ?_
        rw [HM.out, ← HO.out]
        exact ⟨rfl, R4.out.four _ _ _ _ (Ne.symm HN.out), grown_four G4.out _ _ _ _ HR.out⟩
      | false =>
        rw [n45] at CP
        simp only [Bool.false_and] at CP
        have N45 := Lib.hid n45
        clear hj' n45
        go_wp2_with fail
        refine (cMByte1 _ _ _ _ _ _ _ _ H1.out HB.out).mono ?_
        rintro e w2 ⟨rfl, r2, g2⟩
        have R2 := Lib.hid r2
        have B4 := Lib.hid (heap_row g2 HN.out B3.out)
        have G2 := Lib.hid (grown_into G.out g2)
        obtain ⟨c0, c1⟩ := two_cells r2.B
        clear r2 g2
        go_wp2_with (first
          | (go_at_call 63; refine (CP.out _).mono ?_; rintro e w3 ⟨rfl, rfl⟩)
          | (go_at_call 36; refine (cTake0 45 _ _ _ _ _ R2.out N45.out).mono ?_; rintro e w3 ⟨rfl, rfl⟩)
          | (go_at_call 44; refine (cOf _ [lo] _ (brow_one _ _ _ hlo.out _ rfl)).mono ?_; rintro e w4 ⟨rfl, g4⟩; have g5 := (World.grownBy_alloc w2 (.cells #[.int .u8 lo] 5) none).trans g4; have B5 := Lib.hid (heap_grown g5 B4.out); have G4 := Lib.hid (grown_then G2.out g5); have R4 := Lib.hid (R2.out.kept g5); clear g4 g5 c0 c1; obtain ⟨r0, r1, r2, r3⟩ := four_cells B5.out; have fr := four_free B5.out; generalize ofL [lo] = z at HO ⊢))
        refine bodyPost_ret (v := .tuple #[setV z, .bool true]) (back_pair 25 Tryd.underlying25 (by kernel_rfl) Tryd.results57 rfl rfl (set_four B5.out _ _ _ _)) rfl ?_
        rw [HM.out, ← HO.out]
        exact ⟨rfl, R4.out.four _ _ _ _ (Ne.symm HN.out), grown_four G4.out _ _ _ _ HR.out⟩
end Go.Proofs.YtonbcldhbinmeaaDoor

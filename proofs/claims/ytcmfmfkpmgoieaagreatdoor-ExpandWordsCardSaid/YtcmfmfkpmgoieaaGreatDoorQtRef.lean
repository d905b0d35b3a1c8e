/- The document's own answers of layer 11: blanks, plain texts, a quoted part's end. -/
import Derived.Test.YtcmfmfkpmgoieaaGreatDoorQtPlain
import Derived.Test.YtcmfmfkpmgoieaaGreatDoorClsBase
namespace Go.Proofs.YtcmfmfkpmgoieaaGreatDoor
open Go.RowKit

theorem blk_nat (b : UInt8) : blkQ b = ((b.toNat == 32 || b.toNat == 9) || b.toNat == 10) := by
  unfold blkQ
  rw [Bool.eq_iff_iff]
  simp [← UInt8.toNat_inj]
set_option maxHeartbeats 1000000 in
theorem dBlank (b : UInt8) (w : World) : Calls Tryz.prog 39 #[.int .u8 b.toNat] w fun e w' => e = .returned (.bool (blkQ b)) ∧ w = w' := by
  have HB := Lib.hid (blk_nat b)
  generalize blkQ b = z at HB ⊢
  obtain ⟨x, hx⟩ : ∃ x, x = b.toNat := ⟨_, rfl⟩
  rw [← hx] at HB ⊢
  clear hx
  obtain ⟨f1, h1⟩ : ∃ f, f = (x == 32) := ⟨_, rfl⟩
  obtain ⟨f2, h2⟩ : ∃ f, f = (x == 9) := ⟨_, rfl⟩
  obtain ⟨f3, h3⟩ : ∃ f, f = (x == 10) := ⟨_, rfl⟩
  have e1 : ((x : Int) == 32) = f1 := by rw [h1, Bool.eq_iff_iff]; simp; omega
  have e2 : ((x : Int) == 9) = f2 := by rw [h2, Bool.eq_iff_iff]; simp; omega
  have e3 : ((x : Int) == 10) = f3 := by rw [h3, Bool.eq_iff_iff]; simp; omega
  rw [← h1, ← h2, ← h3] at HB
  clear h1 h2 h3
  go_enter Tryz.func39, Tryz.ntmps39
  cases f1 <;> cases f2
  all_goals
    go_wp2
    go_ret
    exact ⟨ret_bool HB.out.symm, rfl⟩
abbrev badT : ByteArray := ⟨#[39, 32, 9, 10, 35, 36, 96, 58, 61, 60, 92, 59, 38, 124, 40, 41, 123, 125, 91, 93, 42, 63, 94, 126]⟩
theorem bad_list : badT.data.toList = badQ := rfl
theorem list_at {s : ByteArray} {i : Nat} (h : i < s.size) : s.data.toList[i]? = some s[i] := by
  rw [List.getElem?_eq_getElem (by simpa using h)]; rfl
theorem pln_take {l : List UInt8} {i : Nat} {b : UInt8} (h : l[i]? = some b) : (l.take (i + 1)).all plnQ = ((l.take i).all plnQ && plnQ b) := by
  rw [List.take_add_one, h, List.all_append]; simp
theorem endF_no {l : List UInt8} {i : Nat} {b : UInt8} (h : l[i]? = some b) (hb : b ≠ 39) : endF (l.drop i) i = endF (l.drop (i + 1)) (i + 1) := by
  obtain ⟨hi, e⟩ := List.getElem?_eq_some_iff.1 h
  rw [List.drop_eq_getElem_cons hi, e]
  cases l.drop (i + 1) with
  | nil => simp [endF, hb]
  | cons c r => rw [endF, if_neg hb]
theorem endF_end {l : List UInt8} {i : Nat} (h : l[i]? = some 39) (h2 : l[i + 1]? ≠ some 39) : endF (l.drop i) i = some (i + 1) := by
  obtain ⟨hi, e⟩ := List.getElem?_eq_some_iff.1 h
  rw [List.drop_eq_getElem_cons hi, e]
  cases hd : l.drop (i + 1) with
  | nil => rw [endF, if_pos rfl]
  | cons c r =>
    have : l[i + 1]? = some c := by rw [← List.head?_drop, hd]; rfl
    rw [endF, if_pos rfl, if_neg (fun e => h2 (by rw [this, e]))]
theorem endF_two {l : List UInt8} {i : Nat} (h : l[i]? = some 39) (h2 : l[i + 1]? = some 39) : endF (l.drop i) i = endF (l.drop (i + 2)) (i + 2) := by
  obtain ⟨hi, e⟩ := List.getElem?_eq_some_iff.1 h
  obtain ⟨hi2, e2⟩ := List.getElem?_eq_some_iff.1 h2
  rw [List.drop_eq_getElem_cons hi, e, List.drop_eq_getElem_cons hi2, e2, endF, if_pos rfl, if_pos rfl]
def endV (l : List UInt8) (i : Nat) : Int := match endF (l.drop i) i with | some e => e | none => -1
theorem endAt_no {l : List UInt8} {k : Int} (h : ¬(0 ≤ k ∧ k < l.length ∧ l[k.toNat]? = some 39)) : endAt l k = -1 := by unfold endAt; rw [if_neg h]
theorem endAt_yes {l : List UInt8} {k : Nat} (h : l[k]? = some 39) : endAt l k = endV l (k + 1) := by
  unfold endAt endV
  rw [if_pos ⟨by omega, by have := (List.getElem?_eq_some_iff.1 h).1; omega, by simpa using h⟩, Int.toNat_natCast]
  rfl
theorem endAt_val {l : List UInt8} {j : Nat} (h : l[j]? = some 39) : (endF (l.drop (j + 1)) (j + 1) = none ∧ endAt l j = -1) ∨ (∃ f : Nat, endF (l.drop (j + 1)) (j + 1) = some (f + 1) ∧ endAt l j = (f : Int) + 1 ∧ j + 1 ≤ f ∧ f + 1 ≤ l.length) := by
  rw [endAt_yes h]
  unfold endV
  cases he : endF (l.drop (j + 1)) (j + 1) with
  | none => exact .inl ⟨rfl, rfl⟩
  | some e =>
    have h1 := endF_le _ _ _ he
    rw [List.length_drop] at h1
    have h2 := (List.getElem?_eq_some_iff.1 h).1
    obtain ⟨f, rfl⟩ : ∃ f, e = f + 1 := ⟨e - 1, by omega⟩
    exact .inr ⟨f, rfl, by simp, by omega, by omega⟩
set_option maxRecDepth 100000 in
set_option maxHeartbeats 4000000 in
theorem dEnd (s : ByteArray) (k : Int) (w : World) (hs : s.size ≤ 5000) : Calls Tryz.prog 60 #[.string s, .int .i64 k] w fun e w' => e = .returned (.int .i64 (endAt s.data.toList k)) ∧ w = w' := by
  have hlen : s.data.toList.length = s.size := by simp
  by_cases hin : 0 ≤ k ∧ k < s.size
  case neg =>
    have HZ := Lib.hid (endAt_no (l := s.data.toList) (k := k) (fun ⟨h1, h2, _⟩ => hin ⟨h1, by omega⟩))
    generalize endAt s.data.toList k = z at HZ ⊢
    clear hlen
    by_cases h0 : k < 0
    all_goals
      go_enter Tryz.func60, Tryz.ntmps60
      go_wp2
      go_ret
      exact ⟨ret_int HZ.out.symm, rfl⟩
  obtain ⟨h0, h1⟩ := hin
  obtain ⟨q, rfl⟩ := Int.eq_ofNat_of_zero_le h0
  have hq : q < s.size := by omega
  have HQ := Lib.hid (list_at hq)
  by_cases h39 : s[q] = 39
  case neg =>
    have HZ := Lib.hid (endAt_no (l := s.data.toList) (k := q) (fun ⟨_, _, h3⟩ => h39 (by
      rw [Int.toNat_natCast, HQ.out] at h3; simpa using h3)))
    have e1 : (((s[q]).toNat : Int) != 39) = true := by
      simp only [bne_iff_ne, ne_eq]
      intro h
      exact h39 (UInt8.toNat_inj.1 (by show (s[q]).toNat = 39; omega))
    generalize endAt s.data.toList q = z at HZ ⊢
    clear hlen h39
    go_enter Tryz.func60, Tryz.ntmps60
    go_wp2
    go_ret
    exact ⟨ret_int HZ.out.symm, rfl⟩
  have HZ := Lib.hid (endAt_yes (l := s.data.toList) (k := q) (by rw [HQ.out, h39]))
  have hd1 : decide ((q : Int) < 0) = false := by simp
  have hd2 : decide (s.size ≤ q) = false := by simp; omega
  have hd3 : decide ((q : Int) ≥ s.size) = false := by simp; omega
  have e1 : (((s[q]).toNat : Int) != 39) = false := by rw [h39]; rfl
  generalize endAt s.data.toList q = z at HZ ⊢
  clear hlen h39
  go_enter Tryz.func60, Tryz.ntmps60
  go_wp2
  clear e1
  go_loop [5] (fun i => ∃ j : Nat, j ≤ s.size + 1 ∧ i = .int .i64 j ∧ Hid (z = endV s.data.toList j)) (fun i => s.size + 1 - (intOf i).toNat)
  case atStart => exact ⟨q + 1, by omega, by go_num, HZ⟩
  case round =>
    obtain ⟨j, hj, rfl, hE⟩ := hrel
    by_cases hlt : j < s.size
    · have HJ := Lib.hid (list_at hlt)
      by_cases hb : s[j] = 39
      · have e2 : (((s[j]).toNat : Int) == 39) = true := by rw [hb]; rfl
        by_cases hl : j = s.size - 1
        · have HV := Lib.hid (show z = (j : Int) + 1 by
            rw [hE.out]; unfold endV
            rw [endF_end (by rw [HJ.out, hb]) (by rw [List.getElem?_eq_none (by simp; omega)]; simp)]; simp)
          have e3 : ((j : Int) == (s.size : Int) - 1) = true := by simp; omega
          clear hb hl
          go_wp2
          go_ret
          exact ⟨ret_int HV.out.symm, rfl⟩
        · have hj1 : j + 1 < s.size := by omega
          have HJ1 := Lib.hid (list_at hj1)
          have e3 : ((j : Int) == (s.size : Int) - 1) = false := by simp; omega
          by_cases hc : s[j + 1] = 39
          · have e4 : (((s[j + 1]).toNat : Int) != 39) = false := by rw [hc]; rfl
            have HV := Lib.hid (show z = endV s.data.toList (j + 2) by
              rw [hE.out]; unfold endV
              rw [endF_two (by rw [HJ.out, hb]) (by rw [HJ1.out, hc])])
            clear hb hc hl
            go_wp2
            go_round
            case rel => exact ⟨j + 2, by omega, by go_num, HV⟩
            case measure => simp [intOf]; omega
          · have e4 : (((s[j + 1]).toNat : Int) != 39) = true := by
              simp only [bne_iff_ne, ne_eq]
              intro h
              exact hc (UInt8.toNat_inj.1 (by show (s[j + 1]).toNat = 39; omega))
            have HV := Lib.hid (show z = (j : Int) + 1 by
              rw [hE.out]; unfold endV
              rw [endF_end (by rw [HJ.out, hb]) (by rw [HJ1.out]; simpa using hc)]; simp)
            clear hb hc hl
            go_wp2
            go_ret
            exact ⟨ret_int HV.out.symm, rfl⟩
      · have e2 : (((s[j]).toNat : Int) == 39) = false := by
          simp only [beq_eq_false_iff_ne, ne_eq]
          intro h
          exact hb (UInt8.toNat_inj.1 (by show (s[j]).toNat = 39; omega))
        have HV := Lib.hid (show z = endV s.data.toList (j + 1) by
          rw [hE.out]; unfold endV
          rw [endF_no HJ.out hb])
        clear hb
        go_wp2
        go_round
        case rel => exact ⟨j + 1, by omega, by go_num, HV⟩
        case measure => simp [intOf]; omega
    · have HV := Lib.hid (show z = -1 by
        rw [hE.out]; unfold endV
        rw [List.drop_of_length_le (by simp; omega), endF])
      go_wp2
      go_ret
      exact ⟨ret_int HV.out.symm, rfl⟩
theorem two_take {l : List UInt8} {j : Nat} {b : UInt8} (h : l[j]? = some b) : twoQ (l.take (j + 1)) = twoQ (l.take j) ++ (if b = 39 then [39, 39] else [b]) := by
  unfold twoQ
  rw [List.take_add_one, h, List.flatMap_append]; simp
theorem toList_app (a b : ByteArray) : (a ++ b).data.toList = a.data.toList ++ b.data.toList := by simp
theorem toList_one {s : ByteArray} {j : Nat} (h : j < s.size) : (s.extract j (j + 1)).data.toList = [s[j]] := by
  have e : (s.extract j (j + 1)).data.toList = (s.data.toList.drop j).take 1 := by simp
  rw [e, List.drop_eq_getElem_cons (by simpa using h)]
  simp; rfl
/-- what Quote answers -/
def QuoOut (s : ByteArray) (w : World) (e : Ending) (w' : World) : Prop := (∃ t : ByteArray, e = .returned (.string t) ∧ t.data.toList = quoQ s.data.toList ∧ t.size ≤ 2 * s.size + 2) ∧ w.grownBy w' none
end Go.Proofs.YtcmfmfkpmgoieaaGreatDoor

/- Walks of package lex: which bytes may be in a name, in a Plain, in a pattern; where a name ends; whether a text is a name. -/
import Derived.Test.YtcmfmfkpmgoieaaGreatDoorLxPlain
import Derived.Test.YtcmfmfkpmgoieaaGreatDoorLxRow
import Derived.Test.YtcmfmfkpmgoieaaGreatDoorLxRef
import Derived.Test.YtcmfmfkpmgoieaaGreatDoorQtBeh
import Derived.WalkSmall
namespace Go.Proofs.YtcmfmfkpmgoieaaGreatDoor
open Go.RowKit

set_option maxRecDepth 100000 in
theorem xNameByte (b : UInt8) (w : World) : Calls Tryz.prog 84 #[.int .u8 b.toNat] w fun e w' => e = .returned (.bool (ltrQ b)) ∧ w = w' := by
  have hb : b.toNat < 256 := b.toNat_lt
  unfold ltrQ
  by_cases h0 : b = 95
  · subst h0
    go_enter Tryz.func84, Tryz.ntmps84
    go_wp2
    go_ret
    exact ⟨rfl, rfl⟩
  · have e0 : (b == 95) = false := by simpa using h0
    have e1 : ((b.toNat : Int) == 95) = false := by
      rw [beq_eq_false_iff_ne]; intro h; exact h0 (UInt8.toNat_inj.1 (by show b.toNat = 95; omega))
    rw [e0]
    by_cases a1 : 48 ≤ b.toNat <;> by_cases a2 : b.toNat ≤ 57 <;> by_cases a3 : 65 ≤ b.toNat <;> by_cases a4 : b.toNat ≤ 90 <;> by_cases a5 : 97 ≤ b.toNat <;> by_cases a6 : b.toNat ≤ 122
    all_goals first
      | omega
      | (have f1 : decide ((48 : Int) ≤ (b.toNat : Int)) = decide (48 ≤ b.toNat) := by apply decide_eq_decide.2; omega
         have f2 : decide ((b.toNat : Int) ≤ 57) = decide (b.toNat ≤ 57) := by apply decide_eq_decide.2; omega
         have f3 : decide ((65 : Int) ≤ (b.toNat : Int)) = decide (65 ≤ b.toNat) := by apply decide_eq_decide.2; omega
         have f4 : decide ((b.toNat : Int) ≤ 90) = decide (b.toNat ≤ 90) := by apply decide_eq_decide.2; omega
         have f5 : decide ((97 : Int) ≤ (b.toNat : Int)) = decide (97 ≤ b.toNat) := by apply decide_eq_decide.2; omega
         have f6 : decide ((b.toNat : Int) ≤ 122) = decide (b.toNat ≤ 122) := by apply decide_eq_decide.2; omega
         simp only [a1, a2, a3, a4, a5, a6, decide_true, decide_false] at f1 f2 f3 f4 f5 f6 ⊢
         go_enter Tryz.func84, Tryz.ntmps84
         go_wp2
         go_ret
         exact ⟨rfl, rfl⟩)

set_option maxRecDepth 100000 in
set_option maxHeartbeats 1000000 in
theorem xNameEnd (s : ByteArray) (k : Nat) (w : World) (hs : s.size ≤ 100000) (hk : k ≤ s.size) : Calls Tryz.prog 67 #[.string s, .int .i64 k] w fun e w' => e = .returned (.int .i64 (spnQ ltrQ s.data.toList k)) ∧ w = w' := by
  obtain ⟨z, hz⟩ : ∃ z, spnQ ltrQ s.data.toList k = z := ⟨_, rfl⟩
  rw [hz]
  have HZ := Lib.hid hz
  clear hz
  go_enter Tryz.func67, Tryz.ntmps67
  go_wp2
  go_loop [1] (fun i => ∃ j : Nat, j ≤ s.size ∧ i = .int .i64 j ∧ Hid (spnQ ltrQ s.data.toList j = z)) (fun i => s.size - (intOf i).toNat)
  case atStart => exact ⟨k, hk, rfl, HZ⟩
  case round =>
    obtain ⟨j, hj, rfl, hE⟩ := hrel
    by_cases hlt : j < s.size
    · have HJ := Lib.hid (list_at hlt)
      have CB := Lib.hid (fun w => xNameByte s[j] w)
      cases hb : ltrQ s[j]
      · have HN := Lib.hid (show j = z by rw [← spn_off HJ.out hb]; exact hE.out)
        rw [hb] at CB
        clear hb hE
        go_wp2_with (go_at_call 84; (with_reducible refine (CB.out _).mono ?_); rintro e w3 ⟨rfl, rfl⟩)
        go_ret
        exact ⟨ret_int (by rw [HN.out]), rfl⟩
      · have HN := Lib.hid (show spnQ ltrQ s.data.toList (j + 1) = z by rw [← spn_on HJ.out hb]; exact hE.out)
        rw [hb] at CB
        clear hb hE
        go_wp2_with (go_at_call 84; (with_reducible refine (CB.out _).mono ?_); rintro e w3 ⟨rfl, rfl⟩)
        go_round
        case rel => exact ⟨j + 1, by omega, by go_num, HN⟩
        case measure => simp [intOf]; omega
    · have HN := Lib.hid (show j = z by rw [← spn_end (p := ltrQ) (l := s.data.toList) (k := j) (by simp; omega)]; exact hE.out)
      go_wp2
      go_ret
      exact ⟨ret_int (by rw [HN.out]), rfl⟩

theorem spn_full {p : UInt8 → Bool} {l : List UInt8} : (spnQ p l 0 == l.length) = l.all p := by
  unfold spnQ
  rw [List.drop_zero, Nat.zero_add]
  induction l with
  | nil => rfl
  | cons a l ih =>
    by_cases ha : p a = true
    · rw [List.takeWhile_cons_of_pos ha, List.all_cons, ha, Bool.true_and, ← ih]
      simp only [List.length_cons]
      rw [Bool.eq_iff_iff]; simp
    · rw [List.takeWhile_cons_of_neg ha, List.all_cons]
      simp [ha]
set_option maxRecDepth 100000 in
set_option maxHeartbeats 1000000 in
theorem xName (s : ByteArray) (w : World) (hs : s.size ≤ 100000) : Calls Tryz.prog 54 #[.string s] w fun e w' => e = .returned (.bool (namQ s.data.toList)) ∧ w = w' := by
  have hlen : s.data.toList.length = s.size := by simp
  have CE := Lib.hid (show ∀ w, Calls Tryz.prog 67 #[.string s, .int .i64 0] w fun e w' => e = .returned (.int .i64 (spnQ ltrQ s.data.toList 0)) ∧ w = w' from fun w => xNameEnd s 0 w hs (Nat.zero_le _))
  by_cases h0 : s.size = 0
  · have HZ := Lib.hid (show namQ s.data.toList = false by
      unfold namQ; rw [List.eq_nil_of_length_eq_zero (hlen.trans h0)]; rfl)
    have e0 : s.toList.isEmpty = true := by rw [Lib.toList_data, List.eq_nil_of_length_eq_zero (hlen.trans h0)]; rfl
    rw [HZ.out]
    clear hlen h0
    go_enter Tryz.func54, Tryz.ntmps54
    go_wp2
    go_ret
    exact ⟨rfl, rfl⟩
  · have hne : s.data.toList.isEmpty = false := by
      cases hc : s.data.toList with
      | nil => rw [hc] at hlen; simp at hlen; omega
      | cons a r => rfl
    have e0 : s.toList.isEmpty = false := by rw [Lib.toList_data]; exact hne
    have e0' : ¬s.toList = [] := by intro e; rw [e] at e0; cases e0
    by_cases h12 : s.size ≤ 12
    · obtain ⟨z, hz⟩ : ∃ z, spnQ ltrQ s.data.toList 0 = z := ⟨_, rfl⟩
      have HZ := Lib.hid (show namQ s.data.toList = (z == s.size) by
        unfold namQ
        rw [hne, hlen, decide_eq_true h12, ← spn_full, hz, hlen]; rfl)
      rw [hz] at CE
      have hz2 : z ≤ s.size := by
        rw [← hz, ← hlen]; exact (spn_le (Nat.zero_le _)).2
      have d1 : decide ((s.size : Int) ≤ 12) = true := by simp; omega
      rw [HZ.out]
      have HE := Lib.hid (show ((z : Int) == (s.size : Int)) = (z == s.size) by rw [Bool.eq_iff_iff]; simp; omega)
      clear hlen hne hz h12 h0
      go_enter Tryz.func54, Tryz.ntmps54
      go_wp2_with (go_at_call 67; (with_reducible refine (CE.out _).mono ?_); rintro e w3 ⟨rfl, rfl⟩)
      go_ret
      exact ⟨ret_bool HE.out, rfl⟩
    · have HZ := Lib.hid (show namQ s.data.toList = false by
        unfold namQ; rw [hlen, decide_eq_false h12]; simp)
      have d1 : decide ((s.size : Int) ≤ 12) = false := by simp; omega
      rw [HZ.out]
      clear hlen hne h12 h0
      go_enter Tryz.func54, Tryz.ntmps54
      go_wp2
      go_ret
      exact ⟨rfl, rfl⟩

set_option maxRecDepth 100000 in
theorem xPlainByte (b : UInt8) (w : World) : Calls Tryz.prog 73 #[.int .u8 b.toNat] w fun e w' => e = .returned (.bool (plcQ b)) ∧ w = w' := by
  have CB := Lib.hid (fun w => pBlank0 b w)
  have key : ∀ c : UInt8, ((b.toNat : Int) != (c.toNat : Int)) = !(b == c) := fun c => by
    rw [Bool.eq_iff_iff]
    simp only [bne_iff_ne, ne_eq, Bool.not_eq_true', beq_eq_false_iff_ne]
    constructor
    · intro h e; exact h (by rw [e])
    · intro h e; exact h (UInt8.toNat_inj.1 (by omega))
  have k1 : ((b.toNat : Int) != 39) = !(b == 39) := key 39
  have k2 : ((b.toNat : Int) != 36) = !(b == 36) := key 36
  have k3 : ((b.toNat : Int) != 96) = !(b == 96) := key 96
  clear key
  unfold plcQ
  generalize (b == 39) = z1 at k1 ⊢
  generalize (b == 36) = z2 at k2 ⊢
  generalize (b == 96) = z3 at k3 ⊢
  cases hb : blkQ b <;> cases z1 <;> cases z2 <;> cases z3
  all_goals
    rw [hb] at CB
    clear hb
    simp only [Bool.not_true, Bool.not_false] at k1 k2 k3
    go_enter Tryz.func73, Tryz.ntmps73
    go_wp2_with (go_at_call 44; (with_reducible refine (CB.out _).mono ?_); rintro e w3 ⟨rfl, rfl⟩)
    go_ret
    exact ⟨rfl, rfl⟩
end Go.Proofs.YtcmfmfkpmgoieaaGreatDoor

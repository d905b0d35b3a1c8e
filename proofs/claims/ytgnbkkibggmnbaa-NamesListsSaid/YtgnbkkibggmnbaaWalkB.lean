/- Walks of the document's own answers: their loops over one text. -/
import Derived.Test.YtgnbkkibggmnbaaRows
import Derived.Test.YtgnbkkibggmnbaaPlain
import Derived.WalkKit
import Derived.Lib.Hide
namespace Go.Proofs.Ytgnbkkibggmnbaa
open Go.RowKit

set_option maxHeartbeats 400000 in
theorem rRight (s : ByteArray) (w : World) (hs : s.size ≤ maxLen) :
    Calls Try.prog 11 #[.string s] w fun e w' => e = .returned (.bool (rightB s)) ∧ w = w' := by
  unfold maxLen at hs
  go_enter Try.func11, Try.ntmps11
  go_wp2
  go_loop [3] (fun i => ∃ k : Nat, k ≤ s.size ∧ i = .int .i64 k ∧ Hid ((s.data.toList.take k).all okc = true)) (fun i => s.size - (intOf i).toNat)
  case atStart => exact ⟨0, Nat.zero_le _, rfl, Lib.hid rfl⟩
  case round =>
    obtain ⟨k, hk, rfl, ha⟩ := hrel
    by_cases hlt : k < s.size
    · have hbad : Hid (okc s[k] = false → rightB s = false) := right_bad s k hlt
      have hgood : Hid (okc s[k] = true → (s.data.toList.take (k + 1)).all okc = true) := all_snoc s k hlt okc ha.out
      by_cases hc1 : (s[k].toNat : Int) ≤ 32
      · go_wp2
        go_ret
        exact ⟨ret_bool (hbad (by unfold okc; simp; omega)).symm, rfl⟩
      by_cases hc2 : 127 ≤ (s[k].toNat : Int)
      · go_wp2
        go_ret
        exact ⟨ret_bool (hbad (by unfold okc; simp; omega)).symm, rfl⟩
      go_wp2
      go_round
      case rel => exact ⟨k + 1, by omega, by go_num, hgood (by unfold okc; simp; omega)⟩
      case measure => simp [intOf]; omega
    · have hr := Lib.hid (right_eq s k (by omega) ha.out)
      by_cases h1 : (0 : Int) < s.size
      · go_wp2
        go_ret
        exact ⟨ret_bool (by rw [hr.out, decide_eq_true (show (0 : Int) < s.size by omega)]; simp), rfl⟩
      · go_wp2
        go_ret
        exact ⟨ret_bool (by rw [hr.out, decide_eq_false (show ¬ (0 : Int) < s.size by omega)]; simp), rfl⟩

set_option maxHeartbeats 400000 in
theorem rCount (s : ByteArray) (c : Int) (w : World) (hs : s.size ≤ maxLen) :
    Calls Try.prog 33 #[.string s, .int .u8 c] w fun e w' => e = .returned (.int .i64 (cnt s.data.toList c)) ∧ w = w' := by
  unfold maxLen at hs
  go_enter Try.func33, Try.ntmps33
  go_wp2
  go_loop [5, 6] (fun n i => ∃ k : Nat, k ≤ s.size ∧ i = .int .i64 k ∧ n = .int .i64 (cnt (s.data.toList.take k) c)) (fun _ i => s.size - (intOf i).toNat)
  case atStart => exact ⟨0, Nat.zero_le _, rfl, rfl⟩
  case round =>
    obtain ⟨k, hk, rfl, rfl⟩ := hrel
    have hl : cnt (s.data.toList.take k) c ≤ k := Nat.le_trans (cnt_le _ _) (List.length_take_le _ _)
    by_cases hlt : k < s.size
    · have hsn := Lib.hid (cnt_snoc s c k hlt)
      by_cases hc : ((s[k].toNat : Int) == c) = true
      · go_wp2
        go_round
        case rel => exact ⟨k + 1, by omega, by go_num, by rw [hsn.out, if_pos hc]; go_num⟩
        case measure => simp [intOf]; omega
      · have hc' : ((s[k].toNat : Int) == c) = false := by simpa using hc
        go_wp2
        go_round
        case rel => exact ⟨k + 1, by omega, by go_num, by rw [hsn.out, if_neg hc]; rfl⟩
        case measure => simp [intOf]; omega
    · have ht := Lib.hid (take_all s k (by omega))
      go_wp2
      go_ret
      exact ⟨ret_int (by rw [ht.out]), rfl⟩

set_option maxHeartbeats 400000 in
theorem lPlain (s : ByteArray) (w : World) (hs : s.size ≤ maxLen) :
    Calls Try.prog 18 #[.string s] w fun e w' => e = .returned (.bool (plainB s)) ∧ w = w' := by
  unfold maxLen at hs
  go_enter Try.func18, Try.ntmps18
  go_wp2
  go_loop [3] (fun i => ∃ k : Nat, k ≤ s.size ∧ i = .int .i64 k ∧ Hid ((s.data.toList.take k).all noBr = true)) (fun i => s.size - (intOf i).toNat)
  case atStart => exact ⟨0, Nat.zero_le _, rfl, Lib.hid rfl⟩
  case round =>
    obtain ⟨k, hk, rfl, ha⟩ := hrel
    by_cases hlt : k < s.size
    · have hbad : Hid (noBr s[k] = false → plainB s = false) := plain_bad s k hlt
      have hgood : Hid (noBr s[k] = true → (s.data.toList.take (k + 1)).all noBr = true) := all_snoc s k hlt noBr ha.out
      by_cases hc1 : ((s[k].toNat : Int) == 40) = true
      · go_wp2
        go_ret
        exact ⟨ret_bool (hbad (by unfold noBr; rw [hc1]; rfl)).symm, rfl⟩
      have hc1' : ((s[k].toNat : Int) == 40) = false := by simpa using hc1
      by_cases hc2 : ((s[k].toNat : Int) == 41) = true
      · go_wp2
        go_ret
        exact ⟨ret_bool (hbad (by unfold noBr; rw [hc2]; simp)).symm, rfl⟩
      have hc2' : ((s[k].toNat : Int) == 41) = false := by simpa using hc2
      go_wp2
      go_round
      case rel => exact ⟨k + 1, by omega, by go_num, hgood (by unfold noBr; rw [hc1', hc2']; rfl)⟩
      case measure => simp [intOf]; omega
    · have hr := Lib.hid (plain_all s k (by omega) ha.out)
      go_wp2
      go_ret
      exact ⟨ret_bool hr.out.symm, rfl⟩

set_option maxHeartbeats 400000 in
theorem rBase (s : ByteArray) (w : World) (hs : s.size ≤ maxLen) :
    Calls Try.prog 12 #[.string s] w fun e w' => e = .returned (.int .i64 (baseN s)) ∧ w = w' := by
  unfold maxLen at hs
  go_enter Try.func12, Try.ntmps12
  go_wp2
  go_loop [3] (fun i => ∃ k : Nat, k ≤ s.size ∧ i = .int .i64 ((k : Int) - 1) ∧ Hid ((baseN s : Int) = Lib.lastIdx s 47 k + 1)) (fun i => (intOf i + 1).toNat)
  case atStart => exact ⟨s.size, Nat.le_refl _, rfl, baseN_int s⟩
  case round =>
    obtain ⟨k, hk, rfl, ha⟩ := hrel
    by_cases hlt : 1 ≤ k
    · obtain ⟨j, rfl⟩ : ∃ j, k = j + 1 := ⟨k - 1, by omega⟩
      have hmiss : Hid (((s.data[j]!).toNat : Int) ≠ 47 → Lib.lastIdx s 47 (j + 1) = Lib.lastIdx s 47 j) := Lib.lastIdx_miss s 47 j
      have hhit : Hid (((s.data[j]!).toNat : Int) = 47 → Lib.lastIdx s 47 (j + 1) = j) := Lib.lastIdx_hit s 47 j
      have hb : Hid (s.data[j]! = s[j]) := byteBang s j (by omega)
      have e1 : ((j + 1 : Nat) : Int) - 1 = (j : Int) := by omega
      rw [e1]
      clear e1
      by_cases hc : ((s[j].toNat : Int) == 47) = true
      · go_wp2
        go_ret
        exact ⟨ret_int (by rw [ha.out, hhit (by rw [hb.out]; simpa using hc)]), rfl⟩
      · have hc' : ((s[j].toNat : Int) == 47) = false := by simpa using hc
        go_wp2
        go_round
        case rel => exact ⟨j, by omega, rfl, by rw [← hmiss (by rw [hb.out]; simpa using hc)]; exact ha.out⟩
        case measure => simp [intOf]
    · obtain rfl : k = 0 := by omega
      have h0 : Hid ((baseN s : Int) = 0) := ha.out
      go_wp2
      go_ret
      exact ⟨ret_int h0.out.symm, rfl⟩
end Go.Proofs.Ytgnbkkibggmnbaa

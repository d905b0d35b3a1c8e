/- The document's own answers on one text: how often a byte is there. -/
import Derived.Test.YtbcemenfklgnkaaGreatDoorRightRef
import Derived.WalkKit
import Derived.Lib.Hide
namespace Go.Proofs.YtbcemenfklgnkaaGreatDoor
open Go.RowKit

theorem rRight (s : ByteArray) (w : World) (hs : s.size ≤ maxLen) :
    Calls Tryz.prog 48 #[.string s] w fun e w' => e = .returned (.bool (rightB s)) ∧ w = w' := rRightT s w hs

set_option maxHeartbeats 400000 in
theorem rCount (s : ByteArray) (c : Int) (w : World) (hs : s.size ≤ maxLen) :
    Calls Tryz.prog 49 #[.string s, .int .u8 c] w fun e w' => e = .returned (.int .i64 (cnt s.data.toList c)) ∧ w = w' := by
  unfold maxLen at hs
  go_enter Tryz.func49, Tryz.ntmps49
  go_wp2
  go_loop [5, 6] (fun n i => ∃ k : Nat, k ≤ s.size ∧ i = .int .i64 k ∧ n = .int .i64 (cnt (s.data.toList.take k) c)) (fun _ i => s.size - (intOf i).toNat)
  case atStart => exact ⟨0, Nat.zero_le _, rfl, rfl⟩
  case round =>
    obtain ⟨k, hk, rfl, rfl⟩ := hrel
    have hl : cnt (s.data.toList.take k) c ≤ k := Nat.le_trans (cnt_le _ _) (List.length_take_le _ _)
    by_cases hlt : k < s.size
    · have hsn := Lib.hid (cnt_snoc s c k hlt)
      by_cases hc : ((s[k].toNat : Int) == c) = true
      · go_wp2
        go_round
        case rel => exact ⟨k + 1, by omega, by go_num, by rw [hsn.out, if_pos hc]; go_num⟩
        case measure => simp [intOf]; omega
      · have hc' : ((s[k].toNat : Int) == c) = false := by simpa using hc
        go_wp2
        go_round
        case rel => exact ⟨k + 1, by omega, by go_num, by rw [hsn.out, if_neg hc]; rfl⟩
        case measure => simp [intOf]; omega
    · have ht := Lib.hid (take_all s k (by omega))
      go_wp2
      go_ret
      exact ⟨ret_int (by rw [ht.out]), rfl⟩
end Go.Proofs.YtbcemenfklgnkaaGreatDoor

/- The document's answer to which texts are names: the walk. -/
import Derived.Test.YtbcemenfklgnkaaGreatDoorRows
import Derived.Test.YtbcemenfklgnkaaGreatDoorPlain
import Derived.WalkKit
import Derived.Lib.Hide
namespace Go.Proofs.YtbcemenfklgnkaaGreatDoor
open Go.RowKit

set_option maxHeartbeats 400000 in
theorem rRightT (s : ByteArray) (w : World) (hs : s.size ≤ maxLen) :
    Calls Tryz.prog 48 #[.string s] w fun e w' => e = .returned (.bool (rightB s)) ∧ w = w' := by
  unfold maxLen at hs
  go_enter Tryz.func48, Tryz.ntmps48
  go_wp2
  go_loop [3] (fun i => ∃ k : Nat, k ≤ s.size ∧ i = .int .i64 k ∧ Hid ((s.data.toList.take k).all okc = true)) (fun i => s.size - (intOf i).toNat)
  case atStart => exact ⟨0, Nat.zero_le _, rfl, Lib.hid rfl⟩
  case round =>
    obtain ⟨k, hk, rfl, ha⟩ := hrel
    by_cases hlt : k < s.size
    · have hbad : Hid (okc s[k] = false → rightB s = false) := right_bad s k hlt
      have hgood : Hid (okc s[k] = true → (s.data.toList.take (k + 1)).all okc = true) := all_snoc s k hlt okc ha.out
      by_cases hc1 : (s[k].toNat : Int) ≤ 32
      · go_wp2
        go_ret
        exact ⟨ret_bool (hbad (by unfold okc; simp; omega)).symm, rfl⟩
      by_cases hc2 : 127 ≤ (s[k].toNat : Int)
      · go_wp2
        go_ret
        exact ⟨ret_bool (hbad (by unfold okc; simp; omega)).symm, rfl⟩
      go_wp2
      go_round
      case rel => exact ⟨k + 1, by omega, by go_num, hgood (by unfold okc; simp; omega)⟩
      case measure => simp [intOf]; omega
    · have hr := Lib.hid (right_eq s k (by omega) ha.out)
      by_cases h1 : (0 : Int) < s.size
      · go_wp2
        go_ret
        exact ⟨ret_bool (by rw [hr.out, decide_eq_true (show (0 : Int) < s.size by omega)]; simp), rfl⟩
      · go_wp2
        go_ret
        exact ⟨ret_bool (by rw [hr.out, decide_eq_false (show ¬ (0 : Int) < s.size by omega)]; simp), rfl⟩

end Go.Proofs.YtbcemenfklgnkaaGreatDoor

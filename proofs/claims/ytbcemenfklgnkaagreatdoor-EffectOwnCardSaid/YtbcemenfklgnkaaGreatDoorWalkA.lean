/- Walks of the loops over one text. -/
import Derived.Test.YtbcemenfklgnkaaGreatDoorRows
import Derived.Test.YtbcemenfklgnkaaGreatDoorPlain
import Derived.WalkKit
import Derived.Lib.Hide
namespace Go.Proofs.YtbcemenfklgnkaaGreatDoor
open Go.RowKit

set_option maxHeartbeats 400000 in
theorem nRight (s : ByteArray) (w : World) (hs : s.size ≤ maxLen) :
    Calls Tryz.prog 55 #[.string s] w fun e w' => e = .returned (.bool (rightB s)) ∧ w = w' := by
  unfold maxLen at hs
  by_cases h1 : s.size < 1
  · have hr := Lib.hid (right_short s h1)
    go_enter Tryz.func55, Tryz.ntmps55
    go_wp2
    go_ret
    exact ⟨ret_bool hr.out.symm, rfl⟩
  by_cases h2 : 40 < s.size
  · have hr := Lib.hid (right_long s h2)
    go_enter Tryz.func55, Tryz.ntmps55
    go_wp2
    go_ret
    exact ⟨ret_bool hr.out.symm, rfl⟩
  go_enter Tryz.func55, Tryz.ntmps55
  go_wp2
  go_loop [3, 14] (fun _ i => ∃ k : Nat, k ≤ s.size ∧ i = .int .i64 k ∧ Hid ((s.data.toList.take k).all okc = true)) (fun _ i => s.size - (intOf i).toNat)
  case atStart => exact ⟨0, Nat.zero_le _, rfl, Lib.hid rfl⟩
  case round =>
    obtain ⟨k, hk, rfl, ha⟩ := hrel
    by_cases hlt : k < s.size
    · have hbad : Hid (okc s[k] = false → rightB s = false) := right_bad s k hlt
      have hgood : Hid (okc s[k] = true → (s.data.toList.take (k + 1)).all okc = true) := all_snoc s k hlt okc ha.out
      by_cases hc1 : (s[k].toNat : Int) < 33
      · go_wp2
        go_ret
        exact ⟨ret_bool (hbad (by unfold okc; simp; omega)).symm, rfl⟩
      by_cases hc2 : 126 < (s[k].toNat : Int)
      · go_wp2
        go_ret
        exact ⟨ret_bool (hbad (by unfold okc; simp; omega)).symm, rfl⟩
      go_wp2
      go_round
      case rel => exact ⟨k + 1, by omega, by go_num, hgood (by unfold okc; simp; omega)⟩
      case measure => simp [intOf]; omega
    · have hr := Lib.hid (right_all s (by omega) (by omega) k (by omega) ha.out)
      go_wp2
      go_ret
      exact ⟨ret_bool hr.out.symm, rfl⟩
end Go.Proofs.YtbcemenfklgnkaaGreatDoor

/- Walks of layer 6: Empty. Walks of layer 6: Has. The document's own answer whether a byte is in a set, bit by bit. The document's own set of a row of bools, bit by bit. -/
import Derived.Test.YtlkjejmmoalliaaDoorClsPlainB
namespace Go.Proofs.YtlkjejmmoalliaaDoor
open Go.RowKit

set_option maxHeartbeats 1000000 in
theorem cEmpty (s : BitVec 256) (w : World) :
    Calls Tryd.prog 21 #[setV s] w fun e w' => e = .returned (.bool (s == emp)) ∧ w.grownBy w' none := by
  go_enter Tryd.func21, Tryd.ntmps21
  go_upto_region 1 with fail
  have G := Lib.hid (World.grownBy_alloc w (.cells #[.int .u64 (wd s 0), .int .u64 (wd s 1), .int .u64 (wd s 2), .int .u64 (wd s 3)] 24) none)
  obtain ⟨c0, c1, c2, c3⟩ := set_new w s 24
  generalize w.heap.size = p at c0 c1 c2 c3 ⊢
  generalize w.alloc (.cells #[.int .u64 (wd s 0), .int .u64 (wd s 1), .int .u64 (wd s 2), .int .u64 (wd s 3)] 24) = w1 at G c0 c1 c2 c3 ⊢
  have he := eq_run 24 Tryd.underlying24 s emp
  rw [setV_emp] at he
  go_wp2
  go_ret
  exact ⟨rfl, G.out⟩
end Go.Proofs.YtlkjejmmoalliaaDoor

namespace Go.Proofs.YtlkjejmmoalliaaDoor
open Go.RowKit

theorem cHas (s : BitVec 256) (b : Nat) (w : World) (hb : b < 256) :
    Calls Tryd.prog 23 #[setV s, .int .u8 b] w fun e w' => e = .returned (.bool (inn s b)) ∧ w.grownBy w' none := by
  go_enter Tryd.func23, Tryd.ntmps23
  go_upto_region 1 with fail
  have G := Lib.hid (World.grownBy_alloc w (.cells #[.int .u64 (wd s 0), .int .u64 (wd s 1), .int .u64 (wd s 2), .int .u64 (wd s 3)] 24) none)
  have S := set_new w s 24
  have h1 := S.at (b / 64) (by omega)
  clear S
  generalize w.heap.size = p at h1 ⊢
  generalize w.alloc (.cells #[.int .u64 (wd s 0), .int .u64 (wd s 1), .int .u64 (wd s 2), .int .u64 (wd s 3)] 24) = w1 at G h1 ⊢
  have v0 := wd_ge s (b / 64); have v1 := wd_le s (b / 64)
  have H := Lib.hid (has_and s b)
  go_wp2
  go_ret
  exact ⟨ret_bool H.out, G.out⟩
end Go.Proofs.YtlkjejmmoalliaaDoor

namespace Go.Proofs.YtlkjejmmoalliaaDoor
open Go.RowKit

set_option maxHeartbeats 1000000 in
theorem cRHas (s : BitVec 256) (b : Nat) (w : World) (hb : b < 256) :
    Calls Tryd.prog 27 #[.agg #[.int .u64 (wd s 0), .int .u64 (wd s 1), .int .u64 (wd s 2), .int .u64 (wd s 3)], .int .i64 b] w fun e w' => e = .returned (.bool (inn s b)) ∧ w.grownBy w' none := by
  go_enter Tryd.func27, Tryd.ntmps27
  go_upto_region 1 with fail
  have G := Lib.hid (World.grownBy_alloc w (.cells #[.int .u64 (wd s 0), .int .u64 (wd s 1), .int .u64 (wd s 2), .int .u64 (wd s 3)] 23) none)
  have S := set_new w s 23
  have h1 := S.at (b / 64) (by omega)
  clear S
  generalize w.heap.size = p at h1 ⊢
  generalize w.alloc (.cells #[.int .u64 (wd s 0), .int .u64 (wd s 1), .int .u64 (wd s 2), .int .u64 (wd s 3)] 23) = w1 at G h1 ⊢
  have hm : b % 64 < 64 := by omega
  have HX := Lib.hid (has_bit s (b / 64) (b % 64) hm)
  have HE := Lib.hid (show 64 * (b / 64) + b % 64 = b by omega)
  obtain ⟨x, hx⟩ : ∃ x, x = wn s (b / 64) := ⟨_, rfl⟩
  have hv : wd s (b / 64) = x := by rw [hx]; rfl
  have hxl : x < 18446744073709551616 := by rw [hx]; exact wn_lt _ _
  rw [hv] at h1
  rw [← hx] at HX
  clear hv hx
  go_wp2
  go_loop [5, 6] (fun v i => ∃ k : Nat, k ≤ b % 64 ∧ i = .int .i64 k ∧ ∃ y : Nat, Hid (y = x / 2 ^ k) ∧ y < 18446744073709551616 ∧ v = .int .u64 y) (fun _ i => b % 64 - (intOf i).toNat)
  case atStart => exact ⟨0, Nat.zero_le _, rfl, x, Lib.hid (by simp), hxl, rfl⟩
  case round =>
    obtain ⟨k, hk, rfl, y, hy, hyl, rfl⟩ := hrel
    by_cases hlt : k < b % 64
    · have HY := Lib.hid (show y / 2 = x / 2 ^ (k + 1) by rw [hy.out, half])
      go_wp2
      go_round
      case rel => exact ⟨k + 1, by omega, by go_num, y / 2, HY, by omega, by go_num⟩
      case measure => simp [intOf]; omega
    · obtain rfl : k = b % 64 := by omega
      have HB := Lib.hid (show (((y : Nat) : Int) % 2 == (1 : Int)) = inn s b by
        have := HX.out
        rw [← hy.out, HE.out] at this
        cases h : inn s b
        · rw [h] at this; simp at this; simp; omega
        · rw [h] at this; simp at this; simp; omega)
      go_wp2
      go_ret
      exact ⟨ret_bool HB.out, G.out⟩
end Go.Proofs.YtlkjejmmoalliaaDoor

namespace Go.Proofs.YtlkjejmmoalliaaDoor
open Go.RowKit

end Go.Proofs.YtlkjejmmoalliaaDoor

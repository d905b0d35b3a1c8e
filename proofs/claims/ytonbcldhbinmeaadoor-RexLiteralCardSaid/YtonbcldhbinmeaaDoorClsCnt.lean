/- Walks of layer 6: Count. -/
import Derived.Test.YtonbcldhbinmeaaDoorClsPopW
namespace Go.Proofs.YtonbcldhbinmeaaDoor
open Go.RowKit

set_option maxRecDepth 100000 in
set_option maxHeartbeats 1000000 in
theorem cCount (s : BitVec 256) (w : World) :
    Calls Tryd.prog 19 #[setV s] w fun e w' => e = .returned (.int .i64 (cnt s)) ∧ w.grownBy w' none := by
  go_enter Tryd.func19, Tryd.ntmps19
  go_upto_region 1 with fail
  have G := Lib.hid (World.grownBy_alloc w (.cells #[.int .u64 (wd s 0), .int .u64 (wd s 1), .int .u64 (wd s 2), .int .u64 (wd s 3)] 25) none)
  obtain ⟨c0, c1, c2, c3⟩ := set_new w s 25
  generalize w.heap.size = p at c0 c1 c2 c3 ⊢
  generalize w.alloc (.cells #[.int .u64 (wd s 0), .int .u64 (wd s 1), .int .u64 (wd s 2), .int .u64 (wd s 3)] 25) = w1 at G c0 c1 c2 c3 ⊢
  go_wp2
  go_loop [3, 5, 7] (fun n _ i => ∃ k : Nat, k ≤ 4 ∧ i = .int .i64 k ∧ n = .int .i64 (cntTo s k)) (fun _ _ i => 4 - (intOf i).toNat)
  case atStart => exact ⟨0, by omega, rfl, rfl⟩
  case round =>
    obtain ⟨k, hk, rfl, rfl⟩ := hrel
    by_cases hlt : k < 4
    · have hidx := idx s k hlt w1
      have hcl := cntTo_le s k
      obtain ⟨m, hm, hC, hsn⟩ : ∃ m : Nat, m ≤ 64 ∧ Hid (∀ w, Calls Tryd.prog 32 #[.int .u64 (wd s k)] w fun e w' => e = .returned (.int .i64 m) ∧ w = w') ∧ Hid (((cntTo s k : Nat) : Int) + m = ((cntTo s (k + 1) : Nat) : Int)) :=
        ⟨popN 64 (wn s k), popN_le 64 _, Lib.hid (fun w => cPop (wn s k) (wn_lt s k) w), Lib.hid (by show _ = ((cntTo s k + popN 64 (wn s k) : Nat) : Int); omega)⟩
      obtain ⟨c, hc⟩ : ∃ c, c = cntTo s k := ⟨_, rfl⟩
      rw [← hc] at hcl hsn ⊢
      clear hc
      go_wp2_with (go_at_call 32; refine (hC.out _).mono ?_; rintro e w' ⟨rfl, rfl⟩)
      go_round
      case rel => exact ⟨k + 1, by omega, by go_num, by rw [hsn.out]⟩
      case measure => simp [intOf]; omega
    · obtain rfl : k = 4 := by omega
      have H := Lib.hid (cntTo_all s)
      go_wp2
      go_ret
      exact ⟨ret_int (by rw [H.out]), G.out⟩
end Go.Proofs.YtonbcldhbinmeaaDoor

/- Walks of layer 6: Empty. -/
import Derived.Test.YtgpmhnpacpgckaaDoorClsPlainB
namespace Go.Proofs.YtgpmhnpacpgckaaDoor
open Go.RowKit

set_option maxHeartbeats 1000000 in
theorem cEmpty (s : BitVec 256) (w : World) :
    Calls Tryd.prog 45 #[setV s] w fun e w' => e = .returned (.bool (s == emp)) ∧ w.grownBy w' none := by
  go_enter Tryd.func45, Tryd.ntmps45
  go_upto_region 1 with fail
  have G := Lib.hid (World.grownBy_alloc w (.cells #[.int .u64 (wd s 0), .int .u64 (wd s 1), .int .u64 (wd s 2), .int .u64 (wd s 3)] 56) none)
  obtain ⟨c0, c1, c2, c3⟩ := set_new w s 56
  generalize w.heap.size = p at c0 c1 c2 c3 ⊢
  generalize w.alloc (.cells #[.int .u64 (wd s 0), .int .u64 (wd s 1), .int .u64 (wd s 2), .int .u64 (wd s 3)] 56) = w1 at G c0 c1 c2 c3 ⊢
  have he := eq_run 56 Tryd.underlying56 s emp
  rw [setV_emp] at he
  go_wp2
  go_ret
  exact ⟨rfl, G.out⟩
end Go.Proofs.YtgpmhnpacpgckaaDoor

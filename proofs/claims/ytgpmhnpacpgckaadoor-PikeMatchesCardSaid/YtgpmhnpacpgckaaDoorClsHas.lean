/- Walks of layer 6: Has. -/
import Derived.Test.YtgpmhnpacpgckaaDoorClsPlainB
namespace Go.Proofs.YtgpmhnpacpgckaaDoor
open Go.RowKit

theorem cHas (s : BitVec 256) (b : Nat) (w : World) (hb : b < 256) :
    Calls Tryd.prog 23 #[setV s, .int .u8 b] w fun e w' => e = .returned (.bool (inn s b)) ∧ w.grownBy w' none := by
  go_enter Tryd.func23, Tryd.ntmps23
  go_upto_region 1 with fail
  have G := Lib.hid (World.grownBy_alloc w (.cells #[.int .u64 (wd s 0), .int .u64 (wd s 1), .int .u64 (wd s 2), .int .u64 (wd s 3)] 56) none)
  have S := set_new w s 56
  have h1 := S.at (b / 64) (by omega)
  clear S
  generalize w.heap.size = p at h1 ⊢
  generalize w.alloc (.cells #[.int .u64 (wd s 0), .int .u64 (wd s 1), .int .u64 (wd s 2), .int .u64 (wd s 3)] 56) = w1 at G h1 ⊢
  have v0 := wd_ge s (b / 64); have v1 := wd_le s (b / 64)
  have H := Lib.hid (has_and s b)
  go_wp2
  go_ret
  exact ⟨ret_bool H.out, G.out⟩
end Go.Proofs.YtgpmhnpacpgckaaDoor

/- Walks of layer 6: Empty. Walks of layer 6: Has. The document's own answer whether a byte is in a set, bit by bit. The document's own set of a row of bools, bit by bit. -/
import Derived.Test.YtlkjejmmoalliaaGreatDoorClsPlainB
namespace Go.Proofs.YtlkjejmmoalliaaGreatDoor
open Go.RowKit

set_option maxHeartbeats 1000000 in
theorem cEmpty (s : BitVec 256) (w : World) :
    Calls Tryz.prog 52 #[setV s] w fun e w' => e = .returned (.bool (s == emp)) ∧ w.grownBy w' none := by
  go_enter Tryz.func52, Tryz.ntmps52
  go_upto_region 1 with fail
  have G := Lib.hid (World.grownBy_alloc w (.cells #[.int .u64 (wd s 0), .int .u64 (wd s 1), .int .u64 (wd s 2), .int .u64 (wd s 3)] 25) none)
  obtain ⟨c0, c1, c2, c3⟩ := set_new w s 25
  generalize w.heap.size = p at c0 c1 c2 c3 ⊢
  generalize w.alloc (.cells #[.int .u64 (wd s 0), .int .u64 (wd s 1), .int .u64 (wd s 2), .int .u64 (wd s 3)] 25) = w1 at G c0 c1 c2 c3 ⊢
  have he := eq_run 25 Tryz.underlying25 s emp
  rw [setV_emp] at he
  go_wp2
  go_ret
  exact ⟨rfl, G.out⟩
end Go.Proofs.YtlkjejmmoalliaaGreatDoor

namespace Go.Proofs.YtlkjejmmoalliaaGreatDoor
open Go.RowKit

theorem cHas (s : BitVec 256) (b : Nat) (w : World) (hb : b < 256) :
    Calls Tryz.prog 40 #[setV s, .int .u8 b] w fun e w' => e = .returned (.bool (inn s b)) ∧ w.grownBy w' none := by
  go_enter Tryz.func40, Tryz.ntmps40
  go_upto_region 1 with fail
  have G := Lib.hid (World.grownBy_alloc w (.cells #[.int .u64 (wd s 0), .int .u64 (wd s 1), .int .u64 (wd s 2), .int .u64 (wd s 3)] 25) none)
  have S := set_new w s 25
  have h1 := S.at (b / 64) (by omega)
  clear S
  generalize w.heap.size = p at h1 ⊢
  generalize w.alloc (.cells #[.int .u64 (wd s 0), .int .u64 (wd s 1), .int .u64 (wd s 2), .int .u64 (wd s 3)] 25) = w1 at G h1 ⊢
  have v0 := wd_ge s (b / 64); have v1 := wd_le s (b / 64)
  have H := Lib.hid (has_and s b)
  go_wp2
  go_ret
  exact ⟨ret_bool H.out, G.out⟩
end Go.Proofs.YtlkjejmmoalliaaGreatDoor

namespace Go.Proofs.YtlkjejmmoalliaaGreatDoor
open Go.RowKit

end Go.Proofs.YtlkjejmmoalliaaGreatDoor

namespace Go.Proofs.YtlkjejmmoalliaaGreatDoor
open Go.RowKit

end Go.Proofs.YtlkjejmmoalliaaGreatDoor

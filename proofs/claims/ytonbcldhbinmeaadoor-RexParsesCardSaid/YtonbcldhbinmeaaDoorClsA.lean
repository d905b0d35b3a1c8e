/- Walks of layer 6: the closures over words. -/
import Derived.Test.YtonbcldhbinmeaaDoorClsPlainB
namespace Go.Proofs.YtonbcldhbinmeaaDoor
open Go.RowKit

theorem cOr (s t : BitVec 256) (i p q : Nat) (w : World) (hi : i < 4) (hs : SetAt w p s) (ht : SetAt w q t) :
    Calls Tryd.prog 65 #[.int .i64 i, .pointer (some ⟨p, 0, none⟩), .pointer (some ⟨q, 0, none⟩)] w fun e w' => e = .returned (.int .u64 (wd (un s t) i)) ∧ w.grownBy w' none := by
  have h1 := hs.at i hi
  have h2 := ht.at i hi
  have H := Lib.hid (wd_or s t i)
  clear hs ht
  go_enter Tryd.func65, Tryd.ntmps65
  go_wp2
  go_quiet (fail)
  go_wp2
  go_ret
  exact ⟨congrArg (fun x => Ending.returned (Value.int IntKind.u64 x)) H.out, grown_drewN (World.grownBy.refl _ _) _⟩

theorem cNot1 (s : BitVec 256) (i p : Nat) (w : World) (hi : i < 4) (hs : SetAt w p s) :
    Calls Tryd.prog 60 #[.int .i64 i, .pointer (some ⟨p, 0, none⟩)] w fun e w' => e = .returned (.int .u64 (wd (no s) i)) ∧ w = w' := by
  have h1 := hs.at i hi
  have H := Lib.hid (wd_not s i hi)
  clear hs
  go_enter Tryd.func60, Tryd.ntmps60
  go_wp2
  go_ret
  all_goals exact ⟨congrArg (fun x => Ending.returned (Value.int IntKind.u64 x)) H.out, rfl⟩
end Go.Proofs.YtonbcldhbinmeaaDoor

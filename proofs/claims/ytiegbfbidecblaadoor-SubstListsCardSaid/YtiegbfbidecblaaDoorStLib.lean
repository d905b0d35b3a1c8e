/- What the library answers to package stem: where the first of two signs stands, is one of two there, a text without its beginning or its end. -/
import Derived.Test.YtiegbfbidecblaaDoorStAny
import Derived.Test.YtiegbfbidecblaaDoorStPlain
import Derived.Test.YtiegbfbidecblaaDoorBldS
import Derived.Test.YtiegbfbidecblaaDoorGrown
import Derived.Test.YtiegbfbidecblaaDoorShelf
namespace Go.Proofs.YtiegbfbidecblaaDoor
open Go.RowKit

theorem bIndexW (s : ByteArray) (w : World) (hs : s.size ≤ 100000) : Calls Tryd.prog 32 #[.string s, .string ⟨#[37, 38]⟩] w fun e w' => e = .returned (.int .i64 (wldN s.data.toList)) ∧ w.grownBy w' none := by
  have h := ixany_any Tryd.lays153 (by kernel_rfl) s ⟨#[37, 38]⟩ w (by decide) (by omega) (by decide) (by
    intro j b hb
    match j, hb with
    | 0, hb => cases hb; decide
    | 1, hb => cases hb; decide
    | j + 2, hb => cases hb)
  rw [show (⟨#[37, 38]⟩ : ByteArray).data.toList = [37, 38] from rfl, ixany_wld] at h
  exact h.mono fun e w' ⟨he, hb⟩ => ⟨he, grown_of_below hb⟩
theorem bHasN (s : ByteArray) (w : World) (hs : s.size ≤ 100000) : Calls Tryd.prog 36 #[.string s, .string ⟨#[46, 47]⟩] w fun e w' => e = .returned (.bool (!nrwS s.data.toList)) ∧ w.grownBy w' none := by
  have h := cany_any Tryd.lays150 (by kernel_rfl) s ⟨#[46, 47]⟩ w (by decide) (by omega) (by decide) (by
    intro j b hb
    match j, hb with
    | 0, hb => cases hb; decide
    | 1, hb => cases hb; decide
    | j + 2, hb => cases hb)
  rw [show (⟨#[46, 47]⟩ : ByteArray).data.toList = [46, 47] from rfl, cany_nrw] at h
  exact h.mono fun e w' ⟨he, hb⟩ => ⟨he, grown_of_below hb⟩
theorem bCutP (s p : ByteArray) (w : World) : Calls Tryd.prog 34 #[.string s, .string p] w fun e w' => e = .returned (.tuple #[.string ⟨(Lib.trimPrefix s.data.toList p.data.toList).toArray⟩, .bool (Lib.hasPrefix s.data.toList p.data.toList)]) ∧ w = w' :=
  (Tryd.strings_CutPrefix s p w).mono fun _ _ ⟨a, b⟩ => ⟨a, b.symm⟩
theorem bCutS (s p : ByteArray) (w : World) (hs : s.size ≤ 100000) : Calls Tryd.prog 35 #[.string s, .string p] w fun e w' => e = .returned (.tuple #[.string ⟨(Lib.trimSuffix s.data.toList p.data.toList).toArray⟩, .bool (Lib.hasSuffix s.data.toList p.data.toList)]) ∧ w = w' :=
  (Tryd.strings_CutSuffix s p w (by omega)).mono fun _ _ ⟨a, b⟩ => ⟨a, b.symm⟩
end Go.Proofs.YtiegbfbidecblaaDoor

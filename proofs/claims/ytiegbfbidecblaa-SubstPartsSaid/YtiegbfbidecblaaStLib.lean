/- What the library answers to package stem: where the first of two signs stands, is one of two there, a text without its beginning or its end. -/
import Derived.Test.YtiegbfbidecblaaStAny
import Derived.Test.YtiegbfbidecblaaStPlain
import Derived.Test.YtiegbfbidecblaaBldS
import Derived.Test.YtiegbfbidecblaaGrown
import Derived.Test.YtiegbfbidecblaaShelf
namespace Go.Proofs.Ytiegbfbidecblaa
open Go.RowKit

theorem bIndexW (s : ByteArray) (w : World) (hs : s.size ≤ 100000) : Calls Try.prog 22 #[.string s, .string ⟨#[37, 38]⟩] w fun e w' => e = .returned (.int .i64 (wldN s.data.toList)) ∧ w.grownBy w' none := by
  have h := ixany_any Try.lays153 (by kernel_rfl) s ⟨#[37, 38]⟩ w (by decide) (by omega) (by decide) (by
    intro j b hb
    match j, hb with
    | 0, hb => cases hb; decide
    | 1, hb => cases hb; decide
    | j + 2, hb => cases hb)
  rw [show (⟨#[37, 38]⟩ : ByteArray).data.toList = [37, 38] from rfl, ixany_wld] at h
  exact h.mono fun e w' ⟨he, hb⟩ => ⟨he, grown_of_below hb⟩
theorem bHasN (s : ByteArray) (w : World) (hs : s.size ≤ 100000) : Calls Try.prog 32 #[.string s, .string ⟨#[46, 47]⟩] w fun e w' => e = .returned (.bool (!nrwS s.data.toList)) ∧ w.grownBy w' none := by
  have h := cany_any Try.lays150 (by kernel_rfl) s ⟨#[46, 47]⟩ w (by decide) (by omega) (by decide) (by
    intro j b hb
    match j, hb with
    | 0, hb => cases hb; decide
    | 1, hb => cases hb; decide
    | j + 2, hb => cases hb)
  rw [show (⟨#[46, 47]⟩ : ByteArray).data.toList = [46, 47] from rfl, cany_nrw] at h
  exact h.mono fun e w' ⟨he, hb⟩ => ⟨he, grown_of_below hb⟩
theorem bCutP (s p : ByteArray) (w : World) : Calls Try.prog 30 #[.string s, .string p] w fun e w' => e = .returned (.tuple #[.string ⟨(Lib.trimPrefix s.data.toList p.data.toList).toArray⟩, .bool (Lib.hasPrefix s.data.toList p.data.toList)]) ∧ w = w' :=
  (Try.strings_CutPrefix s p w).mono fun _ _ ⟨a, b⟩ => ⟨a, b.symm⟩
theorem bCutS (s p : ByteArray) (w : World) (hs : s.size ≤ 100000) : Calls Try.prog 31 #[.string s, .string p] w fun e w' => e = .returned (.tuple #[.string ⟨(Lib.trimSuffix s.data.toList p.data.toList).toArray⟩, .bool (Lib.hasSuffix s.data.toList p.data.toList)]) ∧ w = w' :=
  (Try.strings_CutSuffix s p w (by omega)).mono fun _ _ ⟨a, b⟩ => ⟨a, b.symm⟩
end Go.Proofs.Ytiegbfbidecblaa

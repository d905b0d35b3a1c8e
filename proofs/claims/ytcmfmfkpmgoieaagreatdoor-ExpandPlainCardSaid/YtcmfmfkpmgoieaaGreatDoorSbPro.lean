/- Walks of package subst: the stem of a word that fits, a word that is put. The chapter's example of layer 16. -/
import Derived.Test.YtcmfmfkpmgoieaaGreatDoorStPlain
import Derived.Test.YtcmfmfkpmgoieaaGreatDoorStProF
namespace Go.Proofs.YtcmfmfkpmgoieaaGreatDoor
open Go.RowKit

set_option maxRecDepth 100000 in
theorem sMatch (x p : ByteArray) (w : World) (hx : x.size ≤ 5000) (hp : p.size ≤ 5000) : Calls Tryz.prog 77 #[.string x, .string p] w (PMt p.data.toList x.data.toList w) := by
  by_cases h : x.size + 1 < p.size
  · have HN := Lib.hid (mtc_short (p := p.data.toList) (s := x.data.toList) (by rw [← Lib.size_eq, ← Lib.size_eq]; exact h))
    unfold PMt
    go_enter Tryz.func77, Tryz.ntmps77
    go_wp2
    go_ret2
    exact ⟨World.grownBy.refl _ _, ⟨#[]⟩, by rw [HN.out]; rfl, by rw [HN.out]; rfl⟩
  · have CM := Lib.hid (pMatch p x w hp hx)
    unfold PMt at CM ⊢
    generalize mtcS p.data.toList x.data.toList = M at CM ⊢
    go_enter Tryz.func77, Tryz.ntmps77
    go_wp2_with (go_at_call 94; (with_reducible refine CM.out.mono ?_); rintro e w1 ⟨g1, t, rfl, ht⟩; have G1 := Lib.hid g1; have HT := Lib.hid ht; clear g1 ht)
    go_ret2
    exact ⟨G1.out, t, rfl, HT.out⟩
theorem ba_self (x : ByteArray) : (⟨x.data.toList.toArray⟩ : ByteArray) = x := by simp
/-- the stem of a word that fits, or no text -/
theorem sFits (x p : ByteArray) (w : World) (hx : x.size ≤ 5000) (hp : p.size ≤ 5000) : Calls Tryz.prog 77 #[.string x, .string p] w fun e w' =>
    w.grownBy w' none ∧ ∃ t : ByteArray, e = .returned (.tuple #[.string t, .bool (fitB p.data.toList x)]) ∧ t.data.toList = (mtcS p.data.toList x.data.toList).getD [] := sMatch x p w hx hp
end Go.Proofs.YtcmfmfkpmgoieaaGreatDoor

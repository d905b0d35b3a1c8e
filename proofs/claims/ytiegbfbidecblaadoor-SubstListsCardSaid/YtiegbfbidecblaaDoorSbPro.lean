/- Walks of package subst: the stem of a word that fits, a word that is put. The chapter's example of layer 16. -/
import Derived.Test.YtiegbfbidecblaaDoorSbPlain
import Derived.Test.YtiegbfbidecblaaDoorStProF
namespace Go.Proofs.YtiegbfbidecblaaDoor
open Go.RowKit

set_option maxRecDepth 100000 in
theorem sMatch (x p : ByteArray) (w : World) (hx : x.size ≤ 5000) (hp : p.size ≤ 5000) : Calls Tryd.prog 15 #[.string x, .string p] w (PMt p.data.toList x.data.toList w) := by
  by_cases h : x.size + 1 < p.size
  · have HN := Lib.hid (mtc_short (p := p.data.toList) (s := x.data.toList) (by rw [← Lib.size_eq, ← Lib.size_eq]; exact h))
    unfold PMt
    go_enter Tryd.func15, Tryd.ntmps15
    go_wp2
    go_ret2
    exact ⟨World.grownBy.refl _ _, ⟨#[]⟩, by rw [HN.out]; rfl, by rw [HN.out]; rfl⟩
  · have CM := Lib.hid (pMatch p x w hp hx)
    unfold PMt at CM ⊢
    generalize mtcS p.data.toList x.data.toList = M at CM ⊢
    go_enter Tryd.func15, Tryd.ntmps15
    go_wp2_with (go_at_call 23; (with_reducible refine CM.out.mono ?_); rintro e w1 ⟨g1, t, rfl, ht⟩; have G1 := Lib.hid g1; have HT := Lib.hid ht; clear g1 ht)
    go_ret2
    exact ⟨G1.out, t, rfl, HT.out⟩
theorem ba_self (x : ByteArray) : (⟨x.data.toList.toArray⟩ : ByteArray) = x := by simp
/-- the stem of a word that fits, or no text -/
theorem sFits (x p : ByteArray) (w : World) (hx : x.size ≤ 5000) (hp : p.size ≤ 5000) : Calls Tryd.prog 15 #[.string x, .string p] w fun e w' =>
    w.grownBy w' none ∧ ∃ t : ByteArray, e = .returned (.tuple #[.string t, .bool (fitB p.data.toList x)]) ∧ t.data.toList = (mtcS p.data.toList x.data.toList).getD [] := sMatch x p w hx hp
set_option maxRecDepth 100000 in
theorem sWord (x fr tu : ByteArray) (w : World) (hx : x.size ≤ 200) (hf : fr.size ≤ 200) (ht : tu.size ≤ 200) : Calls Tryd.prog 9 #[.string x, .string fr, .string tu] w fun e w' =>
    e = .returned (.string (putB fr.data.toList tu.data.toList x)) ∧ w.grownBy w' none := by
  have CM := sMatch x fr w (by omega) (by omega)
  unfold PMt at CM
  unfold putB
  cases hm : mtcS fr.data.toList x.data.toList with
  | none =>
    rw [hm] at CM
    simp only [Option.isSome] at CM
    have CM := Lib.hid CM
    rw [put_none hm, ba_self]
    clear hm
    go_enter Tryd.func9, Tryd.ntmps9
    go_wp2_with (go_at_call 15; (with_reducible refine CM.out.mono ?_); rintro e w1 ⟨g1, t, rfl, ht⟩; have G1 := Lib.hid g1; clear g1 ht)
    go_ret
    exact ⟨rfl, G1.out⟩
  | some t =>
    rw [hm] at CM
    simp only [Option.isSome, Option.getD] at CM
    have CM := Lib.hid CM
    have hl := (mtc_len hm).2
    rw [← Lib.size_eq] at hl
    rw [put_some hm]
    have CF := Lib.hid (fun (T : ByteArray) (w : World) (h : T.data.toList = t) => show Calls Tryd.prog 18 #[.string tu, .string T] w fun e w' => e = .returned (.string ⟨(filS tu.data.toList t).toArray⟩) ∧ w.grownBy w' none from by
      have := pFill tu T w ht (by rw [Lib.size_eq, h]; omega)
      rw [h] at this; exact this)
    clear hm
    generalize filS tu.data.toList t = F at CF ⊢
    go_enter Tryd.func9, Tryd.ntmps9
    go_wp2_with (first
      | (go_at_call 15; (with_reducible refine CM.out.mono ?_); rintro e w1 ⟨g1, T, rfl, hT⟩; have G1 := Lib.hid g1; have HT := Lib.hid hT; clear g1 hT)
      | (go_at_call 18; (with_reducible refine (CF.out _ _ HT.out).mono ?_); rintro e w2 ⟨rfl, g2⟩; have G2 := Lib.hid (G1.out.trans g2); clear g2))
    go_ret
    exact ⟨rfl, G2.out⟩
set_option maxRecDepth 100000 in
theorem lAlive16 (w : World) : Calls Tryd.prog 4 #[] w fun e w' => e = .returned (.bool true) ∧ w.grownBy w' none := by
  have CX := sWord ⟨#[120, 46, 99]⟩ ⟨#[37, 46, 99]⟩ ⟨#[37, 46, 111]⟩ w (by decide) (by decide) (by decide)
  have CY := fun w => sWord ⟨#[121, 46, 104]⟩ ⟨#[37, 46, 99]⟩ ⟨#[37, 46, 111]⟩ w (by decide) (by decide) (by decide)
  have e1 : putB (⟨#[37, 46, 99]⟩ : ByteArray).data.toList (⟨#[37, 46, 111]⟩ : ByteArray).data.toList ⟨#[120, 46, 99]⟩ = ⟨#[120, 46, 111]⟩ := by decide
  have e2 : putB (⟨#[37, 46, 99]⟩ : ByteArray).data.toList (⟨#[37, 46, 111]⟩ : ByteArray).data.toList ⟨#[121, 46, 104]⟩ = ⟨#[121, 46, 104]⟩ := by decide
  rw [e1] at CX
  rw [e2] at CY
  have CX := Lib.hid CX
  have CY := Lib.hid CY
  clear e1 e2
  go_enter Tryd.func4, Tryd.ntmps4
  go_wp2_with (first
    | (go_at_call 9; (with_reducible refine CX.out.mono ?_); rintro e w1 ⟨rfl, g1⟩; have G1 := Lib.hid g1; clear g1)
    | (go_at_call 9; (with_reducible refine (CY.out _).mono ?_); rintro e w2 ⟨rfl, g2⟩; have G2 := Lib.hid (G1.out.trans g2); clear g2))
  go_ret
  exact ⟨rfl, G2.out⟩
end Go.Proofs.YtiegbfbidecblaaDoor

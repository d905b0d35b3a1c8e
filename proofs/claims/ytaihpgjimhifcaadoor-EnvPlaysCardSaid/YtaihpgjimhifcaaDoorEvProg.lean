/- What is proved of package env, as the laws of layer 14 are told of it. -/
import Derived.Test.YtaihpgjimhifcaaDoorEvCopy
import Derived.Test.YtaihpgjimhifcaaDoorEvSit
namespace Go.Proofs.YtaihpgjimhifcaaDoor
open Go.RowKit

theorem evi_find {Z : List Vz} {s : ByteArray} : (vbL Z).find? (isB s) = (Z.find? fun x => decide (x.n = s)).map Vz.b := vb_find Z s
theorem evProg (A : Nat → Addr) : EvC A (FourE A) EvI where
  gr := fun w w' h g => h.grown g
  keep := fun w w' p F l ⟨b, Z, h, e⟩ k => ⟨b, Z, h.keep k, e⟩
  lt := fun w p F l ⟨b, Z, h, e⟩ => h.lt
  new := fun w _ => (pNew w).mono (by
    rintro e w' ⟨g, rfl, h⟩
    refine ⟨g, _, _, rfl, ⟨_, [], h, rfl⟩, ?_⟩
    rintro k (rfl | rfl) <;> omega)
  copy := fun w p F l _ ⟨b, Z, h, e⟩ => (pCopy p b F Z w h).mono (by
    rintro en w' ⟨g, p', F', rfl, hi, hb⟩
    exact ⟨g, p', F', rfl, e ▸ hi, hb⟩)
  check := fun w x hE ht hn hl => by
    obtain ⟨n, ws, lv, hd, u⟩ := x
    obtain ⟨a, c, eu, -⟩ := id ht
    simp only at eu hn hl ht
    subst eu
    exact pCheck A n ws lv hd a c w (sentsV hE) ht hn hl
  set := fun w p F l x hE ⟨b, Z, h, e⟩ ht hn hl => by
    obtain ⟨n, ws, lv, hd, u⟩ := x
    obtain ⟨a, c, eu, -⟩ := ht.shape
    simp only at eu hn hl ht
    subst eu
    refine (pSet A p b F Z n ws lv hd a c w (sentsV hE) h ht hn hl).mono ?_
    rintro en w' ⟨rfl, o, b', F', Z', h', e', hF⟩
    have hp := vb_put Z ⟨n, ws, lv, hd, .slice a ws.length c⟩
    subst e
    rw [hp]
    exact ⟨rfl, o, F', ⟨b', Z', h', e'⟩, hF⟩
  unset := fun w p F l s _ ⟨b, Z, h, e⟩ hs => (pUnset p b F Z s w h hs).mono (by
    rintro en w' ⟨rfl, o, h'⟩
    subst e
    refine ⟨?_, o, _, ⟨b, _, h', ?_⟩, ?_⟩
    · rw [vb_find, Option.isSome_map]; rfl
    · exact (vb_filterN Z fun t => !decide (t = s)).symm
    · rintro k (hk | hk)
      · exact .inl hk
      · exact .inr hk.1)
  find := fun w p F l s _ ⟨b, Z, h, e⟩ hs => (pFind p b F Z s w h hs).mono (by
    rintro en w' ⟨a, c, rfl, ht, g⟩
    subst e
    refine ⟨g, ⟨(gotZ Z s).n, (gotZ Z s).ws, (gotZ Z s).lv, (gotZ Z s).hd, .slice a (gotZ Z s).ws.length c⟩, ?_, ht.1, fun y hy => ?_⟩
    · rw [vb_find, Option.isSome_map]; rfl
    · rw [vb_find] at hy
      unfold gotZ
      cases hf : Z.find? (fun x => decide (x.n = s)) with
      | none => rw [hf] at hy; cases hy
      | some z => rw [hf] at hy; cases hy; rfl)
  get := fun w p F l s _ ⟨b, Z, h, e⟩ hs => (pGet p b F Z s w h hs).mono (by
    rintro en w' ⟨g, u, rfl, ht⟩
    subst e
    refine ⟨g, u, rfl, ?_⟩
    rw [vb_find]
    unfold gotZ at ht
    cases hf : Z.find? (fun x => decide (x.n = s)) with
    | none => rw [hf] at ht; exact ht
    | some z => rw [hf] at ht; exact ht)
  list := fun w p F l _ ⟨b, Z, h, e⟩ => (pList p b F Z w h).mono (by
    rintro en w' ⟨g, v, O, rfl, hr, ho⟩
    exact ⟨g, v, O, rfl, hr.more fun k _ hk => hk, ho.trans e⟩)
  shown := fun w p F l _ ⟨b, Z, h, e⟩ => (pShown p b F Z w h).mono (by
    rintro en w' ⟨g, v, O, rfl, hr, ho⟩
    exact ⟨g, v, O, rfl, hr.more fun k _ hk => hk, by rw [ho, e]⟩)
end Go.Proofs.YtaihpgjimhifcaaDoor

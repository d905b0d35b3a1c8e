/- Walks: effects, one behind the other. -/
import Derived.Test.YtbcemenfklgnkaaGreatDoorEfDo
namespace Go.Proofs.YtbcemenfklgnkaaGreatDoor
open Go.RowKit Go.Maps

/-- how the loop of Apply stands behind k effects -/
def ApE (t : Int) (es : List Ef) (l0 : List Fl) (base w : World) (p b k : Nat) (l : List Fl) (wr : World) : Prop :=
  IsTree wr p b l ∧ (∀ x ∈ l, x.c.size ≤ 900) ∧ base.grownBy wr none ∧ w.grownBy wr (some b) ∧ appE t es 0 l0 = appE t (es.drop k) k l

set_option maxRecDepth 100000 in
set_option maxHeartbeats 4000000 in
theorem eApply (p b : Nat) (l0 : List Fl) (t : Int) (v : Value) (es : List Ef) (A : Nat → Addr) (base w : World) (h : IsTree w p b l0) (hE : EnvE A base) (hR : ERow base v es) (hg : base.grownBy w none) (hb : base.heap.size ≤ b) (hl : ∀ x ∈ l0, x.c.size ≤ 900) :
    Calls Tryz.prog 12 #[.pointer (some ⟨p, 0, none⟩), .int .i64 t, v] w fun e w' =>
      e = .returned (.tuple #[.int .i64 ((appE t es 0 l0).1 : Nat), errV A (appE t es 0 l0).2.1]) ∧ IsTree w' p b (appE t es 0 l0).2.2 ∧ w.grownBy w' (some b) := by
  have HE := Lib.hid hE; have HR := Lib.hid hR; have HB := Lib.hid hb
  have ST := Lib.hid (show ApE t es l0 base w p b 0 l0 w from ⟨h, hl, hg, World.grownBy.refl _ _, rfl⟩)
  have hln := hR.len
  obtain ⟨a, c, rfl⟩ := hR.slice
  clear h hE hR hg hb hl
  go_enter Tryz.func12, Tryz.ntmps12
  go_wp2
  go_loopw [8, 9, 10, 13] (fun _ _ _ i wr => ∃ k : Nat, k ≤ es.length ∧ i = .int .i64 k ∧ ∃ l, Hid (ApE t es l0 base w p b k l wr)) (fun _ _ _ i _ => es.length - (intOf i).toNat)
  case atStart => exact ⟨0, Nat.zero_le _, rfl, l0, ST⟩
  case round =>
    obtain ⟨k, hk, rfl, l, hst⟩ := hrel
    by_cases hlt : k < es.length
    · obtain ⟨bb, off, c', f, e, hf, sn, sc, hbb, c0, c1, c2⟩ := (HR.out.grown hst.out.2.2.1).at k hlt
      cases e
      have HDO := Lib.hid (fun W (hW : IsTree W p b l) (hE : EnvE A W) => eDo p b l t f A W hW hE sn sc hst.out.2.1)
      have SM2 := Lib.hid (doE_small (t := t) (e := f) hst.out.2.1)
      have HN := Lib.hid (fun h0 => appE_next (t := t) (l := l) hf h0); have HS := Lib.hid (fun h0 => appE_stop (t := t) (l := l) hf h0)
      obtain ⟨fk, fn, fc⟩ := f
      simp only at c0 c1 c2 HDO
      have GX := Lib.hid (World.grownBy_alloc wr (.cells #[.int .i64 fk, .string fn, .string fc] 46) none)
      generalize doE t l ⟨fk, fn, fc⟩ = r at *
      obtain ⟨er, l2⟩ := r
      simp only at *
      clear hf sn sc
      by_cases h0 : er = 0
      · subst h0
        rw [errV_zero] at HDO
        have HE2 := Lib.hid (hst.out.2.2.2.2.trans (HN.out rfl))
        go_wp2_with (go_at_call 30; refine (HDO.out _ (hst.out.1.grown GX.out) (HE.out.grown (hst.out.2.2.1.trans GX.out))).mono ?_; rintro e w2 ⟨rfl, t2, g2⟩; have T2 := Lib.hid t2; have G2 := Lib.hid ((GX.out.but (some b)).trans g2); clear t2 g2)
        go_roundw
        case rel => exact ⟨k + 1, by omega, by go_num, l2, Lib.hid ⟨T2.out, SM2.out, grown_none hst.out.2.2.1 G2.out HB.out, hst.out.2.2.2.1.trans G2.out, HE2.out⟩⟩
        case measure => simp [intOf]; omega
      · rw [errV_ne h0] at HDO
        have HE2 := Lib.hid (hst.out.2.2.2.2.trans (HS.out h0))
        go_wp2_with (go_at_call 30; refine (HDO.out _ (hst.out.1.grown GX.out) (HE.out.grown (hst.out.2.2.1.trans GX.out))).mono ?_; rintro e w2 ⟨rfl, t2, g2⟩; have T2 := Lib.hid t2; have G2 := Lib.hid ((GX.out.but (some b)).trans g2); clear t2 g2)
        go_ret2
        rw [HE2.out]
        simp only
        rw [errV_ne h0]
        exact ⟨rfl, T2.out, hst.out.2.2.2.1.trans G2.out⟩
    · obtain rfl : k = es.length := by omega
      have HE2 := Lib.hid (hst.out.2.2.2.2.trans (appE_done (Nat.le_refl _)))
      go_wp2
      go_ret2
      rw [HE2.out]
      exact ⟨rfl, hst.out.1, hst.out.2.2.2.1⟩
end Go.Proofs.YtbcemenfklgnkaaGreatDoor

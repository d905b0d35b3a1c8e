/- What a step does that goes on at one place alone. -/
import Derived.Test.YtlkjejmmoalliaaGreatDoorDenDo
namespace Go.Proofs.YtlkjejmmoalliaaGreatDoor
open Go.RowKit

section
variable {w0 wb w : World} {base P Lb p fr u : Nat} {s : ByteArray} {G : List Pr} {X : List (Value × Option Nat)} {fz : Nat → Prop} {F : List (Nat × Nat)} {st : List Nat} {o : Option Nat} {v : Value}
set_option maxRecDepth 100000 in
set_option maxHeartbeats 8000000 in
theorem doOnly {k : Nat} {t : List Nat} (h : ExW w0 wb base P Lb s G X fz st fr p F w) (hF : F.length ≤ 100000) (hu : G[u]? = some (.only k t)) (hx : X[u]? = some (v, o)) :
    ∃ f c, v = clo f c ∧ Calls Tryz.prog f c w fun e w' => e = .returned (.tuple #[]) ∧ ExW w0 wb base P Lb s G X fz st fr p (ex1 G s p F u) w' := by
  obtain ⟨vh, hs, vn, ns, vl, hS⟩ := h
  obtain ⟨bw, bk, bs, sv, e, h1, hk, h2, h3⟩ := hS.rep u _ _ hu hx
  cases e
  refine ⟨_, _, rfl, ?_⟩
  obtain ⟨sf, sc, rfl⟩ := h3.fn
  have HE : ex1 G s p F u = if p = k then F ++ [(u, p)] else F := by unfold ex1 firB; rw [hu]; simp
  obtain ⟨iu, hiu, hu0, hu1, hu2⟩ := info_parts infoStep
  have IU := Lib.hid hiu; have ZU0 := Lib.hid hu0; have ZU1 := Lib.hid hu1; have ZU2 := Lib.hid hu2
  clear hiu hu0 hu1 hu2
  have z1 := one_cell h1.2
  have z2 := one_cell h2.2
  have zk := one_cell hk.2
  obtain ⟨p0, p1, p2, p3⟩ := four_cells hS.wP
  by_cases hm : p = k
  case neg =>
    have hzp : ((p : Int) == (k : Int)) = false := by simpa using fun e => hm (by omega)
    rw [HE, if_neg hm]
    have HS := Lib.hid hS
    clear hS h1 h2 h3 hm HE hk
    go_enter Tryz.func78, Tryz.ntmps78
    go_upto_region 0 with fail
    go_quiet (fail)
    go_wp2
    go_end0
    exact ⟨rfl, vh, hs, vn, ns, vl, HS.out.grown (grown_drewN (World.grownBy.refl _ _) _)⟩
  case pos =>
    subst hm
    rw [HE, if_pos rfl]
    have HS := Lib.hid hS
    have H3 := Lib.hid h3
    have HB1 := Lib.hid h1.1
    have W1 := Lib.hid h1.2
    have W2 := Lib.hid h2.2
    clear hS h1 h2 h3 HE hk
    go_enter Tryz.func78, Tryz.ntmps78
    go_upto_region 0 with fail
    go_quiet (fail)
    go_upto_region 1 with fail
    generalize hwa : World.drewN w _ = w1
    have ga : w.grownBy w1 none := hwa ▸ grown_drewN (World.grownBy.refl _ _) _
    have HM := Lib.hid (HS.out.grown ga)
    have W1 := Lib.hid (heap_grown ga W1.out)
    have W2 := Lib.hid (heap_grown ga W2.out)
    have H3 := Lib.hid (H3.out.move (w' := w1) (fz' := fz) (fun b hb => ⟨hb, ga.block b (by have := (HS.out.sep b hb).1; have := HS.out.bs; omega) (by simp)⟩))
    clear ga hwa z1 z2 zk p0 p1 p2 p3
    have HOU := Lib.hid (show outV G (F ++ [(u, p)]) = outV G F by unfold outV; rw [outF_snoc, if_neg (by unfold isAdd; rw [hu]; simp), List.append_nil])
    have HBE := Lib.hid (show ∀ (u' : Nat) (t' : List Nat) (z : Int), G[u']? = some (.once t') → Been F u' z → Been (F ++ [(u, p)]) u' z from fun u' t' z h1 h2 => h2.other (fun e => by subst e; rw [hu] at h1; cases h1))
    have HLE := Lib.hid (show ∀ x ∈ F ++ [(u, p)], x.2 ≤ p from fun x hx => by
      rcases List.mem_append.1 hx with hx | hx
      · exact HM.out.le x hx
      · simp at hx; subst hx; exact Nat.le_refl _)
    have z1 := one_cell W1.out
    have z2 := one_cell W2.out
    obtain ⟨va, vc, rfl⟩ := owns_shape HM.out.oH
    obtain ⟨p0, p1, p2, p3⟩ := four_cells HM.out.wP
    have hlen := Lib.hid (show hs.length ≤ 100001 by have h1 := HM.out.lH; have h2 := hrF_len G st fr F p; omega)
    clear hF
    have HA := Lib.hid (fun W (g : w1.grownBy W none) => HM.out.grown g)
    have HK := Lib.hid (fun W (g : w1.grownBy W none) => H3.out.move (w' := W) (fz' := fz) (fun b hb => ⟨hb, g.block b (by have := (HM.out.sep b hb).1; have := HM.out.bs; omega) (by simp)⟩))
    have HT := Lib.hid (fun W (gW : w1.grownBy W none) gg cap w7 hown g hat => (HA.out W gW).pushH (F' := F ++ [(u, p)]) (HK.out W gW) (gg := gg) (cap := cap) (w7 := w7) hown g hat HOU.out HBE.out HLE.out)
    have HPR := Lib.hid (show hrF G st fr (F ++ [(u, p)]) p = hrF G st fr F p ++ [t] ∧ hrF G st fr (F ++ [(u, p)]) (p + 1) = hrF G st fr F (p + 1) by
      rw [hrF_snoc, hrF_snoc, if_pos (by unfold psh; rw [hu]; simp), if_neg (by unfold psh; rw [hu]; simp)]
      exact ⟨by unfold tgtG; rw [hu]; rfl, by simp⟩)
    have nP := Lib.hid (fun e => by have h1 := (HM.out.oH.lt P e).1; have h2 := HM.out.hP.2; omega : (Value.slice va hs.length vc).ownBlock ≠ some P)
    have hln := hlen.out
    have pA := fun ob => (World.grownBy_alloc w1 ob none).cell p2 (by simp)
    have zA := fun ob => (World.grownBy_alloc w1 ob none).cell z1 (by simp)
    have Y1 := Lib.hid (fun (W w7 : World) (gW : w1.grownBy W none) (g : W.grownBy w7 (Value.slice va hs.length vc).ownBlock) => one_cell ((g.block bw (by have := (HM.out.sep bw HB1.out).1; have := HM.out.bs; have := gW.size; omega) (fun e => by have := (HM.out.oH.lt bw e.symm).1; have := (HM.out.sep bw HB1.out).1; omega)).trans (heap_grown gW W1.out)))
    clear hu hx HS HB1
    go_region_law (refine step_append_lies _ (by rfl) _ _ 91 (by rfl) base 94 iu _ 1 8 Tryz.underlying91 IU.out ZU0.out ZU1.out ZU2.out rfl (by decide) (.slice va hs.length vc) hs.length hs (by rfl) (HA.out _ ((grown_drew (World.grownBy.refl _ _)).trans (World.grownBy_alloc _ _ _))).oH ⟨_, 0, none⟩ 1 1 [clo sf sc] (by rfl) rfl (new_step _ _ _ _ (by simp)) (step_one ⟨_, _, rfl⟩) (by decide) (by unfold maxLen; omega) (by omega) (HA.out _ ((grown_drew (World.grownBy.refl _ _)).trans (World.grownBy_alloc _ _ _))).bs _ rfl ?_; intro gg cap w7 hown2 hgrow2 hat hlt2; have P7 := (hgrow2.block P (HA.out _ ((grown_drew (World.grownBy.refl _ _)).trans (World.grownBy_alloc _ _ _))).ltP (fun e => nP.out e.symm)).trans (HA.out _ ((grown_drew (World.grownBy.refl _ _)).trans (World.grownBy_alloc _ _ _))).wP; have f7 := four_free P7 2; obtain ⟨-, -, q7, -⟩ := four_cells P7; have y7 := Y1.out _ w7 ((grown_drew (World.grownBy.refl _ _)).trans (World.grownBy_alloc _ _ _)) hgrow2; have HF := Lib.hid (HT.out _ ((grown_drew (World.grownBy.refl _ _)).trans (World.grownBy_alloc _ _ _)) gg cap w7 hown2 hgrow2 (hat.imp_right (fun e => Nat.le_of_eq e.symm))); clear hown2 hgrow2 hat hlt2 P7)
    all_goals
      go_wp2
      go_end0
      obtain ⟨e1, e2⟩ := HPR.out
      exact ⟨rfl, _, _, _, _, _, by rw [e1, e2]; exact HF.out⟩
end
end Go.Proofs.YtlkjejmmoalliaaGreatDoor

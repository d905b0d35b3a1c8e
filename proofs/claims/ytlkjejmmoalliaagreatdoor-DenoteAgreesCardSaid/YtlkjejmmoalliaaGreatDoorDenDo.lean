/- What a step does, walked: one that is done once at a place; one at a place alone. What the list's own step does: it adds the place. -/
import Derived.Test.YtlkjejmmoalliaaGreatDoorDenSt
import Derived.Deep.RegionLaw
namespace Go.Proofs.YtlkjejmmoalliaaGreatDoor
open Go.RowKit

/-- the walk, by what has been done so far -/
def ExW (w0 wb : World) (base P Lb : Nat) (s : ByteArray) (G : List Pr) (X : List (Value × Option Nat)) (fz : Nat → Prop) (st : List Nat) (fr p : Nat) (F : List (Nat × Nat)) (w : World) : Prop :=
  ∃ vh hs vn ns vl, StW w0 wb base P Lb s G X fz F p vh hs (hrF G st fr F p) vn ns (hrF G st fr F (p + 1)) vl w
theorem psh_no {G : List Pr} {u p q : Nat} (h : p + 1 < q ∨ q < p) : psh G q (u, p) = false := by
  unfold psh; split <;> simp <;> omega
section
variable {w0 wb w : World} {base P Lb p fr u : Nat} {s : ByteArray} {G : List Pr} {X : List (Value × Option Nat)} {fz : Nat → Prop} {F : List (Nat × Nat)} {st : List Nat} {o : Option Nat} {v : Value}
set_option maxRecDepth 100000 in
set_option maxHeartbeats 8000000 in
theorem doOnce {t : List Nat} (h : ExW w0 wb base P Lb s G X fz st fr p F w) (hF : F.length ≤ 100000) (hu : G[u]? = some (.once t)) (hx : X[u]? = some (v, o)) :
    ∃ f c, v = clo f c ∧ Calls Tryz.prog f c w fun e w' => e = .returned (.tuple #[]) ∧ ExW w0 wb base P Lb s G X fz st fr p (ex1 G s p F u) w' := by
  obtain ⟨vh, hs, vn, ns, vl, hS⟩ := h
  obtain ⟨be, bw, bs, sv, e, h1, h2, h3⟩ := hS.rep u _ _ hu hx
  cases e
  refine ⟨_, _, rfl, ?_⟩
  obtain ⟨v', bb, z, e1, hz, hB⟩ := hS.be u t hu
  rw [hx] at e1; cases e1
  have hiff := hB.here hS.le
  obtain ⟨sf, sc, rfl⟩ := h3.fn
  have HE : ex1 G s p F u = if (u, p) ∈ F then F else F ++ [(u, p)] := by unfold ex1 firB; rw [hu]; simp
  obtain ⟨iu, hiu, hu0, hu1, hu2⟩ := info_parts infoStep
  have IU := Lib.hid hiu; have ZU0 := Lib.hid hu0; have ZU1 := Lib.hid hu1; have ZU2 := Lib.hid hu2
  clear hiu hu0 hu1 hu2
  have z0 := one_cell hz
  have z1 := one_cell h1.2
  have z2 := one_cell h2.2
  obtain ⟨p0, p1, p2, p3⟩ := four_cells hS.wP
  have f0 := four_free hz 0
  by_cases hm : (u, p) ∈ F
  · have hzp : z = p := hiff.2 hm
    subst hzp
    rw [HE, if_pos hm]
    have HS := Lib.hid hS
    clear hS h1 h2 h3 hiff hm HE hz hB
    go_enter Tryz.func88, Tryz.ntmps88
    go_upto_region 0 with fail
    go_quiet (fail)
    go_wp2
    go_end0
    exact ⟨rfl, vh, hs, vn, ns, vl, HS.out.grown (grown_drewN (World.grownBy.refl _ _) _)⟩
  · have hzp : (z == (p : Int)) = false := by simpa using fun e => hm (hiff.1 e)
    have hzq : (z != (p : Int)) = true := by simpa using fun e => hm (hiff.1 e)
    rw [HE, if_neg hm]
    have HS := Lib.hid hS
    have H3 := Lib.hid h3
    have HS0 := Lib.hid hS
    have HZ0 := Lib.hid hz
    have HB1 := Lib.hid h1.1
    have HB2 := Lib.hid h2.1
    have W1 := Lib.hid h1
    have W2 := Lib.hid h2
    clear hS h1 h2 h3 hiff hm HE hz hB
    go_enter Tryz.func88, Tryz.ntmps88
    go_upto_region 0 with fail
    go_quiet (fail)
    go_upto_region 1 with fail
    generalize hwa : World.drewN w _ = wa
    have ga : w.grownBy wa none := hwa ▸ grown_drewN (World.grownBy.refl _ _) _
    have HZ := Lib.hid (heap_grown ga HZ0.out)
    have W1 := Lib.hid (heap_grown ga W1.out.2)
    have W2 := Lib.hid (heap_grown ga W2.out.2)
    have HS := Lib.hid (HS.out.grown ga)
    have H3 := Lib.hid (H3.out.move (w' := wa) (fz' := fz) (fun b hb => ⟨hb, ga.block b (by have := (HS0.out.sep b hb).1; have := HS0.out.bs; omega) (by simp)⟩))
    clear ga hwa z0 z1 z2 p0 p1 p2 p3 f0
    have z0 := one_cell HZ.out
    have z1 := one_cell W1.out
    obtain ⟨p0, p1, p2, p3⟩ := four_cells HS.out.wP
    have f0 := four_free HZ.out 0
    go_upto_region 2 with fail
    clear z0 z1 p0 p1 p2 p3 f0
    have HM := Lib.hid (HS.out.mark hu hx)
    have hne : ∀ b, fz b → b ≠ be := fun b hb e => (HS.out.sep b hb).2.2.2 u (clo 88 #[ptrV be, ptrV bw, ptrV bs]) (by rw [e]; exact hx)
    obtain ⟨w1, hw1⟩ : ∃ w1, w1 = wa.setCell ⟨be, 0, none⟩ (.int .i64 p) := ⟨_, rfl⟩
    have hk : ∀ b, fz b → w1.heap[b]? = wa.heap[b]? := fun b hb => by rw [hw1]; exact heap_setCell_other wa ⟨be, 0, none⟩ b _ (hne b hb)
    rw [← hw1] at HM ⊢
    have W1 := Lib.hid ((hk bw HB1.out).trans W1.out)
    have W2 := Lib.hid ((hk bs HB2.out).trans W2.out)
    have H3 := Lib.hid (H3.out.move (w' := w1) (fz' := fz) (fun b hb => ⟨hb, hk b hb⟩))
    clear hne hk hw1
    have z1 := one_cell W1.out
    have z2 := one_cell W2.out
    obtain ⟨va, vc, rfl⟩ := owns_shape HM.out.oH
    obtain ⟨p0, p1, p2, p3⟩ := four_cells HM.out.wP
    have hlen := Lib.hid (show hs.length ≤ 100001 by have h1 := HM.out.lH; have h2 := hrF_len G st fr F p; omega)
    clear hF
    have HA := Lib.hid (fun W (g : w1.grownBy W none) => HM.out.grown g)
    have HK := Lib.hid (fun W (g : w1.grownBy W none) => H3.out.move (w' := W) (fz' := fz) (fun b hb => ⟨hb, g.block b (by have := (HM.out.sep b hb).1; have := HM.out.bs; omega) (by simp)⟩))
    have HT := Lib.hid (fun W (gW : w1.grownBy W none) gg cap w7 hown g hat => (HA.out W gW).pushH (F' := F ++ [(u, p)]) (HK.out W gW) (gg := gg) (cap := cap) (w7 := w7) hown g hat rfl (fun _ _ _ _ h => h) HM.out.le)
    have HPR := Lib.hid (show hrF G st fr (F ++ [(u, p)]) p = hrF G st fr F p ++ [t] ∧ hrF G st fr (F ++ [(u, p)]) (p + 1) = hrF G st fr F (p + 1) by
      rw [hrF_snoc, hrF_snoc, if_pos (by unfold psh; rw [hu]; simp), if_neg (by unfold psh; rw [hu]; simp)]
      exact ⟨by unfold tgtG; rw [hu]; rfl, by simp⟩)
    have nP := Lib.hid (fun e => by have h1 := (HM.out.oH.lt P e).1; have h2 := HM.out.hP.2; omega : (Value.slice va hs.length vc).ownBlock ≠ some P)
    have hln := hlen.out
    have pA := fun ob => (World.grownBy_alloc w1 ob none).cell p2 (by simp)
    have zA := fun ob => (World.grownBy_alloc w1 ob none).cell z1 (by simp)
    have Y1 := Lib.hid (fun (W w7 : World) (gW : w1.grownBy W none) (g : W.grownBy w7 (Value.slice va hs.length vc).ownBlock) => one_cell ((g.block bw (by have := (HM.out.sep bw HB1.out).1; have := HM.out.bs; have := gW.size; omega) (fun e => by have := (HM.out.oH.lt bw e.symm).1; have := (HM.out.sep bw HB1.out).1; omega)).trans (heap_grown gW W1.out)))
    clear hu hx HS HS0 HZ HZ0 HB1 HB2 hzp hzq
    go_region_law (refine step_append_lies _ (by rfl) _ _ 91 (by rfl) base 94 iu _ 1 8 Tryz.underlying91 IU.out ZU0.out ZU1.out ZU2.out rfl (by decide) (.slice va hs.length vc) hs.length hs (by rfl) (HA.out _ ((grown_drew (World.grownBy.refl _ _)).trans (World.grownBy_alloc _ _ _))).oH ⟨_, 0, none⟩ 1 1 [clo sf sc] (by rfl) rfl (new_step _ _ _ _ (by simp)) (step_one ⟨_, _, rfl⟩) (by decide) (by unfold maxLen; omega) (by omega) (HA.out _ ((grown_drew (World.grownBy.refl _ _)).trans (World.grownBy_alloc _ _ _))).bs _ rfl ?_; intro gg cap w7 hown2 hgrow2 hat hlt2; have P7 := (hgrow2.block P (HA.out _ ((grown_drew (World.grownBy.refl _ _)).trans (World.grownBy_alloc _ _ _))).ltP (fun e => nP.out e.symm)).trans (HA.out _ ((grown_drew (World.grownBy.refl _ _)).trans (World.grownBy_alloc _ _ _))).wP; have f7 := four_free P7 2; obtain ⟨-, -, q7, -⟩ := four_cells P7; have y7 := Y1.out _ w7 ((grown_drew (World.grownBy.refl _ _)).trans (World.grownBy_alloc _ _ _)) hgrow2; have HF := Lib.hid (HT.out _ ((grown_drew (World.grownBy.refl _ _)).trans (World.grownBy_alloc _ _ _)) gg cap w7 hown2 hgrow2 (hat.imp_right (fun e => Nat.le_of_eq e.symm))); clear hown2 hgrow2 hat hlt2 P7)
    all_goals
      go_wp2
      go_end0
      obtain ⟨e1, e2⟩ := HPR.out
      exact ⟨rfl, _, _, _, _, _, by rw [e1, e2]; exact HF.out⟩
end
end Go.Proofs.YtlkjejmmoalliaaGreatDoor

namespace Go.Proofs.YtlkjejmmoalliaaGreatDoor
open Go.RowKit

theorem infoI10 : (Tryz.prog.info? 3).map (fun i => (i.zero, i.size, i.bytes)) = some (some (.int .i64 0), 1, 8) := by kernel_rfl
theorem int_one (k : Int) : ∀ u ∈ ([.int .i64 k] : List Value), u.oneCell' = true := by intro u hu; simp at hu; subst hu; rfl
section
variable {w0 wb w : World} {base P Lb p fr : Nat} {s : ByteArray} {G : List Pr} {X : List (Value × Option Nat)} {fz : Nat → Prop} {F : List (Nat × Nat)} {st : List Nat} {o : Option Nat} {v : Value}
set_option maxRecDepth 100000 in
set_option maxHeartbeats 8000000 in
theorem doAdd (h : ExW w0 wb base P Lb s G X fz st fr p F w) (hF : F.length ≤ 100000) (hu : G[0]? = some .add) (hx : X[0]? = some (v, o)) :
    ∃ f c, v = clo f c ∧ Calls Tryz.prog f c w fun e w' => e = .returned (.tuple #[]) ∧ ExW w0 wb base P Lb s G X fz st fr p (ex1 G s p F 0) w' := by
  obtain ⟨vh, hs, vn, ns, vl, hS⟩ := h
  obtain ⟨bw, e, h1⟩ := hS.ad
  rw [hx] at e
  cases e
  refine ⟨_, _, rfl, ?_⟩
  have HE : ex1 G s p F 0 = F ++ [(0, p)] := by unfold ex1 firB; rw [hu]; simp
  rw [HE]
  obtain ⟨iu, hiu, hu0, hu1, hu2⟩ := info_parts infoI10
  have IU := Lib.hid hiu; have ZU0 := Lib.hid hu0; have ZU1 := Lib.hid hu1; have ZU2 := Lib.hid hu2
  clear hiu hu0 hu1 hu2 HE
  have HM := Lib.hid hS
  have HB1 := Lib.hid h1.1
  have W1 := Lib.hid h1.2
  clear hS h1
  go_enter Tryz.func43, Tryz.ntmps43
  have z1 := one_cell W1.out
  have zl := one_cell HM.out.wL
  obtain ⟨va, vc, rfl⟩ := owns_shape HM.out.oL
  obtain ⟨p0, p1, p2, p3⟩ := four_cells HM.out.wP
  have hlen := Lib.hid (show (outV G F).length ≤ 100001 by unfold outV; rw [List.length_map]; have := outF_len G F; omega)
  clear hF
  have HA := Lib.hid (fun W (g : w.grownBy W none) => HM.out.grown g)
  have HT := Lib.hid (fun W (gW : w.grownBy W none) gg cap w7 hown g hat => (HA.out W gW).pushL (gg := gg) (cap := cap) (w7 := w7) hown g hat hu)
  have HPR := Lib.hid (show hrF G st fr (F ++ [(0, p)]) p = hrF G st fr F p ∧ hrF G st fr (F ++ [(0, p)]) (p + 1) = hrF G st fr F (p + 1) by
    rw [hrF_snoc, hrF_snoc, if_neg (by unfold psh; rw [hu]; simp), if_neg (by unfold psh; rw [hu]; simp)]; simp)
  have nP := Lib.hid (fun e => by have h1 := (HM.out.oL.lt Lb e).1; have h2 := HM.out.hL.2; omega : (Value.slice va (outV G F).length vc).ownBlock ≠ some Lb)
  have hln := hlen.out
  have pA := fun ob => (World.grownBy_alloc w ob none).cell p1 (by simp)
  have zA := fun ob => (World.grownBy_alloc w ob none).cell zl (by simp)
  have zB := fun ob => (World.grownBy_alloc w ob none).cell z1 (by simp)
  clear hu hx HB1
  have HOL := Lib.hid (fun W (g : w.grownBy W none) => (HA.out W g).oL)
  generalize outV G F = ov at *
  go_region_law (refine step_append_lies _ (by rfl) _ _ 37 (by rfl) base 3 iu _ 1 8 Tryz.underlying37 IU.out ZU0.out ZU1.out ZU2.out rfl (by decide) (.slice va ov.length vc) ov.length ov (by rfl) (HOL.out _ ((grown_drew (World.grownBy.refl _ _)).trans (World.grownBy_alloc _ _ _))) ⟨_, 0, none⟩ 1 1 [.int .i64 p] (by rfl) rfl (new_step _ _ _ _ (by simp)) (int_one _) (by decide) (by unfold maxLen; omega) (by omega) (HA.out _ ((grown_drew (World.grownBy.refl _ _)).trans (World.grownBy_alloc _ _ _))).bs _ rfl ?_; intro gg cap w7 hown2 hgrow2 hat hlt2; have L7 := (hgrow2.block Lb (HA.out _ ((grown_drew (World.grownBy.refl _ _)).trans (World.grownBy_alloc _ _ _))).ltL (fun e => nP.out e.symm)).trans (HA.out _ ((grown_drew (World.grownBy.refl _ _)).trans (World.grownBy_alloc _ _ _))).wL; have f7 := four_free L7 0; have q7 := one_cell L7; have HF := Lib.hid (HT.out _ ((grown_drew (World.grownBy.refl _ _)).trans (World.grownBy_alloc _ _ _)) gg cap w7 hown2 hgrow2 (hat.imp_right (fun e => Nat.le_of_eq e.symm))); clear hown2 hgrow2 hat hlt2 L7)
  all_goals
    go_wp2
    go_end0
    obtain ⟨e1, e2⟩ := HPR.out
    exact ⟨rfl, _, _, _, _, _, by rw [e1, e2]; exact HF.out⟩
end
end Go.Proofs.YtlkjejmmoalliaaGreatDoor

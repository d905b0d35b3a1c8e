/- What a step does that goes over a byte. -/
import Derived.Test.YtlkjejmmoalliaaGreatDoorDenDo
import Derived.Test.YtlkjejmmoalliaaGreatDoorClsE
import Derived.Test.YtlkjejmmoalliaaGreatDoorClsBase
namespace Go.Proofs.YtlkjejmmoalliaaGreatDoor
open Go.RowKit

section
variable {w0 wb w : World} {base P Lb p fr u : Nat} {s : ByteArray} {G : List Pr} {X : List (Value × Option Nat)} {fz : Nat → Prop} {F : List (Nat × Nat)} {st : List Nat} {o : Option Nat} {v : Value}
set_option maxRecDepth 100000 in
set_option maxHeartbeats 8000000 in
theorem doOver {c : BitVec 256} {t : List Nat} (h : ExW w0 wb base P Lb s G X fz st fr p F w) (hF : F.length ≤ 100000) (hu : G[u]? = some (.over c t)) (hx : X[u]? = some (v, o)) :
    ∃ f c, v = clo f c ∧ Calls Tryz.prog f c w fun e w' => e = .returned (.tuple #[]) ∧ ExW w0 wb base P Lb s G X fz st fr p (ex1 G s p F u) w' := by
  obtain ⟨vh, hs, vn, ns, vl, hS⟩ := h
  obtain ⟨bw, bk, bs, sv, e, h1, hk, h2, h3⟩ := hS.rep u _ _ hu hx
  cases e
  refine ⟨_, _, rfl, ?_⟩
  obtain ⟨sf, sc, rfl⟩ := h3.fn
  have HE : ex1 G s p F u = if byt9 s p c = true then F ++ [(u, p)] else F := by unfold ex1 firB; rw [hu]
  obtain ⟨iu, hiu, hu0, hu1, hu2⟩ := info_parts infoStep
  have IU := Lib.hid hiu; have ZU0 := Lib.hid hu0; have ZU1 := Lib.hid hu1; have ZU2 := Lib.hid hu2
  clear hiu hu0 hu1 hu2
  have z1 : ∀ u : Gr w, u.W.cell? ⟨bw, 0, none⟩ = some (ptrV P) := fun u => u.g.cell (one_cell h1.2) (by simp)
  obtain ⟨k0, k1, k2, k3⟩ := four_cells (show w.heap[bk]? = some (.cells #[.int .u64 (wd c 0), .int .u64 (wd c 1), .int .u64 (wd c 2), .int .u64 (wd c 3)] 25 (0, 0)) from hk.2)
  have u0 : ∀ u : Gr w, u.W.cell? ⟨bk, 0, none⟩ = _ := fun u => u.g.cell k0 (by simp)
  have u1 : ∀ u : Gr w, u.W.cell? ⟨bk, 1, none⟩ = _ := fun u => u.g.cell k1 (by simp)
  have u2 : ∀ u : Gr w, u.W.cell? ⟨bk, 2, none⟩ = _ := fun u => u.g.cell k2 (by simp)
  have u3 : ∀ u : Gr w, u.W.cell? ⟨bk, 3, none⟩ = _ := fun u => u.g.cell k3 (by simp)
  obtain ⟨p0, p1, p2, p3⟩ := four_cells hS.wP
  have v0 : ∀ u : Gr w, u.W.cell? ⟨P, 0, none⟩ = _ := fun u => u.g.cell p0 (by simp)
  have v1 : ∀ u : Gr w, u.W.cell? ⟨P, 1, none⟩ = _ := fun u => u.g.cell p1 (by simp)
  have inst : Nonempty (Gr w) := ⟨⟨w, World.grownBy.refl _ _⟩⟩
  have HS := Lib.hid hS
  have H3 := Lib.hid h3
  have HB1 := Lib.hid h1.1
  have W1 := Lib.hid h1.2
  have W2 := Lib.hid h2.2
  clear hS h1 h2 h3 hk k0 k1 k2 k3 p0 p1 p2 p3
  by_cases hlt : p < s.size
  case neg =>
    rw [HE, if_neg (by unfold byt9; rw [dif_neg hlt]; simp)]
    clear HE
    go_enter Tryz.func73, Tryz.ntmps73
    go_upto_region 0 with fail
    refine wp_region_grows (by kernel_rfl) (by kernel_rfl) ?_
    repeat (go_big_quiet_step (fail))
    refine wpQuiet_nil ?_
    rintro w9 ⟨⟨_, g9⟩, rfl⟩
    go_wp2
    go_end0
    exact ⟨rfl, vh, hs, vn, ns, vl, HS.out.grown g9⟩
  case pos =>
    have h256 : (s[p]).toNat < 256 := UInt8.toNat_lt _
    have CH := Lib.hid (fun u : Gr w => cHas c (s[p]).toNat u.W h256)
    have HBY : byt9 s p c = inn c (s[p]).toNat := by unfold byt9; rw [dif_pos hlt]
    rw [HE, HBY]
    unfold setV at CH
    generalize hq : inn c (s[p]).toNat = q at CH ⊢
    clear HE hq HBY
    cases q
    · rw [if_neg (by simp)]
      go_enter Tryz.func73, Tryz.ntmps73
      go_upto_region 0 with fail
      refine wp_region_grows (by kernel_rfl) (by kernel_rfl) ?_
      repeat (go_big_quiet_step (first | (go_at_call 40; refine (CH.out _).mono ?_; rintro e w9 ⟨he, g9⟩; exact ⟨he, ⟨_, (Gr.g _).trans g9⟩, rfl⟩)))
      refine wpQuiet_nil ?_
      rintro w9 ⟨⟨_, g9⟩, rfl⟩
      go_wp2
      go_end0
      exact ⟨rfl, vh, hs, vn, ns, vl, HS.out.grown g9⟩
    · rw [if_pos rfl]
      go_enter Tryz.func73, Tryz.ntmps73
      go_upto_region 0 with fail
      refine wp_region_grows (by kernel_rfl) (by kernel_rfl) ?_
      repeat (go_big_quiet_step (first | (go_at_call 40; refine (CH.out _).mono ?_; rintro e w9 ⟨he, g9⟩; exact ⟨he, ⟨_, (Gr.g _).trans g9⟩, rfl⟩)))
      refine wpQuiet_nil ?_
      rintro w1 ⟨⟨_, ga⟩, rfl⟩
      have HM := Lib.hid (HS.out.grown ga)
      have W1 := Lib.hid (heap_grown ga W1.out)
      have W2 := Lib.hid (heap_grown ga W2.out)
      have H3 := Lib.hid (H3.out.move (w' := w1) (fz' := fz) (fun b hb => ⟨hb, ga.block b (by have := (HS.out.sep b hb).1; have := HS.out.bs; omega) (by simp)⟩))
      clear ga z1 u0 u1 u2 u3 v0 v1 inst CH h256
      go_upto_region 1 with fail
      have HOU := Lib.hid (show outV G (F ++ [(u, p)]) = outV G F by unfold outV; rw [outF_snoc, if_neg (by unfold isAdd; rw [hu]; simp), List.append_nil])
      have HBE := Lib.hid (show ∀ (u' : Nat) (t' : List Nat) (z : Int), G[u']? = some (.once t') → Been F u' z → Been (F ++ [(u, p)]) u' z from fun u' t' z h1 h2 => h2.other (fun e => by subst e; rw [hu] at h1; cases h1))
      have HLE := Lib.hid (show ∀ x ∈ F ++ [(u, p)], x.2 ≤ p from fun x hx => by
        rcases List.mem_append.1 hx with hx | hx
        · exact HM.out.le x hx
        · simp at hx; subst hx; exact Nat.le_refl _)
      have z1 := one_cell W1.out
      have z2 := one_cell W2.out
      obtain ⟨va, vc, rfl⟩ := owns_shape HM.out.oN
      obtain ⟨p0, p1, p2, p3⟩ := four_cells HM.out.wP
      have hlen := Lib.hid (show ns.length ≤ 100001 by have h1 := HM.out.lN; have h2 := hrF_len G st fr F (p + 1); omega)
      clear hF
      have HA := Lib.hid (fun W (g : w1.grownBy W none) => HM.out.grown g)
      have HK := Lib.hid (fun W (g : w1.grownBy W none) => H3.out.move (w' := W) (fz' := fz) (fun b hb => ⟨hb, g.block b (by have := (HM.out.sep b hb).1; have := HM.out.bs; omega) (by simp)⟩))
      have HT := Lib.hid (fun W (gW : w1.grownBy W none) gg cap w7 hown g hat => (HA.out W gW).pushN (F' := F ++ [(u, p)]) (HK.out W gW) (gg := gg) (cap := cap) (w7 := w7) hown g hat HOU.out HBE.out HLE.out)
      have HPR := Lib.hid (show hrF G st fr (F ++ [(u, p)]) p = hrF G st fr F p ∧ hrF G st fr (F ++ [(u, p)]) (p + 1) = hrF G st fr F (p + 1) ++ [t] by
        rw [hrF_snoc, hrF_snoc, if_neg (by unfold psh; rw [hu]; simp), if_pos (by unfold psh; rw [hu]; simp)]
        exact ⟨by simp, by unfold tgtG; rw [hu]; rfl⟩)
      have nP := Lib.hid (fun e => by have h1 := (HM.out.oN.lt P e).1; have h2 := HM.out.hP.2; omega : (Value.slice va ns.length vc).ownBlock ≠ some P)
      have hln := hlen.out
      have pA := fun ob => (World.grownBy_alloc w1 ob none).cell p3 (by simp)
      have zA := fun ob => (World.grownBy_alloc w1 ob none).cell z1 (by simp)
      have Y1 := Lib.hid (fun (W w7 : World) (gW : w1.grownBy W none) (g : W.grownBy w7 (Value.slice va ns.length vc).ownBlock) => one_cell ((g.block bw (by have := (HM.out.sep bw HB1.out).1; have := HM.out.bs; have := gW.size; omega) (fun e => by have := (HM.out.oN.lt bw e.symm).1; have := (HM.out.sep bw HB1.out).1; omega)).trans (heap_grown gW W1.out)))
      clear hu hx HS HB1
      go_region_law (refine step_append_lies _ (by rfl) _ _ 91 (by rfl) base 94 iu _ 1 8 Tryz.underlying91 IU.out ZU0.out ZU1.out ZU2.out rfl (by decide) (.slice va ns.length vc) ns.length ns (by rfl) (HA.out _ ((grown_drew (World.grownBy.refl _ _)).trans (World.grownBy_alloc _ _ _))).oN ⟨_, 0, none⟩ 1 1 [clo sf sc] (by rfl) rfl (new_step _ _ _ _ (by simp)) (step_one ⟨_, _, rfl⟩) (by decide) (by unfold maxLen; omega) (by omega) (HA.out _ ((grown_drew (World.grownBy.refl _ _)).trans (World.grownBy_alloc _ _ _))).bs _ rfl ?_; intro gg cap w7 hown2 hgrow2 hat hlt2; have P7 := (hgrow2.block P (HA.out _ ((grown_drew (World.grownBy.refl _ _)).trans (World.grownBy_alloc _ _ _))).ltP (fun e => nP.out e.symm)).trans (HA.out _ ((grown_drew (World.grownBy.refl _ _)).trans (World.grownBy_alloc _ _ _))).wP; have f7 := four_free P7 3; obtain ⟨-, -, -, q7⟩ := four_cells P7; have y7 := Y1.out _ w7 ((grown_drew (World.grownBy.refl _ _)).trans (World.grownBy_alloc _ _ _)) hgrow2; have HF := Lib.hid (HT.out _ ((grown_drew (World.grownBy.refl _ _)).trans (World.grownBy_alloc _ _ _)) gg cap w7 hown2 hgrow2 (hat.imp_right (fun e => Nat.le_of_eq e.symm))); clear hown2 hgrow2 hat hlt2 P7)
      all_goals
        go_wp2
        go_end0
        obtain ⟨e1, e2⟩ := HPR.out
        exact ⟨rfl, _, _, _, _, _, by rw [e1, e2]; exact HF.out⟩
end
end Go.Proofs.YtlkjejmmoalliaaGreatDoor

/- What comes of every tree by all effects, how many are done, and the first error. No condition on the files, on the tick or on the effects. -/
import Derived.Test.YtbcemenfklgnkaaGreatDoorEfApply
import Derived.Test.YtbcemenfklgnkaaGreatDoorEfLaw
import Derived.Test.YtbcemenfklgnkaaGreatDoorEfOf
import Derived.Test.YtbcemenfklgnkaaGreatDoorEfPlainB
import Derived.Test.YtbcemenfklgnkaaGreatDoorShows
namespace Go.Proofs.YtbcemenfklgnkaaGreatDoor
open Go.RowKit Go.Maps
/-- the files of a tree that Of made are small -/
theorem ofG_small : ∀ (l ts : List Fl), (∀ f ∈ ts, f.c.size ≤ 900) → ∀ f ∈ (ofG l ts).2, f.c.size ≤ 900
  | [], ts, h => by unfold ofG; exact h
  | x :: r, ts, h => by
    unfold ofG
    split
    · exact h
    · split
      · rename_i _ h0
        refine ofG_small r _ (fun f hf => ?_)
        rcases insL_mem.1 hf with rfl | hf
        · exact putE_small h0
        · exact h f (List.mem_filter.1 hf).1
      · exact h
end Go.Proofs.YtbcemenfklgnkaaGreatDoor
namespace Go.Proofs.YtbcemenfklgnkaaGreatDoor.effectApplies
open Go.RowKit Go.Maps

set_option maxRecDepth 100000 in
set_option maxHeartbeats 8000000 in
theorem walk (v vE : Value) (l : List Fl) (es : List Ef) (t : Int) (A : Nat → Addr) (w : World) (h : FRow w v l) (hR : ERow w vE es) (hE : EnvE A w) (hN : ErrEnv A w) :
    Calls Tryz.prog 3 #[v, .int .i64 t, vE] w fun e w' => e = .returned (.bool true) ∧ w.grownBy w' none := by
  have HR := Lib.hid h; have HE := Lib.hid hE; have HN := Lib.hid hN; have ER := Lib.hid hR
  obtain ⟨ea, ec, rfl⟩ := hR.slice
  clear h hE hN hR
  go_enter Tryz.func3, Tryz.ntmps3
  go_wp2_with fail
  refine (lAliveE A _ HE.out).mono ?_
  rintro e w1 ⟨rfl, g1⟩
  have G1 := Lib.hid g1
  clear g1
  go_wp2_with fail
  refine (lLongF v l 40 _ (HR.out.later (below_of_grown G1.out))).mono ?_
  rintro e w2 ⟨rfl, b2⟩
  have G2 := Lib.hid (G1.out.trans (grown_of_below b2))
  clear b2 G1
  cases hL : longF 40 l
  case true =>
    go_wp2
    go_ret
    exact ⟨rfl, G2.out⟩
  have LEN := Lib.hid (show l.length ≤ 60 by have := longF_len hL; omega)
  clear hL
  go_wp2_with fail
  refine (lLongE _ es 40 _ (ER.out.grown G2.out)).mono ?_
  rintro e w2b ⟨rfl, g2b⟩
  have G2 := Lib.hid (G2.out.trans g2b)
  clear g2b
  cases hL : longE 40 es
  case true =>
    go_wp2
    go_ret
    exact ⟨rfl, G2.out⟩
  have ELEN := Lib.hid (show es.length ≤ 60 by have := (longE_len hL).1; omega)
  clear hL
  go_wp2_with fail
  refine (tOf v l A _ (HR.out.later (below_of_grown G2.out)) (HE.out.grown G2.out).env.five).mono ?_
  intro e w3 hof
  rcases hof with ⟨k, hk, -, rfl, g3⟩ | ⟨h0, rfl, t3, g3⟩
  · have G3 := Lib.hid (G2.out.trans g3)
    clear g3 hk G2
    go_wp2
    go_ret
    exact ⟨rfl, G3.out⟩
  have G3 := Lib.hid (G2.out.trans g3)
  have lb := G2.out.size
  generalize hp : w2b.heap.size + 1 = p at t3 ⊢
  generalize hb : w2b.heap.size = b at t3 lb
  have T3 := Lib.hid t3
  have LB := Lib.hid lb
  clear t3 g3 G2 lb hp hb
  go_wp2_with fail
  refine (lOfFn v l _ (HR.out.later (below_of_grown G3.out)) LEN.out).mono ?_
  rintro e w4 ⟨ra, rc, rfl, f4, g4⟩
  have F4 := Lib.hid f4; have T4 := Lib.hid (T3.out.grown g4); have G4 := Lib.hid (G3.out.trans g4)
  clear f4 g4 G3 T3
  go_wp2_with fail
  refine (rOf _ l _ F4.out).mono ?_
  intro e w5 hrf
  rcases hrf with ⟨k, hk, h1, -⟩ | ⟨q, -, rfl, r5, g5, hq, hri⟩
  · exact absurd (h1.symm.trans h0) hk
  have SM := Lib.hid (ofG_small l [] (by simp))
  have RI := Lib.hid hri
  have lt4 := T4.out.lt
  have T5 := Lib.hid (T4.out.grown g5); have G5 := Lib.hid (G4.out.trans g5)
  have PQ := Lib.hid (show p ≠ q by omega); have BQ := Lib.hid (show b ≠ q by omega)
  have LQ := Lib.hid (show w.heap.size ≤ q by have := G4.out.size; omega)
  generalize (ofG l []).2 = ts at T4 T5 r5 SM RI
  have R5 := Lib.hid r5
  clear r5 g5 hq hri h0 lt4 F4 T4 G4 LEN HR
  have HAP := Lib.hid (fun (W : World) (hW : IsTree W p b ts) (hg : w.grownBy W none) => eApply p b ts t _ es A w W hW HE.out ER.out hg LB.out SM.out)
  have HRA := Lib.hid (fun (v' : Value) (W : World) (hW : RTree W q ts) (hR : ERow W v' es) (ho : Off q v') => rApply q ts t v' es W hW hR ho SM.out RI.out)
  have LE := Lib.hid (appE_le t es 0 ts)
  generalize appE t es 0 ts = r at *
  obtain ⟨n, k, t2⟩ := r
  simp only at HAP HRA LE
  go_wp2_with fail
  refine (HAP.out _ T5.out G5.out).mono ?_
  rintro e w6 ⟨rfl, t6, g6⟩
  have T6 := Lib.hid t6; have G6 := Lib.hid (grown_none G5.out g6 LB.out); have R6 := Lib.hid (R5.out.kept_map g6 T5.out.2.1)
  clear t6 g6 HAP R5 T5 G5
  go_wp2_with fail
  refine (lOfE _ es _ (ER.out.grown G6.out) ELEN.out).mono ?_
  rintro e w7 ⟨v7, rfl, e7, o7, g7⟩
  have T7 := Lib.hid (T6.out.grown g7); have G7 := Lib.hid (G6.out.trans g7); have R7 := Lib.hid (R6.out.grown g7); have E7 := Lib.hid e7
  have O7 := Lib.hid (show Off q v7 from fun b off n c e h => by have h1 := o7 b off n c e; have h2 := R6.out.lt; omega)
  clear g7 e7 o7 R6 T6 G6
  go_wp2_with fail
  refine (HRA.out _ _ R7.out E7.out O7.out).mono ?_
  rintro e w8 ⟨rfl, r8, g8⟩
  have R8 := Lib.hid r8; have G8 := Lib.hid (grown_none G7.out g8 LQ.out); have T8 := Lib.hid (T7.out.kept g8 (fun e => PQ.out (Option.some.inj e)) (fun e => BQ.out (Option.some.inj e)))
  clear r8 g8 HRA R7 T7 G7 E7 O7 PQ BQ LQ LB
  go_wp2_with (first
    | (go_at_call 15; refine (lNumV A k LE.out _ (HN.out.later (below_of_grown G8.out))).mono ?_; rintro e w9 ⟨rfl, g9⟩; have T9 := Lib.hid (T8.out.grown g9); have G9 := Lib.hid (G8.out.trans g9); have R9 := Lib.hid (R8.out.grown g9); clear g9)
    | (go_at_call 16; refine (lShows p b q t2 _ T9.out R9.out).mono ?_; rintro e w10 ⟨rfl, g10⟩; have G10 := Lib.hid (G9.out.trans g10); clear g10))
  clear T8 R8 T9 R9 G8 G9 SM RI LE
  go_loopw [15, 77] (fun _ i wr => ∃ k : Nat, k ≤ es.length ∧ i = .int .i64 k ∧ Hid (w.grownBy wr none)) (fun _ i _ => es.length - (intOf i).toNat)
  case atStart => exact ⟨0, Nat.zero_le _, rfl, G10⟩
  case round =>
    obtain ⟨j, hj, rfl, hG⟩ := hrel
    have el := ELEN.out
    by_cases hlt : j < es.length
    · obtain ⟨bb, off, c', f, e, hf, sn, sc, hbb, c0, c1, c2⟩ := (ER.out.grown hG.out).at j hlt
      cases e
      have HC := Lib.hid (fun W (hE : EnvE A W) => eCheck f A W hE sn)
      have HNU := Lib.hid (fun W (hN : ErrEnv A W) => lNumV A (chkE f) (chkE_le f) W hN)
      have HRC := Lib.hid (fun W => rCheck f W sn sc)
      generalize chkE f = ck at *
      obtain ⟨fk, fn, fc⟩ := f
      simp only at *
      clear hf sn sc
      go_upto_region 18 with fail
      have bx := boxE_new wr ⟨fk, fn, fc⟩ 46
      have GX := Lib.hid (hG.out.trans (World.grownBy_alloc wr (.cells #[.int .i64 fk, .string fn, .string fc] 46) none))
      simp only at bx
      generalize (wr.alloc (.cells #[.int .i64 fk, .string fn, .string fc] 46)) = wx at *
      generalize wr.heap.size = xb at *
      have k0 : ∀ u : Gr wx, u.W.cell? ⟨xb, 0, none⟩ = some (.int .i64 fk) := fun u => u.g.cell bx.1 (by simp)
      have k1 : ∀ u : Gr wx, u.W.cell? ⟨xb, 1, none⟩ = some (.string fn) := fun u => u.g.cell bx.2.1 (by simp)
      have k2 : ∀ u : Gr wx, u.W.cell? ⟨xb, 2, none⟩ = some (.string fc) := fun u => u.g.cell bx.2.2 (by simp)
      have inst : Nonempty (Gr wx) := ⟨⟨wx, World.grownBy.refl _ _⟩⟩
      clear bx
      refine wp_region_grows (by kernel_rfl) (by kernel_rfl) ?_
      repeat (go_big_quiet_step (first
        | (go_at_call 17; refine (HC.out _ (HE.out.grown (GX.out.trans (Gr.g _)))).mono ?_; rintro e w11 ⟨he, g11⟩; exact ⟨he, ⟨_, (Gr.g _).trans g11⟩, rfl⟩)
        | (go_at_call 15; refine (HNU.out _ (HN.out.later (below_of_grown (GX.out.trans (Gr.g _))))).mono ?_; rintro e w11 ⟨he, g11⟩; exact ⟨he, ⟨_, (Gr.g _).trans g11⟩, rfl⟩)
        | (go_at_call 18; refine (HRC.out _).mono ?_; rintro e w11 ⟨he, g11⟩; exact ⟨he, ⟨_, (Gr.g _).trans g11⟩, rfl⟩)))
      refine wpQuiet_nil ?_
      rintro _ ⟨⟨w9, gg⟩, rfl⟩
      go_wp2
      go_roundw
      case rel => exact ⟨j + 1, by omega, by go_num, Lib.hid (GX.out.trans gg)⟩
      case measure => simp [intOf]; omega
    · go_wp2
      go_ret
      exact ⟨rfl, hG.out⟩
end Go.Proofs.YtbcemenfklgnkaaGreatDoor.effectApplies

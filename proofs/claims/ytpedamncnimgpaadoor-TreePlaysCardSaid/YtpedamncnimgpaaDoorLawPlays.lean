/- What a tree does, in every order, is what the document's does. -/
import Derived.Test.YtpedamncnimgpaaDoorPlaysB
import Derived.Test.YtpedamncnimgpaaDoorApartA
import Derived.Deep.RegionHeld3
import Derived.Deep.LoopGhost
import Derived.Deep.DeepCutAuto
import Derived.Deep.CutBlock
import Derived.Deep.QuietTactic
import Derived.BigQuiet
namespace Go.Proofs.YtpedamncnimgpaaDoor.treePlays
open Go.RowKit Go.Maps

/-- a world that has grown -/
structure Gr (w : World) where
  W : World
  g : w.grownBy W none
/-- a region that draws, reads, and calls what only makes memory: one walk -/
theorem wp_region_grows {P : Program} {id : Nat} {Q : Exit → Act → World → Prop} {a : Act} {w : World} {l : List Oper} (hm : P.follows .mixedOrders = true) (hB : Region.lexB .any l.toArray = true)
    (h : wpQuiet P l.toArray (fun w' => ∃ u : Gr w, w' = u.W) (fun a' => ∀ w', (∃ u : Gr w, w' = u.W) → Q .normal a' w') l a) : (Code.region id l.toArray true).wp P Q a w :=
  wp_region_quiet (C := fun w' => ∃ u : Gr w, w' = u.W) hm hB ⟨⟨_, grown_drew (World.grownBy.refl w none)⟩, rfl⟩ (by simpa using h)

set_option maxRecDepth 100000 in
set_option maxHeartbeats 8000000 in
theorem walk (v : Value) (l : List Ac) (A : Nat → Addr) (w : World) (h : ARow w v l) (hE : ErrEnv A w) :
    Calls Tryd.prog 3 #[v] w fun e w' => e = .returned (.bool true) ∧ Below w.heap.size w w' := by
  have HA := Lib.hid h; have HE := Lib.hid hE
  obtain ⟨av, cv, rfl, hln, -, -⟩ := h
  clear hE
  go_enter Tryd.func3, Tryd.ntmps3
  go_wp2_with fail
  refine (lAliveT A _ HE.out.six.five).mono ?_
  rintro e w1 ⟨rfl, g1⟩
  have G1 := Lib.hid g1
  clear g1
  by_cases hz : (120 : Int) < l.length
  · go_wp2
    go_ret
    exact ⟨rfl, below_of_grown G1.out⟩
  have hzd : decide ((120 : Int) < l.length) = false := decide_eq_false hz
  go_wp2_with fail
  refine (tNew _).mono ?_
  rintro e w2 ⟨rfl, t2, g2⟩
  have sz2 := g2.size
  have sz1 := G1.out.size
  have g3 := G1.out.trans g2
  have lt2 := t2.lt
  have HB := Lib.hid (show w.heap.size ≤ w1.heap.size from sz1)
  have HQ := Lib.hid (show w.heap.size ≤ w2.heap.size by omega)
  have HPQ := Lib.hid (show w1.heap.size + 1 ≠ w2.heap.size by omega)
  have HBQ := Lib.hid (show w1.heap.size ≠ w2.heap.size by omega)
  generalize hp : w1.heap.size + 1 = p at t2 HPQ ⊢
  generalize hb : w1.heap.size = b at t2 HB HBQ
  have T2 := Lib.hid t2; have G3 := Lib.hid g3
  clear t2 g2 G1 sz1 sz2 lt2 g3 hp hb
  go_upto_region 6 with fail
  have gx := World.grownBy_alloc w2 (.cells #[.slice none 0 0] 29) none
  have ST := Lib.hid (show Both (w2.alloc (.cells #[.slice none 0 0] 29)) p b w2.heap.size [] from
    ⟨T2.out.kept gx (by simp) (by simp), rtree_new w2 _, by simp, List.Pairwise.nil⟩)
  have G4 := Lib.hid (G3.out.trans gx)
  generalize (w2.alloc (.cells #[.slice none 0 0] 29)) = w4 at ST G4 ⊢
  generalize w2.heap.size = q at ST HQ HPQ HBQ ⊢
  clear gx T2 G3
  go_wp2_with fail
  go_loopg [6, 7, 8, 9, 10, 11, 12, 13, 24] l.length (fun g _ _ _ _ _ _ _ _ i wr => ∃ (k : Nat) (ts : List Fl), k ≤ l.length ∧ g = l.length - k ∧ i = .int .i64 k ∧ Hid (Both wr p b q ts) ∧ Hid (w.grownBy wr none))
  case atStart => exact ⟨0, [], Nat.zero_le _, rfl, rfl, ST, G4⟩
  case round =>
    obtain ⟨k, ts, hk, rfl, rfl, hst, hG⟩ := hrel
    by_cases hlt : k < l.length
    · obtain ⟨ab, off, c', x, e, hx, sn, sc, -, a0, a1, a2, a3⟩ := (HA.out.later (below_of_grown hG.out)).at k hlt
      cases e
      obtain ⟨kd, fn, fc, ft⟩ := x
      simp only at sn sc a0 a1 a2 a3
      clear hx
      have HN := Lib.hid sn; have HC := Lib.hid sc
      have hn' := sn
      have hc' := sc
      unfold maxLen at hn' hc'
      by_cases hz1 : (100 : Int) < fn.size
      · go_wp2
        go_ret
        exact ⟨rfl, below_of_grown (hG.out.trans (World.grownBy_alloc _ _ _))⟩
      have hd1 : decide ((100 : Int) < fn.size) = false := decide_eq_false hz1
      by_cases hz2 : (1000 : Int) < fc.size
      · go_wp2
        go_ret
        exact ⟨rfl, below_of_grown (hG.out.trans (World.grownBy_alloc _ _ _))⟩
      have hd2 : decide ((1000 : Int) < fc.size) = false := decide_eq_false hz2
      go_upto_region 11 with fail
      have bx := boxA_new wr kd ⟨fn, fc, ft⟩ 33
      have gx := World.grownBy_alloc wr (.cells #[.int .i64 kd, .string fn, .string fc, .int .i64 ft] 33) none
      have lx := hst.out.1.lt
      have lq := hst.out.2.1.lt
      have HXB := Lib.hid (show wr.heap.size ≠ b by omega)
      have HXQ := Lib.hid (show wr.heap.size ≠ q by omega)
      simp only at bx
      generalize (wr.alloc (.cells #[.int .i64 kd, .string fn, .string fc, .int .i64 ft] 33)) = wb at bx gx ⊢
      generalize wr.heap.size = xb at bx HXB HXQ ⊢
      have BX := Lib.hid bx
      have STB := Lib.hid (hst.out.grown gx); have GB := Lib.hid (hG.out.trans gx)
      clear bx gx lx lq hst hG a0 a1 a2 a3 sn sc hd1 hd2
      go_wp2_with fail
      refine (tCopy p b ts _ STB.out.1).mono ?_
      rintro e w5 ⟨rfl, t5, g5⟩
      have sz5 := g5.size
      have lt5 := t5.lt
      have ltb := STB.out.1.lt
      have ltq := STB.out.2.1.lt
      have N1 := Lib.hid (show wb.heap.size + 1 ≠ b by omega)
      have N2 := Lib.hid (show wb.heap.size ≠ b by omega)
      have N3 := Lib.hid (show wb.heap.size + 1 ≠ q by omega)
      have N4 := Lib.hid (show wb.heap.size ≠ q by omega)
      have N5 := Lib.hid (show w5.heap.size ≠ q by omega)
      generalize wb.heap.size + 1 = p2 at t5 N1 N3 ⊢
      generalize wb.heap.size = b2 at t5 N2 N4
      have T5 := Lib.hid t5; have ST5 := Lib.hid (STB.out.grown g5); have BX5 := Lib.hid (BX.out.kept g5 (by simp)); have G5 := Lib.hid (GB.out.trans g5)
      clear t5 g5 sz5 lt5 ltb ltq STB BX GB
      obtain ⟨ra, rc, rq, rf, rr, r1, r2, r3, r4⟩ := ST5.out.2.1
      have RQ := Lib.hid rq; have RF := Lib.hid rf; have RR := Lib.hid rr; have R1 := Lib.hid r1; have R2 := Lib.hid r2; have R3 := Lib.hid r3; have R4 := Lib.hid r4
      clear rf rr r1 r2 r3
      go_upto_region 13 with fail
      have gx := World.grownBy_alloc w5 (.cells #[.slice ra ts.length rc] 29) none
      have hlt5 := ST5.out.2.1.lt
      have WAS := Lib.hid (show Was (w5.alloc (.cells #[.slice ra ts.length rc] 29)) w5.heap.size q ts from
        ⟨N5.out, ra, rc, by go_simp, by go_simp, RR.out.later (below_of_grown gx), R1.out, R2.out, ⟨R3.out.1, fun x hx hl => by
          obtain ⟨a', c', e, _, _, hcc⟩ := RR.out
          cases e
          obtain ⟨b', off', e, hlt', _⟩ := hcc hl
          rw [hx] at e
          cases e
          exact Nat.ne_of_lt hlt'⟩, R4.out, R3.out.2⟩)
      have SIT := Lib.hid (show Sit ⟨p, b, q, p2, b2, w5.heap.size, xb⟩ kd ⟨fn, fc, ft⟩ w ts (w5.alloc (.cells #[.slice ra ts.length rc] 29)) ts ts from
        ⟨ST5.out.1.kept gx (by simp) (by simp), ST5.out.2.1.grown gx, ⟨T5.out.kept gx (by simp) (by simp), WAS.out, N1.out, N2.out, N3.out, N4.out⟩, BX5.out.kept gx (by simp), G5.out.trans gx, HB.out, HQ.out, HXB.out, HXQ.out, HPQ.out, HBQ.out⟩)
      have SMALL := Lib.hid ST5.out.2.2
      generalize (w5.alloc (.cells #[.slice ra ts.length rc] 29)) = w6 at SIT ⊢
      generalize w5.heap.size = q2 at SIT ⊢
      clear gx hlt5 WAS ST5 BX5 T5 G5 N1 N2 N3 N4 N5 HXB HXQ RQ RF RR R1 R2 R3 R4 r4 rq
      have bx := SIT.out.2.2.2.1
      obtain ⟨x0, x1, x2, x3⟩ := bx
      simp only at x0 x1 x2 x3
      have RIS := Lib.hid SMALL.out.2
      go_upto_block 2 with fail
      go_cut [9, 10] (fun s9 s10 wx => ∃ (e : Nat) (t' : List Fl), s9 = .int .i64 e ∧ s10 = .int .i64 e ∧ Hid (Sit ⟨p, b, q, p2, b2, q2, xb⟩ kd ⟨fn, fc, ft⟩ w ts wx t' t') ∧ Hid ((∀ f ∈ t', f.c.size ≤ 900) ∧ Rising t'))
      case first =>
        rcases kinds kd with rfl | rfl | rfl | ⟨e0, e1, e2⟩
        all_goals have SITd := SIT.out.grown (grown_drew (World.grownBy.refl _ _))
        · have LE := (putE_le ts ⟨fn, fc, ft⟩)
          go_wp2_with fail
          go_region_held3 (fun w' => w'.cell? ⟨xb, 0, none⟩ = some (.int .i64 0) ∧ w'.cell? ⟨xb, 1, none⟩ = some (.string fn) ∧ w'.cell? ⟨xb, 2, none⟩ = some (.string fc) ∧ w'.cell? ⟨xb, 3, none⟩ = some (.int .i64 ft))
            (first | (refine (show BoxA _ xb 0 ⟨fn, fc, ft⟩ from ?_); exact Sit.bx (s := ⟨p, b, q, p2, b2, q2, xb⟩) (base := w) (ts := ts) (by assumption)))
            (first | (go_at_call 10; refine (sPutT (s := ⟨p, b, q, p2, b2, q2, xb⟩) (k := 0) (f := ⟨fn, fc, ft⟩) (base := w) (ts := ts) (by assumption) HE.out ⟨fn, fc, ft⟩ HN.out HC.out).mono ?_; rintro e w7 ⟨rfl, hs⟩) | (go_at_call 9; refine (sNum (s := ⟨p, b, q, p2, b2, q2, xb⟩) (k := 0) (f := ⟨fn, fc, ft⟩) (base := w) (ts := ts) (by assumption) HE.out _ (by assumption)).mono ?_; rintro e w7 ⟨rfl, hs⟩) | (go_at_call 11; refine (sPutR (s := ⟨p, b, q, p2, b2, q2, xb⟩) (k := 0) (f := ⟨fn, fc, ft⟩) (base := w) (ts := ts) (by assumption) ⟨fn, fc, ft⟩ HN.out HC.out RIS.out).mono ?_; rintro e w7 ⟨rfl, hs⟩))
          all_goals (go_wp2_with fail; go_meet; exact ⟨_, _, rfl, rfl, Lib.hid (by assumption), Lib.hid ⟨setL_small SMALL.out.1 putE_small, setL_rising _ _ RIS.out⟩⟩)
        · have LE := (putE_le ts (touF ts fn ft))
          go_wp2_with fail
          go_region_held3 (fun w' => w'.cell? ⟨xb, 0, none⟩ = some (.int .i64 1) ∧ w'.cell? ⟨xb, 1, none⟩ = some (.string fn) ∧ w'.cell? ⟨xb, 2, none⟩ = some (.string fc) ∧ w'.cell? ⟨xb, 3, none⟩ = some (.int .i64 ft))
            (first | (refine (show BoxA _ xb 1 ⟨fn, fc, ft⟩ from ?_); exact Sit.bx (s := ⟨p, b, q, p2, b2, q2, xb⟩) (base := w) (ts := ts) (by assumption)))
            (first | (go_at_call 12; refine (sTouchT (s := ⟨p, b, q, p2, b2, q2, xb⟩) (k := 1) (f := ⟨fn, fc, ft⟩) (base := w) (ts := ts) (by assumption) HE.out fn ft HN.out SMALL.out.1).mono ?_; rintro e w7 ⟨rfl, hs⟩) | (go_at_call 9; refine (sNum (s := ⟨p, b, q, p2, b2, q2, xb⟩) (k := 1) (f := ⟨fn, fc, ft⟩) (base := w) (ts := ts) (by assumption) HE.out _ (by assumption)).mono ?_; rintro e w7 ⟨rfl, hs⟩) | (go_at_call 13; refine (sTouchR (s := ⟨p, b, q, p2, b2, q2, xb⟩) (k := 1) (f := ⟨fn, fc, ft⟩) (base := w) (ts := ts) (by assumption) fn ft HN.out RIS.out).mono ?_; rintro e w7 ⟨rfl, hs⟩))
          all_goals (go_wp2_with fail; go_meet; exact ⟨_, _, rfl, rfl, Lib.hid (by assumption), Lib.hid ⟨setL_small SMALL.out.1 putE_small, setL_rising _ _ RIS.out⟩⟩)
        · have LE := (remE_le ts fn)
          go_wp2_with fail
          go_region_held3 (fun w' => w'.cell? ⟨xb, 0, none⟩ = some (.int .i64 2) ∧ w'.cell? ⟨xb, 1, none⟩ = some (.string fn) ∧ w'.cell? ⟨xb, 2, none⟩ = some (.string fc) ∧ w'.cell? ⟨xb, 3, none⟩ = some (.int .i64 ft))
            (first | (refine (show BoxA _ xb 2 ⟨fn, fc, ft⟩ from ?_); exact Sit.bx (s := ⟨p, b, q, p2, b2, q2, xb⟩) (base := w) (ts := ts) (by assumption)))
            (first | (go_at_call 14; refine (sRemoveT (s := ⟨p, b, q, p2, b2, q2, xb⟩) (k := 2) (f := ⟨fn, fc, ft⟩) (base := w) (ts := ts) (by assumption) HE.out fn HN.out).mono ?_; rintro e w7 ⟨rfl, hs⟩) | (go_at_call 9; refine (sNum (s := ⟨p, b, q, p2, b2, q2, xb⟩) (k := 2) (f := ⟨fn, fc, ft⟩) (base := w) (ts := ts) (by assumption) HE.out _ (by assumption)).mono ?_; rintro e w7 ⟨rfl, hs⟩) | (go_at_call 15; refine (sRemoveR (s := ⟨p, b, q, p2, b2, q2, xb⟩) (k := 2) (f := ⟨fn, fc, ft⟩) (base := w) (ts := ts) (by assumption) fn RIS.out).mono ?_; rintro e w7 ⟨rfl, hs⟩))
          all_goals (go_wp2_with fail; go_meet; exact ⟨_, _, rfl, rfl, Lib.hid (by assumption), Lib.hid ⟨fun x hx => SMALL.out.1 x (List.mem_filter.1 hx).1, delL_rising _ RIS.out⟩⟩)
        · go_wp2_with fail
          go_meet
          exact ⟨0, ts, rfl, rfl, SIT, SMALL⟩
      case rest =>
        obtain ⟨e, t', rfl, rfl, hs, hsm⟩ := hcut
        clear x0 x1 x2 x3 SIT SMALL RIS
        obtain ⟨x0, x1, x2, x3⟩ := hs.out.bx
        simp only at x0 x1 x2 x3
        have hget := fun (W : World) (hW : IsTree W p b t') => tGet p b t' fn W hW HN.out
        have hat := fun (W : World) (hW : RTree W q t') => rAt q t' fn W hW
        have htt := fun (W : World) (hW : IsTree W p b t') => tTime p b t' fn W hW HN.out
        have hrt := fun (W : World) (hW : RTree W q t') => rTime q t' fn W hW
        rcases at_cases t' fn with ⟨hq, hi⟩ | ⟨j, f, hj, hf, hfn, hi, hg, hq⟩
        · rw [hq, getL_not hq] at hget
          rw [hi] at hat
          rw [getL_not hq] at htt hrt
          simp only [valF, nilF] at hget htt hrt
          clear hq hi
          have hgd := guardF
          have hnq := neqF ⟨ByteArray.empty, ByteArray.empty, 0⟩ ⟨ByteArray.empty, ByteArray.empty, 0⟩
          rw [eqFl_self] at hnq
          simp only at hnq
          go_upto_region 23 with (first
            | (go_at_call 16; refine (hget _ hs.out.1).mono ?_; rintro e w7 ⟨rfl, g7⟩; have HS7 := Lib.hid (hs.out.grown g7); have y1 := fun o => cell_al (o := o) (g7.cell x1 (by simp)); clear g7)
            | (go_at_call 17; refine (hat _ (HS7.out.grown (World.grownBy_alloc _ _ _)).2.1).mono ?_; rintro e w8 ⟨rfl, g8⟩; have HS8 := Lib.hid ((HS7.out.grown (World.grownBy_alloc _ _ _)).grown g8); have bf := (box_newT w7 ⟨ByteArray.empty, ByteArray.empty, 0⟩ 31).kept g8 (by simp); clear g8))
          generalize w7.heap.size = fb at bf ⊢
          have y1 := HS8.out.bx.2.1
          simp only at y1
          have k0 : ∀ u : Gr w8, u.W.cell? ⟨xb, 1, none⟩ = some (.string fn) := fun u => u.g.cell y1 (by simp)
          have k1 : ∀ u : Gr w8, u.W.cell? ⟨fb, 0, none⟩ = some (.string ByteArray.empty) := fun u => u.g.cell bf.1 (by simp)
          have k2 : ∀ u : Gr w8, u.W.cell? ⟨fb, 1, none⟩ = some (.string ByteArray.empty) := fun u => u.g.cell bf.2.1 (by simp)
          have k3 : ∀ u : Gr w8, u.W.cell? ⟨fb, 2, none⟩ = some (.int .i64 0) := fun u => u.g.cell bf.2.2 (by simp)
          have inst : Nonempty (Gr w8) := ⟨⟨w8, World.grownBy.refl _ _⟩⟩
          clear bf y1
          refine wp_region_grows (by kernel_rfl) (by kernel_rfl) ?_
          repeat (go_big_quiet_step (first
            | (go_at_call 18; refine (htt _ (HS8.out.grown (Gr.g _)).1).mono ?_; rintro e w9 ⟨he, hw⟩; exact ⟨he, _, hw.symm⟩)
            | (go_at_call 19; refine (hrt _ (HS8.out.grown (Gr.g _)).2.1).mono ?_; rintro e w9 ⟨he, g9⟩; exact ⟨he, ⟨_, (Gr.g _).trans g9⟩, rfl⟩)))
          refine wpQuiet_nil ?_
          rintro _ ⟨⟨w9, gg⟩, rfl⟩
          · have tok2 : True := trivial
            go_wp2_with (first
              | (go_at_call 20; have _t := tok2; refine (lShows p b q t' _ (HS8.out.grown (by assumption)).1 (HS8.out.grown (by assumption)).2.1).mono ?_; rintro e w10 ⟨rfl, g10⟩; have GA := Lib.hid (World.grownBy.trans (show w8.grownBy _ none by assumption) g10); clear g10 tok2)
              | (go_at_call 20; refine (lShows p2 b2 q2 ts _ (HS8.out.grown GA.out).2.2.1.1 (HS8.out.grown GA.out).2.2.1.2.1.rtree).mono ?_; rintro e w11 ⟨rfl, g11⟩; have HS11 := Lib.hid ((HS8.out.grown GA.out).grown g11); clear g11))
            go_roundg (l.length - (k + 1))
            case measure => omega
            case rel => exact ⟨k + 1, t', by omega, rfl, by go_num, Lib.hid ⟨HS11.out.1, HS11.out.2.1, hsm.out⟩, Lib.hid HS11.out.2.2.2.2.1⟩
        · rw [hq, hg] at hget
          rw [hi] at hat
          rw [hg] at htt hrt
          obtain ⟨n1, c1, t1⟩ := f
          obtain rfl : fn = n1 := hfn.symm
          simp only [valF] at hget htt hrt
          have HF := Lib.hid hf
          clear hq hi hg hf
          have hgd := guardR
          have hnq := neqR ⟨fn, c1, t1⟩ ⟨fn, c1, t1⟩
          rw [eqFl_self] at hnq
          simp only at hnq
          have hi0 : (0 : Int) ≤ (j : Int) := Int.natCast_nonneg _
          have hi1 : (j : Int) < (t'.length : Int) := by omega
          go_upto_region 23 with (first
            | (go_at_call 16; refine (hget _ hs.out.1).mono ?_; rintro e w7 ⟨rfl, g7⟩; have HS7 := Lib.hid (hs.out.grown g7); have y1 := fun o => cell_al (o := o) (g7.cell x1 (by simp)); clear g7)
            | (go_at_call 17; refine (hat _ (HS7.out.grown (World.grownBy_alloc _ _ _)).2.1).mono ?_; rintro e w8 ⟨rfl, g8⟩; have HS8 := Lib.hid ((HS7.out.grown (World.grownBy_alloc _ _ _)).grown g8); have bf := (box_newT w7 ⟨fn, c1, t1⟩ 31).kept g8 (by simp); clear g8))
          generalize w7.heap.size = fb at bf ⊢
          have y1 := HS8.out.bx.2.1
          simp only at y1
          obtain ⟨ra, rc, rq, -, rr, -⟩ := HS8.out.2.1
          obtain ⟨rb, ro, rc', f', e', hf', -, -, -, z0, z1, z2⟩ := rr.at j hj
          cases e'
          obtain rfl := Option.some.inj (HF.out.symm.trans hf')
          clear hf' rr
          simp only at rq z0 z1 z2
          have k0 : ∀ u : Gr w8, u.W.cell? ⟨xb, 1, none⟩ = some (.string fn) := fun u => u.g.cell y1 (by simp)
          have k1 : ∀ u : Gr w8, u.W.cell? ⟨fb, 0, none⟩ = some (.string fn) := fun u => u.g.cell bf.1 (by simp)
          have k2 : ∀ u : Gr w8, u.W.cell? ⟨fb, 1, none⟩ = some (.string c1) := fun u => u.g.cell bf.2.1 (by simp)
          have k3 : ∀ u : Gr w8, u.W.cell? ⟨fb, 2, none⟩ = some (.int .i64 t1) := fun u => u.g.cell bf.2.2 (by simp)
          have k4 : ∀ u : Gr w8, u.W.cell? ⟨q, 0, none⟩ = some (.slice (some ⟨rb, ro, none⟩) t'.length rc) := fun u => u.g.cell rq (by simp)
          have k5 : ∀ u : Gr w8, u.W.cell? ⟨rb, ro + j * 3, none⟩ = some (.string fn) := fun u => u.g.cell z0 (by simp)
          have k6 : ∀ u : Gr w8, u.W.cell? ⟨rb, ro + j * 3 + 1, none⟩ = some (.string c1) := fun u => u.g.cell z1 (by simp)
          have k7 : ∀ u : Gr w8, u.W.cell? ⟨rb, ro + j * 3 + 2, none⟩ = some (.int .i64 t1) := fun u => u.g.cell z2 (by simp)
          have inst : Nonempty (Gr w8) := ⟨⟨w8, World.grownBy.refl _ _⟩⟩
          clear bf y1
          refine wp_region_grows (by kernel_rfl) (by kernel_rfl) ?_
          repeat (go_big_quiet_step (first
            | (go_at_call 18; refine (htt _ (HS8.out.grown (Gr.g _)).1).mono ?_; rintro e w9 ⟨he, hw⟩; exact ⟨he, _, hw.symm⟩)
            | (go_at_call 19; refine (hrt _ (HS8.out.grown (Gr.g _)).2.1).mono ?_; rintro e w9 ⟨he, g9⟩; exact ⟨he, ⟨_, (Gr.g _).trans g9⟩, rfl⟩)))
          refine wpQuiet_nil ?_
          rintro _ ⟨⟨w9, gg⟩, rfl⟩
          · have tok2 : True := trivial
            go_wp2_with (first
              | (go_at_call 20; have _t := tok2; refine (lShows p b q t' _ (HS8.out.grown (by assumption)).1 (HS8.out.grown (by assumption)).2.1).mono ?_; rintro e w10 ⟨rfl, g10⟩; have GA := Lib.hid (World.grownBy.trans (show w8.grownBy _ none by assumption) g10); clear g10 tok2)
              | (go_at_call 20; refine (lShows p2 b2 q2 ts _ (HS8.out.grown GA.out).2.2.1.1 (HS8.out.grown GA.out).2.2.1.2.1.rtree).mono ?_; rintro e w11 ⟨rfl, g11⟩; have HS11 := Lib.hid ((HS8.out.grown GA.out).grown g11); clear g11))
            go_roundg (l.length - (k + 1))
            case measure => omega
            case rel => exact ⟨k + 1, t', by omega, rfl, by go_num, Lib.hid ⟨HS11.out.1, HS11.out.2.1, hsm.out⟩, Lib.hid HS11.out.2.2.2.2.1⟩
    · go_wp2
      go_ret
      exact ⟨rfl, below_of_grown hG.out⟩
end Go.Proofs.YtpedamncnimgpaaDoor.treePlays

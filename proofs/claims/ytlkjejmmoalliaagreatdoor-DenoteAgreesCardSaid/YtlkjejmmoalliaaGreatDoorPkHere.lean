/- The walk of here: all ways at one place. -/
import Derived.Test.YtlkjejmmoalliaaGreatDoorPkStep
import Derived.Test.YtlkjejmmoalliaaGreatDoorPkRep
import Derived.Test.YtlkjejmmoalliaaGreatDoorPkReg
import Derived.Test.YtlkjejmmoalliaaGreatDoorClsE
import Derived.Deep.LoopGhost
import Derived.Deep.RegionLaw
import Derived.Deep.CutBlock
import Derived.Deep.CutRange
namespace Go.Proofs.YtlkjejmmoalliaaGreatDoor
open Go.RowKit

/-- what here answers -/
def HereOut (L : List Ins) (s : ByteArray) (w0 : World) (p : Nat) (cv : Value) (q : Nat) (bv : Value) (r : Option (List Int)) (e : Ending) (w' : World) : Prop :=
  (∃ b k, e = .returned (.pointer (some ⟨b, 0, none⟩)) ∧ r = some k ∧ Kep w0 b k w' ∧ w0.grownBy w' none) ∨
  (e = .returned (.pointer none) ∧ ∃ sv nv N B V, Wk w0 p cv s q bv B sv [] nv N w' ∧ Mk9 L q B V ∧ Run9 L s (ways9 q N []) V r ∧ N.length ≤ L.length ∧ (q = s.size → N = []))

set_option maxRecDepth 100000 in
set_option maxHeartbeats 16000000 in
theorem cHere9 (L : List Ins) (s : ByteArray) (w0 : World) (p : Nat) (ca : Option Addr) (cc q : Nat) (bv : Value) (r : Option (List Int)) (B : List Int) (V : Vis) (sv nv : Value) (N : List Wx) (w : World)
    (hC : CRow w0 (.slice ca L.length cc) L) (h : Wk w0 p (.slice ca L.length cc) s q bv B sv [] nv N w) (hM : Mk9 L q B V) (hR : Run9 L s (N.map (toY q)) V r) (hq : q ≤ s.size) (hN : N ≠ []) (hu : N.length ≤ L.length + 1) (hL : L.length ≤ 1000) :
    Calls Tryz.prog 19 #[.pointer (some ⟨p, 0, none⟩)] w (HereOut L s w0 p (.slice ca L.length cc) q bv r) := by
  have HC := Lib.hid hC
  have W0 := Lib.hid h
  have HM := Lib.hid hM
  have HR := Lib.hid hR
  obtain ⟨n, hn⟩ : ∃ n, N.length = n := ⟨_, rfl⟩
  have hn1 : 1 ≤ n := by have := List.length_pos_iff.2 hN; omega
  rw [hn] at hu
  have HNN := Lib.hid hn
  obtain ⟨na, ncap, hnv⟩ := owns_shape h.oN
  rw [hn] at hnv
  obtain ⟨g, rfl⟩ : ∃ g, na = some ⟨g, 0, none⟩ := by
    rcases h.oN.2 with ⟨e, e0⟩ | ⟨g, cap, cur, e, -⟩
    · omega
    · rw [hnv] at e; cases e; exact ⟨g, rfl⟩
  subst hnv
  have CR := Lib.hid (cRev w0.heap.size g n ncap N w hn (by omega) (by have := h.oN; rw [hn] at this; exact this))
  obtain ⟨c0, c1, c2, c3, c4, c5⟩ := six_cells h.P
  clear h hC hM hR hN hn
  go_enter Tryz.func19, Tryz.ntmps19
  go_wp2
  go_step3
  go_upto_region 2 with (go_at_call 35; (with_reducible refine (CR.out).mono ?_); rintro e w1 ⟨rfl, o1, g1⟩)
  have W1 := Lib.hid (W0.out.turnN (N' := N.reverse) (by simp) (by simp) o1 g1 HNN.out)
  clear c0 c1 c2 c3 c4 c5 o1 g1 CR W0
  obtain ⟨c0, c1, c2, c3, c4, c5⟩ := six_cells W1.out.P
  have f := four_free W1.out.P
  have HW2 := Lib.hid (show ∀ w2, w1.grownBy w2 (some p) → w2.heap[p]? = some (.cells #[.slice ca L.length cc, .string s, .int .i64 q, bv, .slice (some ⟨g, 0, none⟩) n ncap, sv] 60 (0, 0)) → Ho L s w0 p (.slice ca L.length cc) q bv r (n + 2 * unm B q) w2 from fun w2 g2 h2 => by
    refine ⟨_, N.reverse, _, [], B, V, W1.out.poke g2 h2 (by have := W1.out.oN; simpa [HNN.out] using this) W1.out.oS (fun k e e2 => W1.out.ap k e2 e) W1.out.KN W1.out.KS, HM.out, ?_, ?_, ?_, fun _ => rfl, ?_⟩
    · simpa [ways9] using HR.out
    · rw [List.length_reverse, HNN.out]; omega
    · have := unm_le B q; rw [HM.out.len] at this; simpa using this
    · have := unm_le B q; rw [HM.out.len] at this; omega)
  obtain ⟨kk, hkk⟩ : ∃ kk, kk = n + 2 * unm B q := ⟨_, rfl⟩
  rw [← hkk] at HW2
  clear hkk
  have G2 := Lib.hid (fun u v => ((World.grownBy.refl w1 (some p)).trans (grown_cell w1 p 4 u)).trans (grown_cell _ p 5 v))
  have P2 := Lib.hid (fun u v => heap_setCell_same _ p 5 _ _ v (heap_setCell_same w1 p 4 _ _ u W1.out.P))
  go_cut [10] from 11 to 24 (fun _ wx => Hid (Ho L s w0 p (.slice ca L.length cc) q bv r kk wx))
  case first =>
    rcases W1.out.oS.2 with ⟨rfl, -⟩ | ⟨g', cap, cur, rfl, -⟩
    all_goals
      go_region
      all_goals
        go_wp2
        go_meet
        exact Lib.hid (HW2.out _ (grown_drew (G2.out _ _)) (P2.out _ _))
  case rest =>
    have H2 := hcut
    have hkk : Hid (kk ≤ 3 * L.length + 1) := Lib.hid (by obtain ⟨_, _, _, _, _, _, _, _, _, _, _, _, h⟩ := H2.out; exact h)
    clear hcut HW2 G2 P2 W1 HR HM HNN f c0 c1 c2 c3 c4 c5 hu hn1
    go_wp2
    go_step3
    go_wp2
    go_loopg [3, 4, 48, 75, 86, 106, 128, 140] kk (fun g _ _ _ _ _ _ _ _ wr => Hid (Ho L s w0 p (.slice ca L.length cc) q bv r g wr))
    case atStart => exact H2
    case round =>
      obtain ⟨sv, S, nv, N, B, V, hW, hM, hR, hm, hl, he, hkk⟩ := hrel.out
      have W3 := Lib.hid hW; have M3 := Lib.hid hM; have R3 := Lib.hid hR; have E3 := Lib.hid he
      clear hrel hM hR he H2
      rcases List.eq_nil_or_concat S with rfl | ⟨S, x, rfl⟩
      · obtain ⟨sa, sc, rfl⟩ := owns_shape hW.oS
        obtain ⟨c0, c1, c2, c3, c4, c5⟩ := six_cells hW.P
        clear hW
        go_wp2
        rw [Exit.noGoto_ret]
        go_ret
        exact .inr ⟨rfl, _, nv, N, B, V, W3.out, M3.out, R3.out, by omega, E3.out⟩
      · rw [List.concat_eq_append] at *
        obtain ⟨m, hml⟩ : ∃ m, S.length = m := ⟨_, rfl⟩
        obtain ⟨sa, sc, hsv⟩ := owns_shape hW.oS
        rw [show (S ++ [x]).length = m + 1 by simp [hml]] at hsv hm
        subst hsv
        have CP := Lib.hid (cPop sa sc m x wr hW hml (by omega))
        have KX := Lib.hid (hW.KS x (by simp))
        have HML := Lib.hid hml
        have NP := Lib.hid (hW.ap)
        obtain ⟨c0, c1, c2, c3, c4, c5⟩ := six_cells hW.P
        have XP := Lib.hid (show x.b ≠ p from (hW.KS x (by simp)).ne hW.P (by decide))
        clear hW hml
        go_upto_block 2 with (go_at_call 36; (with_reducible refine (CP.out).mono ?_); rintro e w2 ⟨rfl, W2, g2⟩)
        have ga := World.grownBy_alloc w2 (.cells #[.int .i64 x.a, .pointer (some ⟨x.b, 0, none⟩)] 57) none
        have HN := Lib.hid (show Hn L s w0 p (.slice ca L.length cc) q bv r gk w2.heap.size L.length (w2.alloc (.cells #[.int .i64 x.a, .pointer (some ⟨x.b, 0, none⟩)] 57)) from
          ⟨_, S, nv, N, B, V, x, ⟨W2.grown ga, W2.farNew (Nat.le_refl _), heap_alloc_new w2 _, (KX.out.kept g2 (fun e => by cases e; exact XP.out rfl)).grown ga⟩, M3.out, by rw [← ways_pop]; exact R3.out, by rw [HML.out]; omega, by have := unm_le B q; rw [M3.out.len] at this; exact this, hl, E3.out, hkk⟩)
        clear c0 c1 c2 c3 c4 c5 CP KX HML NP XP ga g2 W2 W3 M3 R3 E3 hm hl
        generalize w2.alloc _ = w3 at HN ⊢
        generalize w2.heap.size = o at HN ⊢
        obtain ⟨g1, rfl⟩ : ∃ g1, g1 = gk := ⟨_, rfl⟩
        go_wp2
        go_loopg [4, 48, 75, 86, 106, 128, 140] L.length (fun g' _ _ _ _ _ _ _ wi => Hid (Hn L s w0 p (.slice ca L.length cc) q bv r g1 o g' wi))
        case atStart => exact HN
        case round =>
          obtain ⟨sv, S, nv, N, B, V, ⟨xa, xb, xk⟩, hX, hM, hR, hm, hug, hl, he, hkk⟩ := hrel.out
          clear hrel HN
          have X3 := Lib.hid hX; have M3 := Lib.hid hM; have R3 := Lib.hid hR; have E3 := Lib.hid he
          obtain ⟨d0, d1⟩ := two_cells hX.O
          obtain ⟨c0, c1, c2, c3, c4, c5⟩ := six_cells hX.W.P
          by_cases hop : 0 ≤ xa ∧ xa < L.length ∧ B[xa.toNat]? ≠ some (q : Int)
          · obtain ⟨h0, h1, h2⟩ := hop
            obtain ⟨n', rfl⟩ : ∃ n' : Nat, xa = n' := ⟨xa.toNat, by omega⟩
            have hnl : n' < L.length := by omega
            obtain ⟨v, hv⟩ : ∃ v, B[n']? = some v := ⟨_, List.getElem?_eq_getElem (by rw [hM.len]; exact hnl)⟩
            have hvq : v ≠ q := fun e => h2 (by rw [← e]; simpa using hv)
            obtain ⟨i, hi⟩ : ∃ i, L[n']? = some i := ⟨_, List.getElem?_eq_getElem hnl⟩
            have CE := Lib.hid (cEntersYes L ca cc n' v wr hX.W hM.len hnl hv hvq)
            have HO := Lib.hid (hM.opn (x := ⟨(n' : Int), xb, xk⟩) rfl hi hv hvq)
            have MS := Lib.hid (hM.set n')
            have US := unm_set B q n' v hv hvq
            have HI := Lib.hid hi
            clear hX hM hR he hv hvq hi h0 h1 h2
            go_upto_region 6 with (go_at_call 37; (with_reducible refine (CE.out).mono ?_); rintro e w4 ⟨rfl, g4, W4⟩)
            have X4 := Lib.hid (X3.out.marked g4 W4)
            clear c0 c1 c2 c3 c4 c5 d0 d1 CE g4 W4 X3
            obtain ⟨cb, off, rfl, hcc⟩ := (HC.out.grown X4.out.W.G).at HI.out
            have k0 : w4.cell? ⟨cb, off + n' * 7, none⟩ = some (.int .i64 i.o) := hcc 0 _ rfl
            obtain ⟨d0, d1⟩ := two_cells X4.out.O
            obtain ⟨c0, c1, c2, c3, c4, c5⟩ := six_cells X4.out.W.P
            have fo := four_free X4.out.O
            clear hcc
            go_quiet (fail)
            go_upto_region 8 with fail
            have X5 := Lib.hid ((X4.out.grown (grown_drewN (World.grownBy.refl w4 none) nq)).setA ((n' : Int) + 1))
            clear c0 c1 c2 c3 c4 c5 d0 d1 fo k0 X4
            generalize (w4.drewN nq).setCell _ _ = w5 at X5 ⊢
            obtain ⟨cb', off', ecb, hcc⟩ := (HC.out.grown X5.out.W.G).at HI.out
            cases ecb
            have k0 : w5.cell? ⟨cb, off + n' * 7, none⟩ = some (.int .i64 i.o) := hcc 0 _ rfl
            have k1 := hcc 1 _ rfl
            have k2 := hcc 2 _ rfl
            have k3 := hcc 3 _ rfl
            have k4 := hcc 4 _ rfl
            have k5 := hcc 5 _ rfl
            have k6 := hcc 6 _ rfl
            clear hcc
            obtain ⟨d0, d1⟩ := two_cells X5.out.O
            obtain ⟨c0, c1, c2, c3, c4, c5⟩ := six_cells X5.out.W.P
            have fo := four_free X5.out.O
            have fp := four_free X5.out.W.P
            have hl2 : N.length + unm (B.set n' q) q ≤ L.length := by omega
            have hm2 : S.length + 2 * unm (B.set n' q) q + 1 ≤ g1 := by omega
            have hu2 : unm (B.set n' q) q < gk := by omega
            have hmS : S.length + 2 * unm (B.set n' q) q + 2 ≤ g1 := by omega
            have hlS : N.length + 1 + unm (B.set n' q) q ≤ L.length := by omega
            clear US
            -- all that ends here
            have HEND := Lib.hid (show stp9 s i (toY q ⟨n', xb, xk⟩) = some [] → ∀ W, Wk w0 p (.slice (some ⟨cb, off, none⟩) L.length cc) s q bv (B.set n' q) sv S nv N W → Ho L s w0 p (.slice (some ⟨cb, off, none⟩) L.length cc) q bv r (S.length + 2 * unm (B.set n' q) q) W from fun hs W hW => ⟨sv, S, nv, N, _, _, hW, MS.out, run9_end R3.out HO.out hs, Nat.le_refl _, hl2, E3.out, by omega⟩)
            have hmE : S.length + 2 * unm (B.set n' q) q < g1 := by omega
            -- all that goes on here
            have HON := Lib.hid (show ∀ a b k, stp9 s i (toY q ⟨n', xb, xk⟩) = some [⟨a, q, k⟩] → ∀ W, Hx w0 p (.slice (some ⟨cb, off, none⟩) L.length cc) s q bv (B.set n' q) sv S nv N o ⟨a, b, k⟩ W → Hn L s w0 p (.slice (some ⟨cb, off, none⟩) L.length cc) q bv r g1 o (unm (B.set n' q) q) W from fun a b k hs W hW => ⟨sv, S, nv, N, _, _, _, hW, MS.out, run9_on R3.out HO.out hs, hm2, Nat.le_refl _, hl2, E3.out, hkk⟩)
            rcases (show i.o = 1 ∨ i.o = 2 ∨ i.o = 3 ∨ i.o = 4 ∨ i.o = 5 ∨ i.o = 6 ∨ i.o = 0 ∨ (i.o ≠ 0 ∧ i.o ≠ 1 ∧ i.o ≠ 2 ∧ i.o ≠ 3 ∧ i.o ≠ 4 ∧ i.o ≠ 5 ∧ i.o ≠ 6) by omega) with ho | ho | ho | ho | ho | ho | ho | ho
            · have HR6 := Lib.hid (run9_split R3.out HO.out ho)
              rw [ho] at k0
              clear ho
              have hSl : S.length ≤ 4000 := by omega
              go_upto_region 9 with fail
              refine reg9 (off := off + n' * 7) (xa := (n' : Int) + 1) (xb := xb) (xk := xk) (yy := i.y) X5.out k2 hSl ?_
              intro v54 v55 v56 v57 v58 v59 v60 v61 v62 v63 v64 v65 v66 v67 v68 v69 wc hcut
              obtain ⟨sv', X7⟩ := hcut.out
              have X7 := Lib.hid X7
              clear c0 c1 c2 c3 c4 c5 d0 d1 fo fp k0 k1 k2 k3 k4 k5 k6 hcut
              obtain ⟨cb', off', ecb, hcc⟩ := (HC.out.grown X7.out.W.G).at HI.out
              cases ecb
              have k1 := hcc 1 _ rfl
              clear hcc
              obtain ⟨d0, d1⟩ := two_cells X7.out.O
              have fo := four_free X7.out.O
              have X8 := Lib.hid (X7.out.setA i.x)
              go_wp2
              go_roundg (unm (B.set n' q) q)
              case measure => exact hu2
              case rel => exact Lib.hid ⟨_, S ++ [⟨i.y, xb, xk⟩], nv, N, _, _, _, X8.out, MS.out, HR6.out, by simp; omega, Nat.le_refl _, hl2, E3.out, hkk⟩
            · have HS2 := Lib.hid (show stp9 s i (toY q ⟨n', xb, xk⟩) = some [⟨i.x, q, xk⟩] by unfold stp9; rw [if_neg (by omega), if_neg (by omega), if_pos ho]; rfl)
              rw [ho] at k0
              clear ho
              have X6 := Lib.hid (X5.out.setA i.x)
              go_wp2
              go_roundg (unm (B.set n' q) q)
              case measure => exact hu2
              case rel => exact Lib.hid (HON.out _ _ _ HS2.out _ X6.out)
            · have HS2 := Lib.hid (show stp9 s i (toY q ⟨n', xb, xk⟩) = some [⟨(n' : Int) + 1, q, keepK xk i.x q⟩] by unfold stp9; rw [if_neg (by omega), if_neg (by omega), if_neg (by omega), if_pos ho]; rfl)
              rw [ho] at k0
              clear ho
              have CW := Lib.hid (cWith xk X5.out.K.hk i.x q)
              have HXK := Lib.hid X5.out.K.hk
              have HBK := Lib.hid (show w5.drew.heap[xb]? = some (.cells (intsV xk).toArray 83 (0, 0)) from X5.out.K.H)
              clear k2 k3 k4 k5 k6 c3 c4 c5 c0 c1 fp
              go_upto_region 14 with fail
              refine wp_region_still_tail 12 (by kernel_rfl) (by kernel_rfl) ?_
              simp only [List.take_succ_cons, List.take_zero, List.drop_succ_cons, List.drop_zero]
              change wpStill _ _ (World.drew w5) _ _ _
              iterate 3 still_step
              refine wpStill_load_row9 (by rfl) 83 (.tmp 94) (by rfl) xb (by rfl) 83 (intsV xk).toArray (0, 0) _ _ HBK.out Tryz.underlying83 (sizePl xk HXK.out) ?_
              repeat still_step
              refine wpStill_nil ?_
              go_wp2_with (go_at_call 38; (with_reducible refine (CW.out _).mono ?_); rintro e w6 ⟨b6, rfl, h6, l6, g6⟩; have G6 : w5.grownBy w6 none := (grown_drew (World.grownBy.refl w5 none)).trans g6; have X6 := Lib.hid (X5.out.grown G6); have K6 := Lib.hid (show Kep w0 b6 (keepK xk i.x q) w6 from ⟨h6, by have := X5.out.W.G.size; have l6' : w5.heap.size ≤ b6 := l6; omega, by rw [keepK_len]; exact X5.out.K.hk⟩); obtain ⟨d0', d1'⟩ := two_cells X6.out.O; have fo6 := four_free X6.out.O; clear h6 l6 g6 G6)
              have X7 := Lib.hid (X6.out.setB K6.out)
              go_roundg (unm (B.set n' q) q)
              case measure => exact hu2
              case rel => exact Lib.hid (HON.out _ _ _ HS2.out _ X7.out)
            · rw [ho] at k0
              by_cases hq0 : q = 0
              · have HS2 := Lib.hid (show stp9 s i (toY q ⟨n', xb, xk⟩) = some [⟨(n' : Int) + 1, q, xk⟩] by unfold stp9; rw [if_neg (by omega), if_neg (by omega), if_neg (by omega), if_neg (by omega), if_pos ho]; show some (if q = 0 then _ else _) = _; rw [if_pos hq0]; rfl)
                have hqb : ((q : Int) == 0) = true := by simpa using hq0
                have HQ := Lib.hid hq0
                clear ho hq0
                go_wp2
                go_roundg (unm (B.set n' q) q)
                case measure => exact hu2
                case rel => exact Lib.hid (HON.out _ _ _ HS2.out _ X5.out)
              · have HS2 := Lib.hid (show stp9 s i (toY q ⟨n', xb, xk⟩) = some [] by unfold stp9; rw [if_neg (by omega), if_neg (by omega), if_neg (by omega), if_neg (by omega), if_pos ho]; show some (if q = 0 then _ else _) = _; rw [if_neg hq0])
                have hqb : ((q : Int) == 0) = false := by simpa using hq0
                clear ho hq0
                go_wp2
                go_quiet (fail)
                go_wp2
                go_roundg (S.length + 2 * unm (B.set n' q) q)
                case measure => exact hmE
                case rel => exact Lib.hid (HEND.out HS2.out _ (X5.out.W.grown (grown_drewN (World.grownBy.refl _ _) _)))
            · rw [ho] at k0
              by_cases hqs : q = s.size
              · have HS2 := Lib.hid (show stp9 s i (toY q ⟨n', xb, xk⟩) = some [⟨(n' : Int) + 1, q, xk⟩] by unfold stp9; rw [if_neg (by omega), if_neg (by omega), if_neg (by omega), if_neg (by omega), if_neg (by omega), if_pos ho]; show some (if q = s.size then _ else _) = _; rw [if_pos hqs]; rfl)
                have CA := Lib.hid (cAtEnd true w5 X5.out.W (by rw [hqs]; simp))
                have HQ := Lib.hid hqs
                clear ho hqs
                go_wp2_with (go_at_call 39; (with_reducible refine (CA.out).mono ?_); rintro e w6 ⟨rfl, g6⟩; have X6 := Lib.hid (X5.out.grown g6); clear g6)
                go_roundg (unm (B.set n' q) q)
                case measure => exact hu2
                case rel => exact Lib.hid (HON.out _ _ _ HS2.out _ X6.out)
              · have HS2 := Lib.hid (show stp9 s i (toY q ⟨n', xb, xk⟩) = some [] by unfold stp9; rw [if_neg (by omega), if_neg (by omega), if_neg (by omega), if_neg (by omega), if_neg (by omega), if_pos ho]; show some (if q = s.size then _ else _) = _; rw [if_neg hqs])
                have CA := Lib.hid (cAtEnd false w5 X5.out.W (by simp; omega))
                clear ho hqs
                go_wp2_with (go_at_call 39; (with_reducible refine (CA.out).mono ?_); rintro e w6 ⟨rfl, g6⟩; have X6 := Lib.hid (X5.out.grown g6); have k0' := g6.cell k0 (by simp); clear g6)
                go_quiet (fail)
                go_wp2
                go_roundg (S.length + 2 * unm (B.set n' q) q)
                case measure => exact hmE
                case rel => exact Lib.hid (HEND.out HS2.out _ (X6.out.W.grown (grown_drewN (World.grownBy.refl _ _) _)))
            · rw [ho] at k0
              by_cases hqs : q = s.size
              · have CA := Lib.hid (cAtEnd true w5 X5.out.W (by rw [hqs]; simp))
                have HRW := Lib.hid (show r = some xk by
                  have := R3.out
                  rw [E3.out hqs] at this
                  exact run9_win this HO.out ho hqs)
                have HQ := Lib.hid hqs
                clear ho hqs
                go_wp2_with (go_at_call 39; (with_reducible refine (CA.out).mono ?_); rintro e w6 ⟨rfl, g6⟩; have X6 := Lib.hid (X5.out.grown g6); have d1' := g6.cell d1 (by simp); clear g6)
                rw [Exit.noGoto_ret]
                go_ret
                exact .inl ⟨xb, xk, rfl, HRW.out, X6.out.K, X6.out.W.G⟩
              · have HS2 := Lib.hid (show stp9 s i (toY q ⟨n', xb, xk⟩) = some [] by unfold stp9; rw [if_neg (by omega), if_neg (by omega), if_neg (by omega), if_neg (by omega), if_neg (by omega), if_neg (by omega), if_pos ho]; exact if_neg hqs)
                have CA := Lib.hid (cAtEnd false w5 X5.out.W (by simp; omega))
                clear ho hqs
                go_wp2_with (go_at_call 39; (with_reducible refine (CA.out).mono ?_); rintro e w6 ⟨rfl, g6⟩; have X6 := Lib.hid (X5.out.grown g6); have k0' := g6.cell k0 (by simp); clear g6)
                go_quiet (fail)
                go_wp2
                go_roundg (S.length + 2 * unm (B.set n' q) q)
                case measure => exact hmE
                case rel => exact Lib.hid (HEND.out HS2.out _ (X6.out.W.grown (grown_drewN (World.grownBy.refl _ _) _)))
            · rw [ho] at k0
              have u0 : ∀ u : Gr w5, u.W.cell? ⟨cb, off + n' * 7, none⟩ = some (.int .i64 0) := fun u => u.g.cell k0 (by simp)
              have u3 : ∀ u : Gr w5, u.W.cell? ⟨cb, off + n' * 7 + 3, none⟩ = _ := fun u => u.g.cell k3 (by simp)
              have u4 : ∀ u : Gr w5, u.W.cell? ⟨cb, off + n' * 7 + 4, none⟩ = _ := fun u => u.g.cell k4 (by simp)
              have u5 : ∀ u : Gr w5, u.W.cell? ⟨cb, off + n' * 7 + 5, none⟩ = _ := fun u => u.g.cell k5 (by simp)
              have u6 : ∀ u : Gr w5, u.W.cell? ⟨cb, off + n' * 7 + 6, none⟩ = _ := fun u => u.g.cell k6 (by simp)
              have v1 : ∀ u : Gr w5, u.W.cell? ⟨p, 1, none⟩ = _ := fun u => u.g.cell c1 (by simp)
              have v2 : ∀ u : Gr w5, u.W.cell? ⟨p, 2, none⟩ = _ := fun u => u.g.cell c2 (by simp)
              have inst : Nonempty (Gr w5) := ⟨⟨w5, World.grownBy.refl _ _⟩⟩
              by_cases hqs : q = s.size
              · have HS2 := Lib.hid (show stp9 s i (toY q ⟨n', xb, xk⟩) = some [] by
                  unfold stp9; rw [if_pos ho]; show some (if byt9 s q i.s then _ else _) = _
                  rw [show byt9 s q i.s = false by unfold byt9; rw [dif_neg (by omega)]]; rfl)
                have CA := Lib.hid (fun u : Gr w5 => cAtEnd true u.W (X5.out.grown u.g).W (by rw [hqs]; simp))
                have CH := Lib.hid (fun _ : Nat => True.intro)
                have HQ := Lib.hid hqs
                clear ho hqs
                go_upto_region 19 with fail
                refine wp_region_grows (by kernel_rfl) (by kernel_rfl) ?_
                repeat (go_big_quiet_step (first
                  | (go_at_call 39; refine (CA.out _).mono ?_; rintro e w9 ⟨he, g9⟩; exact ⟨he, ⟨_, (Gr.g _).trans g9⟩, rfl⟩)
                  | (go_at_call 40; refine (CH.out _).mono ?_; rintro e w9 ⟨he, g9⟩; exact ⟨he, ⟨_, (Gr.g _).trans g9⟩, rfl⟩)))
                refine wpQuiet_nil ?_
                rintro w9 ⟨⟨_, g9⟩, rfl⟩
                have X6 := Lib.hid (X5.out.grown g9)
                go_wp2
                go_roundg (S.length + 2 * unm (B.set n' q) q)
                case measure => exact hmE
                case rel => exact Lib.hid (HEND.out HS2.out _ X6.out.W)
              · have hql : q < s.size := by omega
                have h256 : (s[q]).toNat < 256 := UInt8.toNat_lt _
                have CA := Lib.hid (fun u : Gr w5 => cAtEnd false u.W (X5.out.grown u.g).W (by simp; omega))
                cases hb : inn i.s (s[q]).toNat
                · have HS2 := Lib.hid (show stp9 s i (toY q ⟨n', xb, xk⟩) = some [] by
                    unfold stp9; rw [if_pos ho]; show some (if byt9 s q i.s then _ else _) = _
                    rw [show byt9 s q i.s = false by unfold byt9; rw [dif_pos hql]; exact hb]; rfl)
                  have CH := Lib.hid (fun u : Gr w5 => hb ▸ cHas i.s (s[q]).toNat u.W h256)
                  clear ho hb hqs
                  go_upto_region 19 with fail
                  refine wp_region_grows (by kernel_rfl) (by kernel_rfl) ?_
                  repeat (go_big_quiet_step (first
                  | (go_at_call 39; refine (CA.out _).mono ?_; rintro e w9 ⟨he, g9⟩; exact ⟨he, ⟨_, (Gr.g _).trans g9⟩, rfl⟩)
                  | (go_at_call 40; refine (CH.out _).mono ?_; rintro e w9 ⟨he, g9⟩; exact ⟨he, ⟨_, (Gr.g _).trans g9⟩, rfl⟩)))
                  refine wpQuiet_nil ?_
                  rintro w9 ⟨⟨_, g9⟩, rfl⟩
                  have X6 := Lib.hid (X5.out.grown g9)
                  go_wp2
                  go_roundg (S.length + 2 * unm (B.set n' q) q)
                  case measure => exact hmE
                  case rel => exact Lib.hid (HEND.out HS2.out _ X6.out.W)
                · have HR6 := Lib.hid (run9_byte R3.out HO.out ho (show byt9 s q i.s = true by unfold byt9; rw [dif_pos hql]; exact hb))
                  have CH := Lib.hid (fun u : Gr w5 => hb ▸ cHas i.s (s[q]).toNat u.W h256)
                  clear ho hb
                  go_upto_region 19 with fail
                  refine wp_region_grows (by kernel_rfl) (by kernel_rfl) ?_
                  repeat (go_big_quiet_step (first
                  | (go_at_call 39; refine (CA.out _).mono ?_; rintro e w9 ⟨he, g9⟩; exact ⟨he, ⟨_, (Gr.g _).trans g9⟩, rfl⟩)
                  | (go_at_call 40; refine (CH.out _).mono ?_; rintro e w9 ⟨he, g9⟩; exact ⟨he, ⟨_, (Gr.g _).trans g9⟩, rfl⟩)))
                  refine wpQuiet_nil ?_
                  rintro w9 ⟨⟨_, g9⟩, rfl⟩
                  have X6 := Lib.hid (X5.out.grown g9)
                  clear c0 c1 c2 c3 c4 c5 d0 d1 fo fp k0 k1 k2 k3 k4 k5 k6 u0 u3 u4 u5 u6 v1 v2 inst CA CH
                  have hSl : N.length ≤ 4000 := by omega
                  obtain ⟨d0, d1⟩ := two_cells X6.out.O
                  go_upto_region 20 with fail
                  refine reg20 (xa := (n' : Int) + 1) (xb := xb) (xk := xk) X6.out hSl ?_
                  intro v167 v168 v169 v170 v171 v172 v173 v174 v175 v176 wc hcut
                  obtain ⟨nv', X7⟩ := hcut.out
                  have X7 := Lib.hid X7
                  clear d0 d1 hcut
                  go_wp2
                  go_roundg (S.length + 2 * unm (B.set n' q) q)
                  case measure => exact hmE
                  case rel => exact Lib.hid ⟨_, S, _, N ++ [⟨(n' : Int) + 1, xb, xk⟩], _, _, X7.out, MS.out, HR6.out, Nat.le_refl _, by simp; omega, fun e => by omega, by omega⟩
            · obtain ⟨n0, n1, n2, n3, n4, n5, n6⟩ := ho
              have HS2 := Lib.hid (show stp9 s i (toY q ⟨n', xb, xk⟩) = some [] by unfold stp9; rw [if_neg n0, if_neg n1, if_neg n2, if_neg n3, if_neg n4, if_neg n5, if_neg n6])
              generalize i.o = io at k0 n0 n1 n2 n3 n4 n5 n6
              have e0 : (io == 0) = false := by simpa using n0
              have e1 : (io == 1) = false := by simpa using n1
              have e2 : (io == 2) = false := by simpa using n2
              have e3 : (io == 3) = false := by simpa using n3
              have e4 : (io == 4) = false := by simpa using n4
              have e5 : (io == 5) = false := by simpa using n5
              have e6 : (io == 6) = false := by simpa using n6
              clear n0 n1 n2 n3 n4 n5 n6
              go_wp2
              go_quiet (fail)
              go_wp2
              go_roundg (S.length + 2 * unm (B.set n' q) q)
              case measure => exact hmE
              case rel => exact Lib.hid (HEND.out HS2.out _ (X5.out.W.grown (grown_drewN (World.grownBy.refl _ _) _)))
          · have CE := Lib.hid (cEntersNo L ca cc xa wr hX.W hM.len (by
              rcases Int.lt_or_le xa 0 with h | h
              · exact .inl h
              · rcases Int.lt_or_le xa L.length with h1 | h1
                · exact .inr (.inr ⟨h, h1, Classical.not_not.1 fun h2 => hop ⟨h, h1, h2⟩⟩)
                · exact .inr (.inl h1)))
            have HB := Lib.hid (hM.blk (x := ⟨xa, xb, xk⟩) (by
              rcases Int.lt_or_le xa 0 with h | h
              · exact .inl h
              · rcases Int.lt_or_le xa L.length with h1 | h1
                · exact .inr (.inr ⟨h, h1, Classical.not_not.1 fun h2 => hop ⟨h, h1, h2⟩⟩)
                · exact .inr (.inl h1)))
            clear hX hM hR he hop
            go_wp2_with (go_at_call 37; (with_reducible refine (CE.out).mono ?_); rintro e w4 ⟨rfl, g4⟩; have X4 := Lib.hid (X3.out.grown g4); clear g4)
            go_roundg (S.length + 2 * unm B q)
            case measure => omega
            case rel => exact Lib.hid ⟨sv, S, nv, N, B, V, X4.out.W, M3.out, run9_skip R3.out HB.out, Nat.le_refl _, hl, E3.out, by omega⟩
end Go.Proofs.YtlkjejmmoalliaaGreatDoor

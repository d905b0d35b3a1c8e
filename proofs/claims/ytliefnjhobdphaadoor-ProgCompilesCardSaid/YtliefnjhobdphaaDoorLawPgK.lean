/- The law ProgCompiles, walked. -/
import Derived.Test.YtliefnjhobdphaaDoorPgOf
import Derived.Test.YtliefnjhobdphaaDoorPgDProg
import Derived.Test.YtliefnjhobdphaaDoorPgLOf
import Derived.Test.YtliefnjhobdphaaDoorErrNum
import Derived.Deep.RegionHeld3
namespace Go.Proofs.YtliefnjhobdphaaDoor
open Go.RowKit

set_option maxRecDepth 100000 in
set_option maxHeartbeats 8000000 in
theorem lProgCompiles (A : Nat → Addr) (n : Ni) (a : Option Addr) (m c : Nat) (w : World) (hE : QEnv A w) (hN : ErrEnv A w) (hK : KidsE w (.slice a m c) n.kids) :
    Calls Tryd.prog 4 #[niV n (.slice a m c)] w fun e w' => e = .returned (.bool true) ∧ w.grownBy w' none := by
  have ga := World.grownBy_alloc w (.cells #[.int .i64 n.kind, .int .i64 n.index, .int .u64 (wd n.set 0), .int .u64 (wd n.set 1), .int .u64 (wd n.set 2), .int .u64 (wd n.set 3), .slice a m c] 44) none
  have B1 := Lib.hid (heap_alloc_new w (.cells #[.int .i64 n.kind, .int .i64 n.index, .int .u64 (wd n.set 0), .int .u64 (wd n.set 1), .int .u64 (wd n.set 2), .int .u64 (wd n.set 3), .slice a m c] 44))
  have K1 := Lib.hid (hK.grown ga)
  have E1 := Lib.hid (hE.grown ga)
  have N1 := Lib.hid (hN.later (below_of_grown ga))
  have G1 := Lib.hid ga
  clear ga hE hN hK
  go_enter Tryd.func4, Tryd.ntmps4
  go_upto_region 1 with fail
  generalize w.alloc _ = w1 at B1 K1 E1 N1 G1 ⊢
  generalize w.heap.size = q at B1 ⊢
  have HA := Lib.hid (lAlive8 A w1 E1.out)
  go_upto_region 3 with (go_at_call 6; refine HA.out.mono ?_; rintro e w2 ⟨rfl, g2⟩)
  have B2 := Lib.hid (heap_grown g2 B1.out)
  have K2 := Lib.hid (K1.out.grown g2)
  have E2 := Lib.hid (E1.out.grown g2)
  have N2 := Lib.hid (N1.out.later (below_of_grown g2))
  have G2 := Lib.hid (G1.out.trans g2)
  clear g2 B1 K1 E1 N1 G1 HA
  obtain ⟨c0, c1, c2, c3, c4, c5, c6⟩ := seven_cells B2.out
  have HG := Lib.hid (cGreat n a m c w2 K2.out)
  obtain ⟨y1, y2, y3⟩ := lftN_is n 120 (by omega)
  obtain ⟨t, ht⟩ : ∃ t, t = lftN n 120 := ⟨_, rfl⟩
  rw [← ht] at HG y1 y2 y3
  clear ht
  by_cases htn : t < 0
  · have hd : decide (t < 0) = true := by simpa using htn
    rw [hd] at HG
    clear htn y1 y2 y3 hd
    go_wp2_with (go_at_call 13; (with_reducible refine HG.out.mono ?_); rintro e w3 ⟨rfl, g3⟩; have G3 := Lib.hid (G2.out.trans g3); clear g3)
    go_ret
    exact ⟨rfl, G3.out⟩
  have hd : decide (t < 0) = false := by simpa using htn
  rw [hd] at HG
  have HSZ := Lib.hid (show szN n ≤ 120 by have := y3 (by omega); omega)
  clear htn y1 y2 y3 hd
  go_upto_region 5 with (go_at_call 13; (with_reducible refine HG.out.mono ?_); rintro e w3 ⟨rfl, g3⟩)
  clear c0 c1 c2 c3 c4 c5 c6 HG
  have B3 := Lib.hid (heap_grown g3 B2.out)
  have K3 := Lib.hid (K2.out.grown g3)
  have E3 := Lib.hid (E2.out.grown g3)
  have N3 := Lib.hid (N2.out.later (below_of_grown g3))
  have G3 := Lib.hid (G2.out.trans g3)
  clear g3 B2 K2 E2 N2 G2
  obtain ⟨c0, c1, c2, c3, c4, c5, c6⟩ := seven_cells B3.out
  have HO := Lib.hid (cLawOfI 200 n a m c w3 (by have := HSZ.out; omega) (Nat.le_refl _) K3.out)
  go_upto_region 6 with (go_at_call 14; (with_reducible refine HO.out.mono ?_); rintro e w4 ⟨⟨a4, m4, k4, rfl, hk4⟩, g4⟩)
  clear c0 c1 c2 c3 c4 c5 c6 HO
  have ga := World.grownBy_alloc w4 (.cells #[.int .i64 n.kind, .int .i64 n.index, .int .u64 (wd n.set 0), .int .u64 (wd n.set 1), .int .u64 (wd n.set 2), .int .u64 (wd n.set 3), .slice a4 m4 k4] 32) none
  have gg := g4.trans ga
  have D5 := Lib.hid (heap_alloc_new w4 (.cells #[.int .i64 n.kind, .int .i64 n.index, .int .u64 (wd n.set 0), .int .u64 (wd n.set 1), .int .u64 (wd n.set 2), .int .u64 (wd n.set 3), .slice a4 m4 k4] 32))
  have B5 := Lib.hid (heap_grown gg B3.out)
  have K5 := Lib.hid (K3.out.grown gg)
  have J5 := Lib.hid (hk4.any.grown ga)
  have E5 := Lib.hid (E3.out.grown gg)
  have N5 := Lib.hid (N3.out.later (below_of_grown gg))
  have G5 := Lib.hid (G3.out.trans gg)
  clear ga gg g4 hk4 B3 K3 E3 N3 G3
  generalize w4.heap.size = q5 at D5 ⊢
  generalize w4.alloc _ = w5 at D5 B5 K5 J5 E5 N5 G5 ⊢
  -- what is called, in any world that has grown
  have CR := Lib.hid (fun W (g : w5.grownBy W none) => cRight 200 n a m c W (by have := HSZ.out; omega) (Nat.le_refl _) (K5.out.grown g))
  have DR := Lib.hid (fun W (g : w5.grownBy W none) => dRight 200 n a4 m4 k4 W (by have := HSZ.out; omega) (Nat.le_refl _) (J5.out.grown g))
  have CC := Lib.hid (fun W (g : w5.grownBy W none) => cCompile A n a m c W (by have := HSZ.out; omega) (K5.out.grown g) (E5.out.grown g).Q)
  have CL := Lib.hid (fun W (g : w5.grownBy W none) => cLength n a m c W (by have := HSZ.out; omega) (K5.out.grown g))
  have DL := Lib.hid (fun hr W (g : w5.grownBy W none) => dLength 200 n a4 m4 k4 W (by have := HSZ.out; omega) (Nat.le_refl _) hr (J5.out.grown g))
  have DP := Lib.hid (fun hr hl W (g : w5.grownBy W none) => dProgram n (by have := HSZ.out; omega) hr hl a4 m4 k4 W (J5.out.grown g))
  have HLN := Lib.hid (show lenN n ≤ 480 by have h1 := lenN_le n; have h2 := HSZ.out; omega)
  have HB := Lib.hid (fun W (g : w5.grownBy W none) => (⟨heap_grown g B5.out, heap_grown g D5.out⟩ : W.heap[q]? = _ ∧ W.heap[q5]? = _))
  have Z5 := Lib.hid (World.grownBy.refl w5 none)
  clear B5 D5 K5 J5 E5
  have CN := Lib.hid (fun k hk W (g : w5.grownBy W none) => lNumV A k hk W (N5.out.later (below_of_grown g)))
  clear N5
  have SK := Lib.hid (show ∀ W, w5.grownBy W none → ((W.cell? ⟨q, 0, none⟩ = some (.int .i64 n.kind) ∧ W.cell? ⟨q, 1, none⟩ = some (.int .i64 n.index) ∧ W.cell? ⟨q, 2, none⟩ = some (.int .u64 (wd n.set 0)) ∧ W.cell? ⟨q, 3, none⟩ = some (.int .u64 (wd n.set 1)) ∧ W.cell? ⟨q, 4, none⟩ = some (.int .u64 (wd n.set 2)) ∧ W.cell? ⟨q, 5, none⟩ = some (.int .u64 (wd n.set 3)) ∧ W.cell? ⟨q, 6, none⟩ = some (.slice a m c)) ∧ (W.cell? ⟨q5, 0, none⟩ = some (.int .i64 n.kind) ∧ W.cell? ⟨q5, 1, none⟩ = some (.int .i64 n.index) ∧ W.cell? ⟨q5, 2, none⟩ = some (.int .u64 (wd n.set 0)) ∧ W.cell? ⟨q5, 3, none⟩ = some (.int .u64 (wd n.set 1)) ∧ W.cell? ⟨q5, 4, none⟩ = some (.int .u64 (wd n.set 2)) ∧ W.cell? ⟨q5, 5, none⟩ = some (.int .u64 (wd n.set 3)) ∧ W.cell? ⟨q5, 6, none⟩ = some (.slice a4 m4 k4))) from fun W g => ⟨seven_cells (HB.out W g).1, seven_cells (HB.out W g).2⟩)
  clear HB
  obtain ⟨⟨c0, c1, c2, c3, c4, c5, c6⟩, d0, d1, d2, d3, d4, d5, d6⟩ := SK.out _ Z5.out
  have Z := Z5
  clear Z5
  cases hr : rgtN n
  · have HE := Lib.hid (show cmpE n = 17 ∧ cmpL n = [] by
      have : cmpE n = 17 := by unfold cmpE; rw [hr]; rfl
      exact ⟨this, by unfold cmpL; rw [this]; rfl⟩)
    rw [hr] at CR DR CL
    rw [HE.out.1, HE.out.2] at CC
    have CN2 := Lib.hid (CN.out 17 (by omega))
    clear HE hr DL DP HLN HSZ CN
    obtain ⟨x1, hx1⟩ : ∃ x, x = errV A 17 := ⟨_, rfl⟩
    have CC2 := Lib.hid (show ∀ W, w5.grownBy W none → Calls Tryd.prog 16 #[niV n (.slice a m c)] W fun e w' => (∃ a c, e = .returned (.tuple #[.slice a 0 c, x1])) ∧ W.grownBy w' none from fun W g => (CC.out W g).mono fun e w' h => by
      obtain ⟨⟨a, c, rfl, -⟩, g⟩ := h
      rw [hx1]; exact ⟨⟨a, c, rfl⟩, g⟩)
    rw [← hx1] at CN2
    clear CC hx1
    go_wp2_with ((first
      | (go_at_call 15; (with_reducible refine (DR.out _ Z.out).mono ?_); rintro e wz ⟨rfl, gz⟩)
      | (go_at_call 16; (with_reducible refine (CC2.out _ Z.out).mono ?_); rintro e wz ⟨⟨pa, pc, rfl⟩, gz⟩)
      | (go_at_call 17; (with_reducible refine (CR.out _ Z.out).mono ?_); rintro e wz ⟨rfl, gz⟩)
      | (go_at_call 18; (with_reducible refine (CL.out _ Z.out).mono ?_); rintro e wz ⟨rfl, gz⟩)
      | (go_at_call 9; (with_reducible refine (CN2.out _ Z.out).mono ?_); rintro e wz ⟨rfl, gz⟩)); have Z2 := Lib.hid (Z.out.trans gz); clear gz Z c0 c1 c2 c3 c4 c5 c6 d0 d1 d2 d3 d4 d5 d6; have Z := Z2; clear Z2; obtain ⟨⟨c0, c1, c2, c3, c4, c5, c6⟩, d0, d1, d2, d3, d4, d5, d6⟩ := SK.out _ Z.out)
    go_ret
    exact ⟨rfl, G5.out.trans Z.out⟩
  · rw [hr] at CR DR CL
    have HRN := Lib.hid hr
    have DL2 := Lib.hid (DL.out hr)
    simp only [if_true] at CL
    clear DL
    by_cases h197 : lenN n > 197
    · have HE := Lib.hid (show cmpE n = 10 ∧ cmpL n = [] by
        have : cmpE n = 10 := by unfold cmpE; rw [hr, if_pos rfl, if_pos h197]
        exact ⟨this, by unfold cmpL; rw [this]; rfl⟩)
      rw [HE.out.1, HE.out.2] at CC
      have CN2 := Lib.hid (CN.out 10 (by omega))
      have hln := HLN.out
      have hd : decide ((lenN n : Int) > 197) = true := by simp; omega
      clear HE hr DP HSZ CN HLN h197
      obtain ⟨x1, hx1⟩ : ∃ x, x = errV A 10 := ⟨_, rfl⟩
      have CC2 := Lib.hid (show ∀ W, w5.grownBy W none → Calls Tryd.prog 16 #[niV n (.slice a m c)] W fun e w' => (∃ a c, e = .returned (.tuple #[.slice a 0 c, x1])) ∧ W.grownBy w' none from fun W g => (CC.out W g).mono fun e w' h => by
        obtain ⟨⟨a, c, rfl, -⟩, g⟩ := h
        rw [hx1]; exact ⟨⟨a, c, rfl⟩, g⟩)
      rw [← hx1] at CN2
      clear CC hx1
      go_upto_region 7 with (go_at_call 15; (with_reducible refine (DR.out _ Z.out).mono ?_); rintro e wz ⟨rfl, gz⟩; have Z2 := Lib.hid (Z.out.trans gz); clear gz Z c0 c1 c2 c3 c4 c5 c6 d0 d1 d2 d3 d4 d5 d6; have Z := Z2; clear Z2; obtain ⟨⟨c0, c1, c2, c3, c4, c5, c6⟩, d0, d1, d2, d3, d4, d5, d6⟩ := SK.out _ Z.out)
      go_upto_region 8 with (go_at_call 16; (with_reducible refine (CC2.out _ Z.out).mono ?_); rintro e w7 ⟨⟨pa, pc, rfl⟩, gz⟩; have Z2 := Lib.hid (Z.out.trans gz); clear gz Z c0 c1 c2 c3 c4 c5 c6 d0 d1 d2 d3 d4 d5 d6; have Z := Z2; clear Z2; obtain ⟨⟨c0, c1, c2, c3, c4, c5, c6⟩, d0, d1, d2, d3, d4, d5, d6⟩ := SK.out _ Z.out)
      go_upto_region 12 with (go_at_call 17; (with_reducible refine (CR.out _ Z.out).mono ?_); rintro e wz ⟨rfl, gz⟩; have Z2 := Lib.hid (Z.out.trans gz); clear gz Z c0 c1 c2 c3 c4 c5 c6 d0 d1 d2 d3 d4 d5 d6; have Z := Z2; clear Z2; obtain ⟨⟨c0, c1, c2, c3, c4, c5, c6⟩, d0, d1, d2, d3, d4, d5, d6⟩ := SK.out _ Z.out)
      have gd := grown_drew Z.out
      go_region_held3 (fun W => (W.cell? ⟨q, 0, none⟩ = some (.int .i64 n.kind) ∧ W.cell? ⟨q, 1, none⟩ = some (.int .i64 n.index) ∧ W.cell? ⟨q, 2, none⟩ = some (.int .u64 (wd n.set 0)) ∧ W.cell? ⟨q, 3, none⟩ = some (.int .u64 (wd n.set 1)) ∧ W.cell? ⟨q, 4, none⟩ = some (.int .u64 (wd n.set 2)) ∧ W.cell? ⟨q, 5, none⟩ = some (.int .u64 (wd n.set 3)) ∧ W.cell? ⟨q, 6, none⟩ = some (.slice a m c)) ∧ (W.cell? ⟨q5, 0, none⟩ = some (.int .i64 n.kind) ∧ W.cell? ⟨q5, 1, none⟩ = some (.int .i64 n.index) ∧ W.cell? ⟨q5, 2, none⟩ = some (.int .u64 (wd n.set 0)) ∧ W.cell? ⟨q5, 3, none⟩ = some (.int .u64 (wd n.set 1)) ∧ W.cell? ⟨q5, 4, none⟩ = some (.int .u64 (wd n.set 2)) ∧ W.cell? ⟨q5, 5, none⟩ = some (.int .u64 (wd n.set 3)) ∧ W.cell? ⟨q5, 6, none⟩ = some (.slice a4 m4 k4)))
        (first
          | exact SK.out _ (gd.trans (gx.trans gy))
          | exact SK.out _ (gd.trans gx)
          | exact SK.out _ gd
          | (go_keep; done))
        (first
          | (go_at_call 18; (with_reducible refine (CL.out _ gd).mono ?_); rintro e w9 ⟨rfl, gx⟩)
          | (go_at_call 19; (with_reducible refine (DL2.out _ (gd.trans gx)).mono ?_); rintro e w10 ⟨rfl, gy⟩))
      have Z := Lib.hid (gd.trans (gx.trans gy))
      clear gd gx gy c0 c1 c2 c3 c4 c5 c6 d0 d1 d2 d3 d4 d5 d6
      obtain ⟨⟨c0, c1, c2, c3, c4, c5, c6⟩, d0, d1, d2, d3, d4, d5, d6⟩ := SK.out _ Z.out
      go_wp2_with ((first
        | (go_at_call 19; (with_reducible refine (DL2.out _ Z.out).mono ?_); rintro e wz ⟨rfl, gz⟩)
        | (go_at_call 9; (with_reducible refine (CN2.out _ Z.out).mono ?_); rintro e wz ⟨rfl, gz⟩)); have Z2 := Lib.hid (Z.out.trans gz); clear gz Z c0 c1 c2 c3 c4 c5 c6 d0 d1 d2 d3 d4 d5 d6; have Z := Z2; clear Z2; obtain ⟨⟨c0, c1, c2, c3, c4, c5, c6⟩, d0, d1, d2, d3, d4, d5, d6⟩ := SK.out _ Z.out)
      go_ret
      exact ⟨rfl, G5.out.trans Z.out⟩
    · have HE := Lib.hid (show cmpE n = 0 ∧ cmpL n = prgN n by
        have : cmpE n = 0 := by unfold cmpE; rw [hr, if_pos rfl, if_neg h197]
        exact ⟨this, by unfold cmpL; rw [this]; rfl⟩)
      rw [HE.out.1, HE.out.2] at CC
      have hln : lenN n ≤ 197 := by omega
      have hd : decide ((lenN n : Int) > 197) = false := by simp; omega
      have DP2 := Lib.hid (DP.out hr (by omega))
      have HCB := Lib.hid (prg_closed hr)
      have HPL := Lib.hid (show (prgN n).length ≤ 200 by rw [prg_len hr]; omega)
      clear HE hr DP HSZ CN HLN h197
      obtain ⟨r, hrr⟩ : ∃ r, r = prgN n := ⟨_, rfl⟩
      rw [← hrr] at CC DP2 HCB HPL
      have CC2 := Lib.hid (show ∀ W, w5.grownBy W none → Calls Tryd.prog 16 #[niV n (.slice a m c)] W fun e w' => (∃ a c, e = .returned (.tuple #[.slice a r.length c, .nilIface]) ∧ CRow w' (.slice a r.length c) r) ∧ W.grownBy w' none from fun W g => CC.out W g)
      clear hrr CC
      go_upto_region 7 with (go_at_call 15; (with_reducible refine (DR.out _ Z.out).mono ?_); rintro e wz ⟨rfl, gz⟩; have Z2 := Lib.hid (Z.out.trans gz); clear gz Z c0 c1 c2 c3 c4 c5 c6 d0 d1 d2 d3 d4 d5 d6; have Z := Z2; clear Z2; obtain ⟨⟨c0, c1, c2, c3, c4, c5, c6⟩, d0, d1, d2, d3, d4, d5, d6⟩ := SK.out _ Z.out)
      go_upto_region 8 with (go_at_call 16; (with_reducible refine (CC2.out _ Z.out).mono ?_); rintro e w7 ⟨⟨pa, pc, rfl, hp⟩, gz⟩; have R := Lib.hid hp; clear hp; have Z2 := Lib.hid (Z.out.trans gz); clear gz Z c0 c1 c2 c3 c4 c5 c6 d0 d1 d2 d3 d4 d5 d6; have Z := Z2; clear Z2; obtain ⟨⟨c0, c1, c2, c3, c4, c5, c6⟩, d0, d1, d2, d3, d4, d5, d6⟩ := SK.out _ Z.out)
      go_upto_region 12 with (go_at_call 17; (with_reducible refine (CR.out _ Z.out).mono ?_); rintro e wz ⟨rfl, gz⟩; have R2 := Lib.hid (R.out.grown gz); clear R; have R := R2; clear R2; have Z2 := Lib.hid (Z.out.trans gz); clear gz Z c0 c1 c2 c3 c4 c5 c6 d0 d1 d2 d3 d4 d5 d6; have Z := Z2; clear Z2; obtain ⟨⟨c0, c1, c2, c3, c4, c5, c6⟩, d0, d1, d2, d3, d4, d5, d6⟩ := SK.out _ Z.out)
      have gd := grown_drew Z.out
      go_region_held3 (fun W => (W.cell? ⟨q, 0, none⟩ = some (.int .i64 n.kind) ∧ W.cell? ⟨q, 1, none⟩ = some (.int .i64 n.index) ∧ W.cell? ⟨q, 2, none⟩ = some (.int .u64 (wd n.set 0)) ∧ W.cell? ⟨q, 3, none⟩ = some (.int .u64 (wd n.set 1)) ∧ W.cell? ⟨q, 4, none⟩ = some (.int .u64 (wd n.set 2)) ∧ W.cell? ⟨q, 5, none⟩ = some (.int .u64 (wd n.set 3)) ∧ W.cell? ⟨q, 6, none⟩ = some (.slice a m c)) ∧ (W.cell? ⟨q5, 0, none⟩ = some (.int .i64 n.kind) ∧ W.cell? ⟨q5, 1, none⟩ = some (.int .i64 n.index) ∧ W.cell? ⟨q5, 2, none⟩ = some (.int .u64 (wd n.set 0)) ∧ W.cell? ⟨q5, 3, none⟩ = some (.int .u64 (wd n.set 1)) ∧ W.cell? ⟨q5, 4, none⟩ = some (.int .u64 (wd n.set 2)) ∧ W.cell? ⟨q5, 5, none⟩ = some (.int .u64 (wd n.set 3)) ∧ W.cell? ⟨q5, 6, none⟩ = some (.slice a4 m4 k4)))
        (first
          | exact SK.out _ (gd.trans (gx.trans gy))
          | exact SK.out _ (gd.trans gx)
          | exact SK.out _ gd
          | (go_keep; done))
        (first
          | (go_at_call 18; (with_reducible refine (CL.out _ gd).mono ?_); rintro e w9 ⟨rfl, gx⟩)
          | (go_at_call 19; (with_reducible refine (DL2.out _ (gd.trans gx)).mono ?_); rintro e w10 ⟨rfl, gy⟩))
      have R := Lib.hid (R.out.grown ((grown_drew (World.grownBy.refl _ none)).trans (gx.trans gy)))
      have Z := Lib.hid (gd.trans (gx.trans gy))
      clear gd gx gy c0 c1 c2 c3 c4 c5 c6 d0 d1 d2 d3 d4 d5 d6
      obtain ⟨⟨c0, c1, c2, c3, c4, c5, c6⟩, d0, d1, d2, d3, d4, d5, d6⟩ := SK.out _ Z.out
      have hpl := HPL.out
      go_wp2_with (first
        | (go_at_call 19; (with_reducible refine (DL2.out _ Z.out).mono ?_); rintro e wz ⟨rfl, gz⟩; have R2 := Lib.hid (R.out.grown gz); clear R; have R := R2; clear R2; have Z2 := Lib.hid (Z.out.trans gz); clear gz Z c0 c1 c2 c3 c4 c5 c6 d0 d1 d2 d3 d4 d5 d6; have Z := Z2; clear Z2; obtain ⟨⟨c0, c1, c2, c3, c4, c5, c6⟩, d0, d1, d2, d3, d4, d5, d6⟩ := SK.out _ Z.out)
        | (go_at_call 10; (with_reducible refine (DP2.out _ Z.out).mono ?_); rintro e wz ⟨⟨v8, rfl, o8⟩, gz⟩; have R2 := Lib.hid (R.out.grown gz); clear R; have R := R2; clear R2; have R8 := Lib.hid (crow_of_owns o8); obtain ⟨va, vc, rfl⟩ := owns_shape o8; have CS := Lib.hid (lSameP _ _ r _ (by unfold maxLen; omega) R.out R8.out); clear o8 R8; have Z2 := Lib.hid (Z.out.trans gz); clear gz Z c0 c1 c2 c3 c4 c5 c6 d0 d1 d2 d3 d4 d5 d6; have Z := Z2; clear Z2; obtain ⟨⟨c0, c1, c2, c3, c4, c5, c6⟩, d0, d1, d2, d3, d4, d5, d6⟩ := SK.out _ Z.out)
        | (go_at_call 11; (with_reducible refine (CS.out).mono ?_); rintro e wz ⟨rfl, gz⟩; have R2 := Lib.hid (R.out.grown gz); clear R; have R := R2; clear R2; have CK := Lib.hid (HCB.out ▸ cClosed _ r _ (by unfold maxLen; omega) R.out); clear CS; have Z2 := Lib.hid (Z.out.trans gz); clear gz Z c0 c1 c2 c3 c4 c5 c6 d0 d1 d2 d3 d4 d5 d6; have Z := Z2; clear Z2; obtain ⟨⟨c0, c1, c2, c3, c4, c5, c6⟩, d0, d1, d2, d3, d4, d5, d6⟩ := SK.out _ Z.out)
        | (go_at_call 12; (with_reducible refine (CK.out).mono ?_); rintro e wz ⟨rfl, gz⟩; have Z2 := Lib.hid (Z.out.trans gz); clear gz Z c0 c1 c2 c3 c4 c5 c6 d0 d1 d2 d3 d4 d5 d6; have Z := Z2; clear Z2; obtain ⟨⟨c0, c1, c2, c3, c4, c5, c6⟩, d0, d1, d2, d3, d4, d5, d6⟩ := SK.out _ Z.out))
      go_ret
      exact ⟨rfl, G5.out.trans Z.out⟩
end Go.Proofs.YtliefnjhobdphaaDoor

/- The law DenoteFirst, walked. -/
import Derived.Test.YtlkjejmmoalliaaDoorDenAlive
import Derived.Test.YtlkjejmmoalliaaDoorDenDFs
import Derived.Test.YtlkjejmmoalliaaDoorPgLenL
import Derived.Test.YtlkjejmmoalliaaDoorPgLOf
import Derived.Test.YtlkjejmmoalliaaDoorPgDoc
import Derived.Test.YtlkjejmmoalliaaDoorClsE
namespace Go.Proofs.YtlkjejmmoalliaaDoor
open Go.RowKit

theorem eqS10 (A : BitVec 256) (w : World) : (Op.equalIn 10000 23 (setV A) (setV A)).run Tryd.prog w = .ok true w := by
  rw [eq_run _ Tryd.underlying23]; simp
set_option maxRecDepth 100000 in
set_option maxHeartbeats 8000000 in
theorem lDenoteFirst (A : Nat → Addr) (n : Ni) (a : Option Addr) (m c : Nat) (s : ByteArray) (w : World) (hE : PEnv A w) (hS : s.size ≤ maxLen) (hK : KidsE w (.slice a m c) n.kids) :
    Calls Tryd.prog 5 #[niV n (.slice a m c), .string s] w fun e w' => e = .returned (.bool true) ∧ w.grownBy w' none := by
  have HSM := Lib.hid hS
  clear hS
  have ga := World.grownBy_alloc w (.cells #[.int .i64 n.kind, .int .i64 n.index, .int .u64 (wd n.set 0), .int .u64 (wd n.set 1), .int .u64 (wd n.set 2), .int .u64 (wd n.set 3), .slice a m c] 27) none
  have B1 := Lib.hid (heap_alloc_new w (.cells #[.int .i64 n.kind, .int .i64 n.index, .int .u64 (wd n.set 0), .int .u64 (wd n.set 1), .int .u64 (wd n.set 2), .int .u64 (wd n.set 3), .slice a m c] 27))
  have K1 := Lib.hid (hK.grown ga)
  have E1 := Lib.hid (hE.grown ga)
  have G1 := Lib.hid ga
  clear ga hE hK
  go_enter Tryd.func5, Tryd.ntmps5
  go_upto_region 1 with fail
  generalize w.alloc _ = w1 at B1 K1 E1 G1 ⊢
  generalize w.heap.size = q at B1 ⊢
  have HA := Lib.hid (lAlive10 A w1 E1.out)
  go_upto_region 3 with (go_at_call 6; refine HA.out.mono ?_; rintro e w2 ⟨rfl, g2⟩)
  have B2 := Lib.hid (heap_grown g2 B1.out)
  have K2 := Lib.hid (K1.out.grown g2)
  have G2 := Lib.hid (G1.out.trans g2)
  clear g2 B1 K1 E1 G1 HA
  by_cases hs8 : (s.size : Int) > 16
  · go_wp2
    go_ret
    exact ⟨rfl, G2.out⟩
  obtain ⟨c0, c1, c2, c3, c4, c5, c6⟩ := seven_cells B2.out
  have HG := Lib.hid (cGreatT n 40 a m c w2 (by omega) (by omega) K2.out)
  obtain ⟨y1, y2, y3⟩ := lftN_is n 40 (by omega)
  obtain ⟨t, ht⟩ : ∃ t, t = lftN n 40 := ⟨_, rfl⟩
  rw [← ht] at HG y1 y2 y3
  clear ht
  by_cases htn : t < 0
  · have hd : decide (t < 0) = true := by simpa using htn
    rw [hd] at HG
    clear htn y1 y2 y3 hd
    go_wp2_with (go_at_call 7; (with_reducible refine HG.out.mono ?_); rintro e w3 ⟨rfl, g3⟩; have G3 := Lib.hid (G2.out.trans g3); clear g3)
    go_ret
    exact ⟨rfl, G3.out⟩
  have hd : decide (t < 0) = false := by simpa using htn
  rw [hd] at HG
  have HSZ := Lib.hid (show szN n ≤ 40 by have := y3 (by omega); omega)
  clear htn y1 y2 y3 hd
  go_upto_region 5 with (go_at_call 7; (with_reducible refine HG.out.mono ?_); rintro e w3 ⟨rfl, g3⟩)
  clear c0 c1 c2 c3 c4 c5 c6 HG
  have B3 := Lib.hid (heap_grown g3 B2.out)
  have K3 := Lib.hid (K2.out.grown g3)
  have G3 := Lib.hid (G2.out.trans g3)
  clear g3 B2 K2 G2
  obtain ⟨c0, c1, c2, c3, c4, c5, c6⟩ := seven_cells B3.out
  have HO := Lib.hid (cLawOfI 200 n a m c w3 (by have := HSZ.out; omega) (Nat.le_refl _) K3.out)
  go_upto_region 6 with (go_at_call 8; (with_reducible refine HO.out.mono ?_); rintro e w4 ⟨⟨a4, m4, k4, rfl, hk4⟩, g4⟩)
  clear c0 c1 c2 c3 c4 c5 c6 HO
  have ga := World.grownBy_alloc w4 (.cells #[.int .i64 n.kind, .int .i64 n.index, .int .u64 (wd n.set 0), .int .u64 (wd n.set 1), .int .u64 (wd n.set 2), .int .u64 (wd n.set 3), .slice a4 m4 k4] 32) none
  have gg := g4.trans ga
  have D5 := Lib.hid (heap_alloc_new w4 (.cells #[.int .i64 n.kind, .int .i64 n.index, .int .u64 (wd n.set 0), .int .u64 (wd n.set 1), .int .u64 (wd n.set 2), .int .u64 (wd n.set 3), .slice a4 m4 k4] 32))
  have B5 := Lib.hid (heap_grown gg B3.out)
  have K5 := Lib.hid (K3.out.grown gg)
  have J5 := Lib.hid (hk4.any.grown ga)
  have G5 := Lib.hid (G3.out.trans gg)
  clear ga gg g4 hk4 B3 K3 G3
  generalize w4.heap.size = q5 at D5 ⊢
  generalize w4.alloc _ = w5 at D5 B5 K5 J5 G5 ⊢
  have CF := Lib.hid (cFirstD n a m c w5 (by have := HSZ.out; omega) K5.out)
  have CE := Lib.hid (fun (fr : Nat) W (g : w5.grownBy W none) => cEndsF n a m c fr s W (by have := HSZ.out; omega) (by omega) (K5.out.grown g))
  have DR := Lib.hid (fun W (g : w5.grownBy W none) => dRight 200 n a4 m4 k4 W (by have := HSZ.out; omega) (Nat.le_refl _) (J5.out.grown g))
  have DF := Lib.hid (fun W (g : w5.grownBy W none) => dFirst 200 (by omega) n a4 m4 k4 W (by have := HSZ.out; omega) (J5.out.grown g))
  have SK := Lib.hid (show ∀ W, w5.grownBy W none → ((W.cell? ⟨q, 0, none⟩ = some (.int .i64 n.kind) ∧ W.cell? ⟨q, 1, none⟩ = some (.int .i64 n.index) ∧ W.cell? ⟨q, 2, none⟩ = some (.int .u64 (wd n.set 0)) ∧ W.cell? ⟨q, 3, none⟩ = some (.int .u64 (wd n.set 1)) ∧ W.cell? ⟨q, 4, none⟩ = some (.int .u64 (wd n.set 2)) ∧ W.cell? ⟨q, 5, none⟩ = some (.int .u64 (wd n.set 3)) ∧ W.cell? ⟨q, 6, none⟩ = some (.slice a m c)) ∧ (W.cell? ⟨q5, 0, none⟩ = some (.int .i64 n.kind) ∧ W.cell? ⟨q5, 1, none⟩ = some (.int .i64 n.index) ∧ W.cell? ⟨q5, 2, none⟩ = some (.int .u64 (wd n.set 0)) ∧ W.cell? ⟨q5, 3, none⟩ = some (.int .u64 (wd n.set 1)) ∧ W.cell? ⟨q5, 4, none⟩ = some (.int .u64 (wd n.set 2)) ∧ W.cell? ⟨q5, 5, none⟩ = some (.int .u64 (wd n.set 3)) ∧ W.cell? ⟨q5, 6, none⟩ = some (.slice a4 m4 k4))) from fun W g => ⟨seven_cells (heap_grown g B5.out), seven_cells (heap_grown g D5.out)⟩)
  clear D5 B5 K5 J5
  obtain ⟨⟨c0, c1, c2, c3, c4, c5, c6⟩, -⟩ := SK.out _ (World.grownBy.refl _ _)
  have HFD := Lib.hid (show fstD n = if rgtN n then firN n else emp from rfl)
  generalize fstD n = F at HFD CF
  go_upto_region 7 with (go_at_call 20; (with_reducible refine (CF.out).mono ?_); rintro e w6 ⟨rfl, g6⟩)
  have gF := World.grownBy_alloc w6 (.cells #[.int .u64 (wd F 0), .int .u64 (wd F 1), .int .u64 (wd F 2), .int .u64 (wd F 3)] 24) none
  have F7 := Lib.hid (heap_alloc_new w6 (.cells #[.int .u64 (wd F 0), .int .u64 (wd F 1), .int .u64 (wd F 2), .int .u64 (wd F 3)] 24))
  have Z7 := Lib.hid (g6.trans gF)
  clear gF g6 c0 c1 c2 c3 c4 c5 c6 CF
  generalize w6.alloc _ = w7 at F7 Z7 ⊢
  generalize w6.heap.size = qf at F7 ⊢
  have SF := Lib.hid (fun W (g : w7.grownBy W none) => set_of_block (heap_grown g F7.out))
  clear F7
  obtain ⟨-, d0, d1, d2, d3, d4, d5, d6⟩ := SK.out _ Z7.out
  have DR2 := DR.out w7 Z7.out
  cases hr : rgtN n
  · rw [hr] at DR2
    obtain rfl : F = emp := by rw [HFD.out, hr]; rfl
    have DR3 := Lib.hid DR2
    clear DR2 hr HFD CE DF DR
    have CEm := Lib.hid (fun w => cEmpty emp w)
    go_wp2_with (first
      | (go_at_call 9; (with_reducible refine (DR3.out).mono ?_); rintro e w8 ⟨rfl, g8⟩; obtain ⟨f0, f1, f2, f3⟩ := SF.out w8 g8; have G8 := Lib.hid (Z7.out.trans g8); clear g8)
      | (go_at_call 21; (with_reducible refine (CEm.out _).mono ?_); rintro e w9 ⟨rfl, g9⟩; have G9 := Lib.hid (G8.out.trans g9); clear g9))
    go_ret
    exact ⟨by simp, G5.out.trans G9.out⟩
  · rw [hr] at DR2
    obtain rfl : F = firN n := by rw [HFD.out, hr]; rfl
    have DR3 := Lib.hid DR2
    have HRR := Lib.hid hr
    clear DR2 hr HFD DR
    go_upto_region 9 with (go_at_call 9; (with_reducible refine (DR3.out).mono ?_); rintro e w8 ⟨rfl, g8⟩; have Y8 := Lib.hid g8; have G8 := Lib.hid (Z7.out.trans g8); clear g8)
    clear d0 d1 d2 d3 d4 d5 d6
    have HSP := Lib.hid (fun i j h1 h2 h3 => sp_first s n i j HRR.out h1 h2 h3)
    generalize firN n = F at *
    have inst : Nonempty (Gr w8) := ⟨⟨w8, World.grownBy.refl _ _⟩⟩
    have u0 : ∀ u : Gr w8, u.W.cell? ⟨qf, 0, none⟩ = _ := fun u => (SF.out u.W (Y8.out.trans u.g)).c0
    have u1 : ∀ u : Gr w8, u.W.cell? ⟨qf, 1, none⟩ = _ := fun u => (SF.out u.W (Y8.out.trans u.g)).c1
    have u2 : ∀ u : Gr w8, u.W.cell? ⟨qf, 2, none⟩ = _ := fun u => (SF.out u.W (Y8.out.trans u.g)).c2
    have u3 : ∀ u : Gr w8, u.W.cell? ⟨qf, 3, none⟩ = _ := fun u => (SF.out u.W (Y8.out.trans u.g)).c3
    have d0 : ∀ u : Gr w8, u.W.cell? ⟨q5, 0, none⟩ = _ := fun u => (SK.out u.W (G8.out.trans u.g)).2.1
    have d1 : ∀ u : Gr w8, u.W.cell? ⟨q5, 1, none⟩ = _ := fun u => (SK.out u.W (G8.out.trans u.g)).2.2.1
    have d2 : ∀ u : Gr w8, u.W.cell? ⟨q5, 2, none⟩ = _ := fun u => (SK.out u.W (G8.out.trans u.g)).2.2.2.1
    have d3 : ∀ u : Gr w8, u.W.cell? ⟨q5, 3, none⟩ = _ := fun u => (SK.out u.W (G8.out.trans u.g)).2.2.2.2.1
    have d4 : ∀ u : Gr w8, u.W.cell? ⟨q5, 4, none⟩ = _ := fun u => (SK.out u.W (G8.out.trans u.g)).2.2.2.2.2.1
    have d5 : ∀ u : Gr w8, u.W.cell? ⟨q5, 5, none⟩ = _ := fun u => (SK.out u.W (G8.out.trans u.g)).2.2.2.2.2.2.1
    have d6 : ∀ u : Gr w8, u.W.cell? ⟨q5, 6, none⟩ = _ := fun u => (SK.out u.W (G8.out.trans u.g)).2.2.2.2.2.2.2
    have q1 := eqS10 F
    have DF2 := Lib.hid (fun u : Gr w8 => DF.out u.W (G8.out.trans u.g))
    refine wp_region_grows (by kernel_rfl) (by kernel_rfl) ?_
    repeat (go_big_quiet_step (first | (go_at_call 22; (with_reducible refine (DF2.out _).mono ?_); rintro e w9 ⟨he, g9⟩; exact ⟨he, ⟨_, (Gr.g _).trans g9⟩, rfl⟩)))
    refine wpQuiet_nil ?_
    rintro w9 ⟨⟨_, g9⟩, rfl⟩
    have Y9 := Lib.hid (Y8.out.trans g9)
    have G9 := Lib.hid (G8.out.trans g9)
    clear g9 u0 u1 u2 u3 d0 d1 d2 d3 d4 d5 d6 q1 DF2 inst
    go_wp2
    have hs16 : s.size ≤ 16 := by omega
    clear hs8
    go_loopw [7] (fun i wr => ∃ f : Nat, f ≤ s.size ∧ i = .int .i64 f ∧ Hid (w7.grownBy wr none)) (fun i _ => s.size - (intOf i).toNat)
    case atStart => exact ⟨0, Nat.zero_le _, rfl, Y9⟩
    case round =>
      obtain ⟨f, hf, rfl, hY⟩ := hrel
      by_cases hlt : f < s.size
      · have CE2 := Lib.hid (CE.out f wr (Z7.out.trans hY.out))
        obtain ⟨⟨c0, c1, c2, c3, c4, c5, c6⟩, -⟩ := SK.out _ (Z7.out.trans hY.out)
        go_wp2_with (go_at_call 11; (with_reducible refine (CE2.out).mono ?_); rintro e w10 ⟨g10, v, l, rfl, ho, hl⟩; have HE := Lib.hid hl; have I10 := Lib.hid (irow_owns ho); have Y10 := Lib.hid (hY.out.trans g10); have HCL := Lib.hid (show (castN l).length = l.length by simp); have HLE := Lib.hid hl.len; obtain ⟨va, vc, rfl⟩ := owns_shape ho; clear ho hl g10)
        have hll : l.length ≤ 17 := by have := HLE.out; omega
        clear c0 c1 c2 c3 c4 c5 c6
        go_loopw [43] (fun i wi => ∃ j : Nat, j ≤ l.length ∧ i = .int .i64 j ∧ Hid (w10.grownBy wi none)) (fun i _ => l.length - (intOf i).toNat)
        case atStart => exact ⟨0, Nat.zero_le _, rfl, Lib.hid (World.grownBy.refl _ _)⟩
        case round =>
          obtain ⟨j, hj, rfl, hG⟩ := hrel
          by_cases hjl : j < l.length
          · obtain ⟨r, hr⟩ : ∃ r, l[j]? = some r := ⟨_, List.getElem?_eq_getElem hjl⟩
            have HR := Lib.hid ((HE.out.2 r).1 (List.mem_of_getElem? hr))
            obtain ⟨a', c', e1, h1⟩ := I10.out.grown hG.out
            obtain ⟨rfl, rfl⟩ : va = a' ∧ vc = c' := by injection e1 with h1 h2 h3; exact ⟨h1, h3⟩
            obtain ⟨p, o, rfl, z1⟩ := h1 j (r : Int) (by rw [castN, List.getElem?_map, hr]; rfl)
            have YW := Lib.hid (Y10.out.trans hG.out)
            have HIN := Lib.hid (show f < r → inn F (s[f]).toNat = true from fun h => by
              have := HSP.out f r (by omega) h (by simpa using HR.out.2.2.2)
              rwa [byt_at hlt] at this)
            clear h1 hr e1
            go_upto_region 17 with fail
            have inst : Nonempty (Gr wr) := ⟨⟨wr, World.grownBy.refl _ _⟩⟩
            by_cases hfr : f < r
            · have hd : decide ((r : Int) > (f : Int)) = true := by simp; omega
              have u0 : ∀ u : Gr wr, u.W.cell? ⟨qf, 0, none⟩ = _ := fun u => (SF.out u.W (YW.out.trans u.g)).c0
              have u1 : ∀ u : Gr wr, u.W.cell? ⟨qf, 1, none⟩ = _ := fun u => (SF.out u.W (YW.out.trans u.g)).c1
              have u2 : ∀ u : Gr wr, u.W.cell? ⟨qf, 2, none⟩ = _ := fun u => (SF.out u.W (YW.out.trans u.g)).c2
              have u3 : ∀ u : Gr wr, u.W.cell? ⟨qf, 3, none⟩ = _ := fun u => (SF.out u.W (YW.out.trans u.g)).c3
              have CH := fun u : Gr wr => cHas F (s[f]).toNat u.W (UInt8.toNat_lt _)
              rw [HIN.out hfr] at CH
              have CH2 := Lib.hid CH
              clear CH
              refine wp_region_grows (by kernel_rfl) (by kernel_rfl) ?_
              repeat (go_big_quiet_step (first | (go_at_call 23; (with_reducible refine (CH2.out _).mono ?_); rintro e w9 ⟨he, g9⟩; exact ⟨he, ⟨_, (Gr.g _).trans g9⟩, rfl⟩)))
              refine wpQuiet_nil ?_
              rintro w12 ⟨⟨_, g12⟩, rfl⟩
              have G12 := Lib.hid (hG.out.trans g12)
              clear g12 u0 u1 u2 u3 inst hd
              go_wp2
              go_roundw
              case rel => exact ⟨j + 1, by omega, by go_num, G12⟩
              case measure => simp [intOf]; omega
            · have hd : decide ((r : Int) > (f : Int)) = false := by simp; omega
              refine wp_region_grows (by kernel_rfl) (by kernel_rfl) ?_
              repeat (go_big_quiet_step (fail))
              refine wpQuiet_nil ?_
              rintro w12 ⟨⟨_, g12⟩, rfl⟩
              have G12 := Lib.hid (hG.out.trans g12)
              clear g12 inst hd
              go_wp2
              go_roundw
              case rel => exact ⟨j + 1, by omega, by go_num, G12⟩
              case measure => simp [intOf]; omega
          · obtain rfl : j = l.length := by omega
            have YW := Lib.hid (Y10.out.trans hG.out)
            go_wp2
            go_roundw
            case rel => exact ⟨f + 1, by omega, by go_num, YW⟩
            case measure => simp [intOf]; omega
      · go_wp2
        go_ret
        exact ⟨rfl, G5.out.trans (Z7.out.trans hY.out)⟩
end Go.Proofs.YtlkjejmmoalliaaDoor

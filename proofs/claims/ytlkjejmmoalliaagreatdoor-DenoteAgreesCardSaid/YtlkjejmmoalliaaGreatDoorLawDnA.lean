/- The law DenoteAgrees, walked. -/
import Derived.Test.YtlkjejmmoalliaaGreatDoorDenAlive
import Derived.Test.YtlkjejmmoalliaaGreatDoorDenBack
import Derived.Test.YtlkjejmmoalliaaGreatDoorPkMatch
import Derived.Test.YtlkjejmmoalliaaGreatDoorPkEnd
import Derived.Test.YtlkjejmmoalliaaGreatDoorPgOf
namespace Go.Proofs.YtlkjejmmoalliaaGreatDoor
open Go.RowKit

theorem spB_whole {n : Ni} {s : ByteArray} (hr : rgtN n = true) : spB n s 0 s.size = dB (SpN s n 0 s.size) := by
  unfold spB
  exact dB_same ⟨fun ⟨_, _, _, _, h⟩ => by simpa using h, fun h => ⟨by omega, by omega, hr, by omega, by simpa using h⟩⟩
set_option maxRecDepth 100000 in
set_option maxHeartbeats 4000000 in
theorem lDenoteAgrees (A : Nat → Addr) (x s : ByteArray) (w : World) (hE : QEnv A w) :
    Calls Tryz.prog 3 #[.string x, .string s] w fun e w' => e = .returned (.bool true) ∧ w.grownBy w' none := by
  have HA := Lib.hid (lAlive10 A w hE.P)
  have HE := Lib.hid hE
  clear hE
  go_enter Tryz.func3, Tryz.ntmps3
  go_upto_region 3 with (go_at_call 4; refine HA.out.mono ?_; rintro e w1 ⟨rfl, g1⟩)
  have G1 := Lib.hid g1
  have E1 := Lib.hid (HE.out.grown g1)
  clear g1 HA HE
  by_cases hx : (x.size : Int) > 100
  · go_wp2
    go_ret
    exact ⟨rfl, G1.out⟩
  by_cases hs : (s.size : Int) > 60
  · go_wp2
    go_ret
    exact ⟨rfl, G1.out⟩
  have HX := Lib.hid (show x.size ≤ 100 by omega)
  have HS := Lib.hid (show s.size ≤ 60 by omega)
  have CP := Lib.hid (cParseI A x w1 HX.out E1.out.P)
  have CO := Lib.hid (fun W (g : w1.grownBy W none) => cProgOf A x W HX.out (E1.out.grown g))
  have HSZ := Lib.hid (show szN (toI (parN x).1) ≤ 200 by rw [sz_toI]; exact par_siz x)
  by_cases hk : (parN x).2 = 0
  · have hr := (par_right hk).1
    have hln := prg_len hr
    have hl2 := (par_right hk).2
    have HP := Lib.hid (show prgT x = prgN (toI (parN x).1) by unfold prgT; rw [if_pos hk])
    have HL := Lib.hid (show (prgN (toI (parN x).1)).length ≤ 200 by omega)
    obtain ⟨r, hR⟩ := run_total (prgN (toI (parN x).1)) s _ [⟨0, 0, noK⟩] (fun _ _ => false) (by simp) (Nat.le_refl _)
    have hI := run_spans hr hR
    have HB := Lib.hid (show spB (toI (parN x).1) s 0 s.size = r.isSome by
      rw [spB_whole hr, Bool.eq_iff_iff, dB_iff]; exact hI.symm)
    have HR := Lib.hid hR
    rw [hk, errV_zero] at CP
    rw [hk, HP.out] at CO
    have CI := Lib.hid (fun a m c W h => cIn (toI (parN x).1) a m c s W HSZ.out (by have := HS.out; omega) h)
    rw [HB.out] at CI
    clear hR hI hl2 hln hr hk HP HSZ HB
    generalize toI (parN x).1 = n at CP CO HL HR CI
    obtain ⟨L, hL⟩ : ∃ L, L = prgN n := ⟨_, rfl⟩
    rw [← hL] at CO HL HR
    clear hL
    have CO2 := Lib.hid (show ∀ W, w1.grownBy W none → Calls Tryz.prog 6 #[.string x] W fun e w' => (∃ a c, e = .returned (.tuple #[.slice a L.length c, .nilIface]) ∧ CRow w' (.slice a L.length c) L) ∧ W.grownBy w' none from fun W g => CO.out W g)
    clear CO
    go_upto_region 6 with (go_at_call 5; (with_reducible refine (CP.out).mono ?_); rintro e wc ⟨⟨a2, m2, k2, rfl, hK⟩, gc⟩)
    have ga := World.grownBy_alloc wc (.cells #[.int .i64 n.kind, .int .i64 n.index, .int .u64 (wd n.set 0), .int .u64 (wd n.set 1), .int .u64 (wd n.set 2), .int .u64 (wd n.set 3), .slice a2 m2 k2] 28) none
    have B2 := Lib.hid (heap_alloc_new wc (.cells #[.int .i64 n.kind, .int .i64 n.index, .int .u64 (wd n.set 0), .int .u64 (wd n.set 1), .int .u64 (wd n.set 2), .int .u64 (wd n.set 3), .slice a2 m2 k2] 28))
    have K2 := Lib.hid (hK.grown ga)
    have Z2 := Lib.hid (gc.trans ga)
    clear ga gc hK CP
    generalize wc.alloc _ = w2 at B2 K2 Z2 ⊢
    generalize wc.heap.size = q2 at B2 ⊢
    have CO3 := Lib.hid (CO2.out w2 Z2.out)
    clear CO2
    have hs60 : s.size ≤ 60 := HS.out
    have hL200 := HL.out
    clear hx hs
    rcases r with _ | k
    case' none => have HM := Lib.hid (show ∀ a c W, CRow W (.slice a L.length c) L → Calls Tryz.prog 8 #[.slice a L.length c, .string s] W fun e w' => (∃ v, e = .returned (.tuple #[v, .bool false])) ∧ W.grownBy w' none from fun a c W h => (cMatch9 L s a c none W h (by omega) (by omega) HR.out).mono fun e w' ⟨hm, g⟩ => And.intro (by
      rcases hm with ⟨_, rfl⟩ | ⟨_, _, h, _⟩
      · exact ⟨_, rfl⟩
      · cases h) g)
    case' some => have HM := Lib.hid (show ∀ a c W, CRow W (.slice a L.length c) L → Calls Tryz.prog 8 #[.slice a L.length c, .string s] W fun e w' => (∃ v, e = .returned (.tuple #[v, .bool true])) ∧ W.grownBy w' none from fun a c W h => (cMatch9 L s a c (some k) W h (by omega) (by omega) HR.out).mono fun e w' ⟨hm, g⟩ => And.intro (by
      rcases hm with ⟨h, _⟩ | ⟨_, _, _, rfl, _⟩
      · cases h
      · exact ⟨_, rfl⟩) g)
    all_goals
      simp only [Option.isSome_none, Option.isSome_some] at CI
      go_wp2_with (first
        | (go_at_call 6; (with_reducible refine (CO3.out).mono ?_); rintro e w3 ⟨⟨a3, c3, rfl, hC⟩, g3⟩; have HM3 := Lib.hid (HM.out a3 c3 w3 hC); have B3 := Lib.hid (heap_grown g3 B2.out); have K3 := Lib.hid (K2.out.grown g3); have Z3 := Lib.hid (Z2.out.trans g3); clear g3 hC)
        | (go_at_call 8; (with_reducible refine (HM3.out).mono ?_); rintro e w4 ⟨⟨v4, rfl⟩, g4⟩; have CI4 := Lib.hid (CI.out a2 m2 k2 w4 (K3.out.grown g4)); have Z4 := Lib.hid (Z3.out.trans g4); obtain ⟨c0, c1, c2, c3', c4, c5, c6⟩ := seven_cells (heap_grown g4 B3.out); clear g4)
        | (go_at_call 9; (with_reducible refine (CI4.out).mono ?_); rintro e w5 ⟨rfl, g5⟩; have Z5 := Lib.hid (Z4.out.trans g5); clear g5))
      go_ret
      exact ⟨rfl, G1.out.trans Z5.out⟩
  · have HP := Lib.hid (show prgT x = [] by unfold prgT; rw [if_neg hk])
    rw [errV_ne hk] at CP
    have CO2 := Lib.hid (show ∀ W, w1.grownBy W none → Calls Tryz.prog 6 #[.string x] W fun e w' => (∃ a c, e = .returned (.tuple #[.slice a 0 c, .iface 148 (.pointer (some (A (parN x).2)))])) ∧ W.grownBy w' none from fun W g => (CO.out W g).mono fun e w' ⟨⟨a, c, h, _⟩, g⟩ => ⟨by
      rw [HP.out, errV_ne hk] at h; exact ⟨a, c, h⟩, g⟩)
    clear CO HP hk HSZ
    generalize toI (parN x).1 = n at CP
    generalize A (parN x).2 = ea at CP CO2
    go_upto_region 6 with (go_at_call 5; (with_reducible refine (CP.out).mono ?_); rintro e wc ⟨⟨a2, m2, k2, rfl, hK⟩, gc⟩)
    have Z2 := Lib.hid (gc.trans (World.grownBy_alloc wc (.cells #[.int .i64 n.kind, .int .i64 n.index, .int .u64 (wd n.set 0), .int .u64 (wd n.set 1), .int .u64 (wd n.set 2), .int .u64 (wd n.set 3), .slice a2 m2 k2] 28) none))
    clear gc hK CP
    generalize wc.alloc _ = w2 at Z2 ⊢
    have CO3 := Lib.hid (CO2.out w2 Z2.out)
    clear CO2
    go_wp2_with (go_at_call 6; (with_reducible refine (CO3.out).mono ?_); rintro e w3 ⟨⟨a3, c3, rfl⟩, g3⟩; have Z3 := Lib.hid (Z2.out.trans g3); clear g3)
    go_ret
    exact ⟨rfl, G1.out.trans Z3.out⟩
end Go.Proofs.YtlkjejmmoalliaaGreatDoor

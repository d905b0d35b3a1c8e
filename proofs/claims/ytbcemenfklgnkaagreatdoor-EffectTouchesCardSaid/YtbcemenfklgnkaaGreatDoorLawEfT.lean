/- A Touch of each target gives each of them that time, if there is room. No condition on the targets or on the tick. -/
import Derived.Test.YtbcemenfklgnkaaGreatDoorEfTouch
import Derived.Test.YtbcemenfklgnkaaGreatDoorEfApp
import Derived.Test.YtbcemenfklgnkaaGreatDoorRMem
import Derived.Test.YtbcemenfklgnkaaGreatDoorEfLaw
import Derived.Test.YtbcemenfklgnkaaGreatDoorListL
namespace Go.Proofs.YtbcemenfklgnkaaGreatDoor.effectTouches
open Go.RowKit Go.Maps

set_option maxRecDepth 100000 in
set_option maxHeartbeats 8000000 in
theorem walk (v : Value) (ts : List ByteArray) (t : Int) (A : Nat → Addr) (w : World) (h : Row w v ts) (hE : EnvE A w) :
    Calls Tryz.prog 5 #[v, .int .i64 t] w fun e w' => e = .returned (.bool true) ∧ w.grownBy w' none := by
  have HR := Lib.hid h; have HE := Lib.hid hE
  obtain ⟨a0, c0, rfl, -, -⟩ := h
  clear hE
  go_enter Tryz.func5, Tryz.ntmps5
  go_wp2_with fail
  refine (lAliveE A _ HE.out).mono ?_
  rintro e w1 ⟨rfl, g1⟩
  have G1 := Lib.hid g1
  clear g1
  go_wp2_with fail
  refine (lLongT _ ts 12 _ (HR.out.grown G1.out)).mono ?_
  rintro e w' ⟨rfl, rfl⟩
  cases hL : longT 12 ts
  case true =>
    go_wp2
    go_ret
    exact ⟨rfl, G1.out⟩
  obtain ⟨n12, s100⟩ := shortT hL
  have SZ := Lib.hid s100
  clear hL s100
  go_wp2_with fail
  refine (eTouches _ ts _ (HR.out.grown G1.out) (by omega) (fun x hx => by have := SZ.out x hx; unfold maxLen; omega)).mono ?_
  rintro e w2 ⟨ea, ec, rfl, e2, g2⟩
  have E2 := Lib.hid e2; have G2 := Lib.hid (G1.out.trans g2)
  clear e2 g2 G1
  go_wp2_with fail
  refine (tNew _).mono ?_
  rintro e w3 ⟨rfl, t3, g3⟩
  have T3 := Lib.hid t3; have G23 := Lib.hid g3; have G3 := Lib.hid (G2.out.trans g3)
  have LB := Lib.hid (Nat.le_refl w2.heap.size)
  generalize hb : w2.heap.size = b at *
  generalize hp : b + 1 = p at *
  clear t3 g3 hp
  have HAP := Lib.hid (eApply p b [] t _ (touchL ts) A w2 w3 T3.out (HE.out.grown G2.out) E2.out G23.out (by omega) (by simp))
  obtain ⟨f1, -, f3, f4, f5⟩ := touch_all (t := t) ts 0 [] (by intro f hf; cases hf)
  have F1 := Lib.hid f1; have F3 := Lib.hid f3; have F5 := Lib.hid f5
  generalize appE t (touchL ts) 0 [] = r at *
  obtain ⟨n, k, l2⟩ := r
  simp only [Nat.zero_add] at HAP F1 F3 F5 f4
  clear f1 f3 f5
  go_wp2_with fail
  refine HAP.out.mono ?_
  rintro e w4 ⟨rfl, t4, g4⟩
  have T4 := Lib.hid t4; have G4 := Lib.hid (grown_none G23.out g4 (by omega))
  clear t4 g4 HAP T3 G3 G23
  go_wp2
  go_loopw [9, 10, 11, 12, 13, 35] (fun _ _ _ _ _ i wr => ∃ j : Nat, j ≤ ts.length ∧ i = .int .i64 j ∧ Hid (w4.grownBy wr none)) (fun _ _ _ _ _ i _ => ts.length - (intOf i).toNat)
  case atStart => exact ⟨0, Nat.zero_le _, rfl, Lib.hid (World.grownBy.refl _ _)⟩
  case round =>
    obtain ⟨j, hj, rfl, hG⟩ := hrel
    have GW := Lib.hid (G4.out.trans hG.out)
    by_cases hlt : j < ts.length
    · obtain ⟨s, hs⟩ := get_of ts j hlt
      obtain ⟨eb, eo, ec', f, e, hf, -, -, heb, c0, c1, c2⟩ := (E2.out.grown GW.out).at j (by rw [touch_len]; exact hlt)
      rw [touch_at hs] at hf
      obtain rfl := Option.some.inj hf
      simp only at c0 c1 c2
      rw [touch_len] at e
      cases e
      obtain ⟨a', c', e', -, hr⟩ := (HR.out.grown G2.out).grown GW.out
      cases e'
      obtain ⟨tb, tof, rfl, htb, htc⟩ := hr (by intro e; rw [e] at hlt; simp at hlt)
      have tcell := htc j s hs
      have hi0 : (0 : Int) ≤ (j : Int) := Int.natCast_nonneg _
      have hi1 : (j : Int) < (ts.length : Int) := by omega
      have hnq := fun W => neqEf ⟨2, s, ⟨#[]⟩⟩ ⟨2, s, ⟨#[]⟩⟩ W
      rw [eqEf_self] at hnq
      simp only at hnq
      have hgd := guardE
      have HM := Lib.hid (fun W => rMemL (s := s) W (by have := SZ.out s (List.mem_of_getElem? hs); unfold maxLen; omega))
      have HT := Lib.hid (fun W (hW : IsTree W p b l2) => tTime p b l2 s W hW (by have := SZ.out s (List.mem_of_getElem? hs); unfold maxLen; omega))
      have HG := Lib.hid (fun (h1 : j < n) (h2 : memB s = false) => all_time F1.out (F3.out j s hs h1 h2))
      have BX := Lib.hid (boxE_new wr ⟨2, s, ⟨#[]⟩⟩ 46)
      clear htc hf hs hr
      go_wp2
      go_quiet (fail)
      go_wp2_with fail
      by_cases hjn : j < n
      · have hdn : decide ((j : Int) < (n : Int)) = true := decide_eq_true (by omega)
        cases hm : memB s
        · rw [HG.out hjn hm] at HT
          rw [hm] at HM
          clear hm
          refine (HM.out _).mono ?_
          rintro e w5 ⟨x, y, rfl, -, g5⟩
          obtain ⟨b0, b1, b2⟩ := (BX.out.kept (row := none) (grown_drewN (World.grownBy.refl _ _) _) (by simp)).kept g5 (by simp)
          have G5 := Lib.hid ((grown_drewN (hG.out.trans (World.grownBy_alloc _ _ _)) _).trans g5)
          clear g5
          simp only at b0 b1 b2
          go_wp2_with (go_at_call 29; refine (HT.out _ (T4.out.grown G5.out)).mono ?_; rintro e w6 ⟨rfl, rfl⟩)
          go_roundw
          case rel => exact ⟨j + 1, by omega, by go_num, G5⟩
          case measure => simp [intOf]; omega
        · rw [hm] at HM
          clear hm
          refine (HM.out _).mono ?_
          rintro e w5 ⟨x, y, rfl, -, g5⟩
          have G5 := Lib.hid ((grown_drewN (hG.out.trans (World.grownBy_alloc _ _ _)) _).trans g5)
          clear g5
          go_wp2
          go_roundw
          case rel => exact ⟨j + 1, by omega, by go_num, G5⟩
          case measure => simp [intOf]; omega
      · have hdn : decide ((j : Int) < (n : Int)) = false := decide_eq_false (by omega)
        generalize memB s = mb at *
        refine (HM.out _).mono ?_
        rintro e w5 ⟨x, y, rfl, -, g5⟩
        have G5 := Lib.hid ((grown_drewN (hG.out.trans (World.grownBy_alloc _ _ _)) _).trans g5)
        clear g5
        go_wp2
        go_roundw
        case rel => exact ⟨j + 1, by omega, by go_num, G5⟩
        case measure => simp [intOf]; omega
    · have hle : decide ((n : Int) ≤ (ts.length : Int)) = true := decide_eq_true (by omega)
      by_cases hk : k = 0
      · have hn := F5.out.2 hk
        have hq : ((n : Int) == (ts.length : Int)) = true := by rw [beq_iff_eq]; omega
        subst hk
        clear hn
        rw [errV_zero]
        go_wp2
        go_ret
        exact ⟨rfl, G2.out.trans GW.out⟩
      · have hn : n ≠ ts.length := fun e => hk (F5.out.1 e)
        have hq : ((n : Int) == (ts.length : Int)) = false := by rw [beq_eq_false_iff_ne]; omega
        rw [errV_ne hk]
        clear hn
        go_wp2
        go_ret
        exact ⟨rfl, G2.out.trans GW.out⟩
end Go.Proofs.YtbcemenfklgnkaaGreatDoor.effectTouches

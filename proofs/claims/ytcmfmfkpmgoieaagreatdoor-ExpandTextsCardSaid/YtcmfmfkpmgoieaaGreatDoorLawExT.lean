/- The law ExpandTexts, walked: every text's list, by all variables and outputs. -/
import Derived.Test.YtcmfmfkpmgoieaaGreatDoorLawExA
namespace Go.Proofs.YtcmfmfkpmgoieaaGreatDoor
open Go.RowKit

theorem vrow_up {w W : World} {v : Value} {L : List Vz} (h : VRow w (fun b => b < w.heap.size) v L) (g : w.grownBy W none) : VRow W (fun b => b < W.heap.size) v L := (h.keep (KeepG.grown g)).more fun _ _ hl => hl
theorem txrow_up {w W : World} {v : Value} {L : List ByteArray} (h : TxRow w v L) (g : w.grownBy W none) : TxRow W v L := h.later (below_of_grown g)
set_option maxRecDepth 100000 in
set_option maxHeartbeats 8000000 in
theorem lExpandTexts (A : Nat → Addr) (s : ByteArray) (v : Value) (L : List Vz) (ov : Value) (O : List Ot) (w : World) (hE : LwE A w) (hR : VRow w (fun b => b < w.heap.size) v L) (hl : L.length ≤ 2513169435000) (hO : ORow w ov O) :
    Calls Tryz.prog 3 #[.string s, v, ov] w fun e w' => e = .returned (.bool true) ∧ w.grownBy w' none := by
  obtain ⟨va, vc, rfl, -⟩ := hR.shape
  obtain ⟨oa, oc, rfl, -⟩ := hO.shape
  have CA := Lib.hid (lAlive17 A w hE.x)
  have HE := Lib.hid hE; have HR := Lib.hid hR; have HO := Lib.hid hO
  clear hE hR hO
  by_cases hs : 200 < s.size
  · go_enter Tryz.func3, Tryz.ntmps3
    go_wp2_with (go_at_call 6; (with_reducible refine CA.out.mono ?_); rintro e w1 ⟨rfl, g1⟩; have G1 := Lib.hid g1; clear g1)
    go_ret
    exact ⟨rfl, G1.out⟩
  have CLo := Lib.hid (fun (W : World) (g : w.grownBy W none) => lLongO _ O 10 W (HO.out.grown g))
  go_enter Tryz.func3, Tryz.ntmps3
  go_wp2_with (go_at_call 6; (with_reducible refine CA.out.mono ?_); rintro e w1 ⟨rfl, g1⟩; have G1 := Lib.hid g1; clear g1)
  refine (CLo.out _ G1.out).mono ?_
  rintro e w2 ⟨⟨z, rfl, hz⟩, g2⟩
  have G2 := Lib.hid (G1.out.trans g2)
  clear g2 CLo CA G1
  cases z with
  | true =>
    go_wp2
    go_ret
    exact ⟨rfl, G2.out⟩
  | false =>
    have SO := Lib.hid (hz rfl)
    clear hz
    have CV := Lib.hid (lVars A _ L w2 (vrow_up HR.out G2.out) (HE.out.grown G2.out).x.lv17 hl)
    go_wp2_with fail
    refine CV.out.mono ?_
    rintro e w3 ⟨g3, rfl | ⟨p, q, b, F, Z, uv, l, G, rfl, T3⟩⟩
    · have G3 := Lib.hid (G2.out.trans g3)
      clear g3 CV
      go_wp2
      go_ret
      exact ⟨rfl, G3.out⟩
    have G3 := Lib.hid (G2.out.trans g3)
    have T := Lib.hid T3
    clear g3 T3 CV
    have CT := Lib.hid (pText17 s w3 (T.out.ex (HE.out.grown G3.out).x (HO.out.grown G3.out) SO.out.all) (HE.out.grown G3.out).thr (by omega))
    go_wp2_with fail
    refine CT.out.mono ?_
    rintro e w4 ⟨x, hx, g4, v4, L4, rfl, t4, h4⟩
    have hx18 := textE_le hx
    obtain ⟨a4, c4, rfl, -⟩ := id t4
    have G4 := Lib.hid (G3.out.trans g4)
    have T4 := Lib.hid (T.out.grown g4)
    have R4 := Lib.hid t4
    have H4 := Lib.hid h4
    have HX := Lib.hid hx
    clear t4 h4 hx g4 CT T
    have CO := Lib.hid (fun (W : World) (g : w.grownBy W none) => lOutputs _ O W (HO.out.grown g) (by have := SO.out.1; omega))
    go_wp2_with fail
    refine (CO.out _ G4.out).mono ?_
    rintro e w5 ⟨⟨ou, rfl, o5⟩, g5⟩
    obtain ⟨a5, c5, rfl, -⟩ := o5.shape
    have G5 := Lib.hid (G4.out.trans g5)
    have T5 := Lib.hid (T4.out.grown g5)
    have R5 := Lib.hid (txrow_up R4.out g5)
    have CD := Lib.hid (dText17 q uv l G _ O s w5 (T5.out.doc o5) (fun k hk => (T5.out.g k hk).1) T5.out.z SO.out.all.2.2 (by omega))
    clear o5 g5 T4 R4
    go_wp2_with fail
    refine CD.out.mono ?_
    rintro e w6 ⟨y, hy, g6, v6, L6, rfl, t6, h6⟩
    rw [← T5.out.s] at hy
    obtain rfl := textE_one hy HX.out
    obtain rfl : L6 = L4 := txL_inj (h6.trans H4.out.symm)
    obtain ⟨a6, c6, rfl, -⟩ := t6.1
    have G6 := Lib.hid (G5.out.trans g6)
    have R6 := Lib.hid (txrow_up R5.out g6)
    have S6 := Lib.hid t6.1
    have CF := Lib.hid (fun (W : World) (g : w.grownBy W none) => eFind s _ O W (HO.out.grown g))
    clear t6 h6 hy g6 CD R5 T5
    unfold PFo at CF
    obtain ⟨ft, hft⟩ : ∃ ft, (fndO O s).getD ⟨#[]⟩ = ft := ⟨_, rfl⟩
    obtain ⟨fb, hfb⟩ : ∃ fb, (fndO O s).isSome = fb := ⟨_, rfl⟩
    rw [hft, hfb] at CF
    go_wp2_with fail
    refine (CF.out _ G6.out).mono ?_
    rintro e w7 ⟨rfl, g7⟩
    have G7 := Lib.hid (G6.out.trans g7)
    have R7 := Lib.hid (txrow_up R6.out g7)
    have S7 := Lib.hid (txrow_up S6.out g7)
    clear g7 R6 S6 CF
    go_wp2_with fail
    refine (CO.out _ G7.out).mono ?_
    rintro e w8 ⟨⟨ou8, rfl, o8⟩, g8⟩
    obtain ⟨a8, c8, rfl, -⟩ := o8.shape
    have G8 := Lib.hid (G7.out.trans g8)
    have R8 := Lib.hid (txrow_up R7.out g8)
    have S8 := Lib.hid (txrow_up S7.out g8)
    have CE := Lib.hid (dFindO s _ O w8 o8)
    unfold PFo at CE
    rw [hft, hfb] at CE
    clear o8 g8 R7 S7 hft hfb
    go_wp2_with fail
    refine CE.out.mono ?_
    rintro e w9 ⟨rfl, g9⟩
    have G9 := Lib.hid (G8.out.trans g9)
    have R9 := Lib.hid (txrow_up R8.out g9)
    have S9 := Lib.hid (txrow_up S8.out g9)
    have CN := Lib.hid (lNumV A (exN y) hx18 w9 (HE.out.grown G9.out).1)
    have CS := Lib.hid (fun (W : World) (g : w9.grownBy W none) => cSameT _ _ L6 W (txrow_up R9.out g) (txrow_up S9.out g))
    have e1 := strV_eq (a := ft) (b := ft) rfl
    clear g9 R8 S8 CE CO
    go_wp2_with (first
      | (go_at_call 14; (with_reducible refine CN.out.mono ?_); rintro e w10 ⟨rfl, g10⟩; have G10 := Lib.hid g10; clear g10)
      | (go_at_call 15; (with_reducible refine (CS.out _ G10.out).mono ?_); rintro e w11 ⟨rfl, n11, rfl⟩))
    go_ret
    exact ⟨by simp, grown_drewN (G9.out.trans G10.out) _⟩
end Go.Proofs.YtcmfmfkpmgoieaaGreatDoor

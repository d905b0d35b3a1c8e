/- The law ExpandPlain, walked: a text without signs gives its own fields. -/
import Derived.Test.YtcmfmfkpmgoieaaGreatDoorLawExT
namespace Go.Proofs.YtcmfmfkpmgoieaaGreatDoor
open Go.RowKit

theorem textE_plain {V : ByteArray → List ByteArray} {O : List Ot} {s : List UInt8} {x : Rs} (h : s.any sgnQ = false) (h40 : (fldQ s).length ≤ 40) (h120 : ∀ f ∈ fldQ s, f.length ≤ 120) (hx : textE V O s x) : x = .ok (fldQ s) := by
  unfold textE at hx
  cases hw : wdQ [] [] s with
  | error k => rw [lex_plain h] at hw; cases hw
  | ok L =>
    rw [hw] at hx
    obtain ⟨LB, hB, rfl⟩ := hx
    exact text_plain V O h hw hB h40 h120
set_option maxRecDepth 100000 in
set_option maxHeartbeats 8000000 in
theorem lExpandPlain (A : Nat → Addr) (s : ByteArray) (v : Value) (L : List Vz) (w : World) (hE : LwX A w) (hR : VRow w (fun b => b < w.heap.size) v L) (hl : L.length ≤ 2513169435000) :
    Calls Tryz.prog 5 #[.string s, v] w fun e w' => e = .returned (.bool true) ∧ w.grownBy w' none := by
  obtain ⟨va, vc, rfl, -⟩ := hR.shape
  have CA := Lib.hid (lAlive17 A w hE)
  have HE := Lib.hid hE; have HR := Lib.hid hR
  clear hE hR
  by_cases hs : 200 < s.size
  · go_enter Tryz.func5, Tryz.ntmps5
    go_wp2_with (go_at_call 6; (with_reducible refine CA.out.mono ?_); rintro e w1 ⟨rfl, g1⟩; have G1 := Lib.hid g1; clear g1)
    go_ret
    exact ⟨rfl, G1.out⟩
  have CV := Lib.hid (fun (W : World) (g : w.grownBy W none) => lVars A _ L W (vrow_up HR.out g) (HE.out.grown g).lv17 hl)
  go_enter Tryz.func5, Tryz.ntmps5
  go_wp2_with (go_at_call 6; (with_reducible refine CA.out.mono ?_); rintro e w1 ⟨rfl, g1⟩; have G1 := Lib.hid g1; clear g1)
  refine (CV.out _ G1.out).mono ?_
  rintro e w3 ⟨g3, rfl | ⟨p, q, b, F, Z, uv, l, G, rfl, T3⟩⟩
  · have G3 := Lib.hid (G1.out.trans g3)
    clear g3 CV
    go_wp2
    go_ret
    exact ⟨rfl, G3.out⟩
  have G3 := Lib.hid (G1.out.trans g3)
  have T := Lib.hid T3
  clear g3 T3 CV G1 CA
  go_wp2
  go_loop [8] (fun i => ∃ j : Nat, j ≤ s.size ∧ i = .int .i64 j ∧ Hid ((s.data.toList.take j).any sgnQ = false)) (fun i => s.size - (intOf i).toNat)
  case atStart => exact ⟨0, Nat.zero_le _, rfl, Lib.hid rfl⟩
  case round =>
    obtain ⟨j, hj, rfl, hI⟩ := hrel
    by_cases hlt : j < s.size
    · have HJ := Lib.hid (list_at hlt)
      cases h39 : (s[j] == 39)
      · have e39 : ((s[j].toNat : Int) == 39) = false := b_is 39 (by decide) h39
        cases h96 : (s[j] == 96)
        · have e96 : ((s[j].toNat : Int) == 96) = false := b_is 96 (by decide) h96
          cases h36 : (s[j] == 36)
          · have e36 : ((s[j].toNat : Int) == 36) = false := b_is 36 (by decide) h36
            have HN := Lib.hid (show (s.data.toList.take (j + 1)).any sgnQ = false by
              rw [List.take_add_one, HJ.out, List.any_append, hI.out]
              simp [sgnQ, h39, h96, h36])
            clear h39 h96 h36 hI
            go_wp2
            go_round
            case rel => exact ⟨j + 1, hlt, by go_num, HN⟩
            case measure => simp [intOf]; omega
          · have e36 : ((s[j].toNat : Int) == 36) = true := b_is 36 (by decide) h36
            clear h39 h96 h36
            go_wp2
            go_ret
            exact ⟨rfl, G3.out⟩
        · have e96 : ((s[j].toNat : Int) == 96) = true := b_is 96 (by decide) h96
          clear h39 h96
          go_wp2
          go_ret
          exact ⟨rfl, G3.out⟩
      · have e39 : ((s[j].toNat : Int) == 39) = true := b_is 39 (by decide) h39
        clear h39
        go_wp2
        go_ret
        exact ⟨rfl, G3.out⟩
    · have HS := Lib.hid (show s.data.toList.any sgnQ = false by have := hI.out; rwa [List.take_of_length_le (by simp; omega)] at this)
      have CF := Lib.hid (dFields s w3 (by omega))
      clear hI
      go_wp2_with fail
      refine CF.out.mono ?_
      rintro e w4 ⟨⟨v4, W4, rfl, o4, h4⟩, g4⟩
      obtain ⟨a4, c4, rfl⟩ := tx_shape o4
      have hW : W4.length ≤ 201 := by
        have h1 := congrArg List.length h4
        have h2 := fld_len s.data.toList
        rw [List.length_map] at h1
        rw [← h1] at h2
        have : s.data.toList.length = s.size := by simp
        omega
      have G4 := Lib.hid (G3.out.trans g4)
      have T4 := Lib.hid (T.out.grown g4)
      have R4 := Lib.hid (tx_row o4 rfl (by omega))
      have H4 := Lib.hid h4
      have CL := Lib.hid (show Calls Tryz.prog 26 #[.slice a4 W4.length c4, .int .i64 40, .int .i64 120] w4 fun e w' => e = .returned (.bool (longQ 40 120 W4)) ∧ w4 = w' from cLongT _ W4 40 120 w4 R4.out)
      clear o4 h4 g4 CF T
      cases hlong : longQ 40 120 W4 with
      | true =>
        rw [hlong] at CL
        go_wp2_with (go_at_call 26; (with_reducible refine CL.out.mono ?_); rintro e w5 ⟨rfl, rfl⟩)
        go_ret
        exact ⟨rfl, G4.out⟩
      | false =>
        rw [hlong] at CL
        obtain ⟨h40, h120⟩ := longQ_short hlong
        have TP := Lib.hid (fun (V : ByteArray → List ByteArray) (x : Rs) (hx : textE V [] s.data.toList x) => textE_plain HS.out (by rw [← H4.out]; simpa using h40) (fun f hf => by
          rw [← H4.out] at hf
          obtain ⟨y, hy, rfl⟩ := List.mem_map.1 hf
          have := h120 y hy
          simpa using this) hx)
        clear hlong h40 h120
        have EA := Lib.hid (show SmAll ([] : List Ot) from ⟨by decide, fun x hx => by simp at hx, fun x hx => by simp at hx⟩)
        have OA := Lib.hid (fun (W : World) => show ORow W (.slice none 0 0) [] from ⟨none, 0, rfl, by decide, fun h => absurd rfl h⟩)
        have CT := Lib.hid (pText17 s w4 (T4.out.ex (HE.out.grown G4.out) (OA.out w4) EA.out) (HE.out.grown G4.out).thr (by omega))
        go_wp2_with (go_at_call 26; (with_reducible refine CL.out.mono ?_); rintro e w5 ⟨rfl, rfl⟩)
        refine CT.out.mono ?_
        rintro e w5 ⟨x, hx, g5, v5, L5, rfl, t5, h5⟩
        obtain rfl := TP.out _ x hx
        rw [show exN (.ok (fldQ s.data.toList)) = 0 from rfl, errV_zero]
        obtain rfl : L5 = W4 := txL_inj (h5.trans H4.out.symm)
        obtain ⟨a5, c5, rfl, -⟩ := id t5
        have G5 := Lib.hid (G4.out.trans g5)
        have R5 := Lib.hid (txrow_up R4.out g5)
        have S5 := Lib.hid t5
        have CU := Lib.hid (pText17 (A := A) (V := fun _ => []) (O := []) (p := none) (ov := .slice none 0 0) s w5 ⟨OA.out w5, .inl ⟨rfl, rfl⟩, EA.out, fun _ => ⟨Nat.zero_le _, fun t ht => by simp at ht⟩, (HE.out.grown G5.out).l17⟩ (HE.out.grown G5.out).thr (by omega))
        clear hx t5 h5 g5 CT R4 T4
        go_wp2_with fail
        refine CU.out.mono ?_
        rintro e w6 ⟨x, hx, g6, v6, L6, rfl, t6, h6⟩
        obtain rfl := TP.out _ x hx
        rw [show exN (.ok (fldQ s.data.toList)) = 0 from rfl, errV_zero]
        obtain rfl : L6 = L5 := txL_inj (h6.trans H4.out.symm)
        obtain ⟨a6, c6, rfl, -⟩ := id t6
        have G6 := Lib.hid (G5.out.trans g6)
        have R6 := Lib.hid (txrow_up R5.out g6)
        have S6 := Lib.hid (txrow_up S5.out g6)
        have U6 := Lib.hid t6
        have CS1 := Lib.hid (cSameT _ _ L6 w6 S6.out R6.out)
        have CS2 := Lib.hid (fun (W : World) (g : w6.grownBy W none) => cSameT _ _ L6 W (txrow_up U6.out g) (txrow_up R6.out g))
        clear hx t6 h6 g6 CU R5 S5
        go_wp2_with (first
          | (go_at_call 15; (with_reducible refine CS1.out.mono ?_); rintro e w7 ⟨rfl, n7, rfl⟩; have G7 := Lib.hid (grown_drewN (World.grownBy.refl w6 none) n7))
          | (go_at_call 15; (with_reducible refine (CS2.out _ G7.out).mono ?_); rintro e w8 ⟨rfl, n8, rfl⟩))
        go_ret
        exact ⟨rfl, grown_drewN G6.out _⟩
end Go.Proofs.YtcmfmfkpmgoieaaGreatDoor

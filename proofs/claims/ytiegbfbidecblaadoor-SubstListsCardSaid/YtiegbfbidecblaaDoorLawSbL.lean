/- The law SubstLists, walked: every list of words that are put. -/
import Derived.Test.YtiegbfbidecblaaDoorSbLst
import Derived.Test.YtiegbfbidecblaaDoorSbDoc
import Derived.Test.YtiegbfbidecblaaDoorLaidErr
namespace Go.Proofs.YtiegbfbidecblaaDoor
open Go.RowKit

theorem ErrEnv.grown16 {A : Nat → Addr} {w w' : World} (h : ErrEnv A w) (hg : w.grownBy w' none) : ErrEnv A w' := h.later (below_of_grown hg)
theorem ErrEnv.long {A : Nat → Addr} {w : World} (h : ErrEnv A w) : w.cell? ⟨0, 0, none⟩ = some (lngE A) :=
  (h.1 _ (List.mem_of_getElem? (i := 1) rfl)).1
theorem TxRow.grownL {w w' : World} {v : Value} {l : List ByteArray} (h : TxRow w v l) (hg : w.grownBy w' none) : TxRow w' v l := h.later (below_of_grown hg)
theorem MarkT.grownL {w w' : World} {b : Nat} {v : Value} {l : List ByteArray} (h : MarkT w b v l) (hg : w.grownBy w' none) : MarkT w' b v l := h.later (below_of_grown hg)
theorem tx_none (w : World) : TxRow w (.slice none 0 0) [] := ⟨none, 0, rfl, by decide, fun h => absurd rfl h⟩
/-- a list that is put, and its error's number, as both have them -/
theorem lst_any {fr tu : List UInt8} {l : List ByteArray} (A : Nat → Addr) : ∃ (k : Nat) (O : List ByteArray), k ≤ 18 ∧ (∀ w e w', LstOut A fr tu l w e w' → w.grownBy w' none ∧ ∃ v, e = .returned (.tuple #[v, errV A k]) ∧ TxRow w' v O) ∧
    ∀ w e w', LstDoc fr tu l w e w' → w.grownBy w' none ∧ ∃ v, e = .returned (.tuple #[v, .int .i64 k]) ∧ TxRow w' v O := by
  cases h : l.any (ovrB fr tu)
  · refine ⟨0, putT fr tu l, by decide, fun w e w' h1 => ?_, fun w e w' h1 => ?_⟩
    · obtain ⟨g, ⟨h2, -⟩ | ⟨-, h2⟩⟩ := h1
      · rw [h] at h2; cases h2
      · exact ⟨g, h2⟩
    · obtain ⟨g, ⟨h2, -⟩ | ⟨-, h2⟩⟩ := h1
      · rw [h] at h2; cases h2
      · exact ⟨g, h2⟩
  · refine ⟨2, [], by decide, fun w e w' h1 => ?_, fun w e w' h1 => ?_⟩
    · obtain ⟨g, ⟨-, h2⟩ | ⟨h2, -⟩⟩ := h1
      · exact ⟨g, _, h2, tx_none _⟩
      · rw [h] at h2; cases h2
    · obtain ⟨g, ⟨-, h2⟩ | ⟨h2, -⟩⟩ := h1
      · exact ⟨g, _, h2, tx_none _⟩
      · rw [h] at h2; cases h2
set_option maxRecDepth 100000 in
set_option maxHeartbeats 8000000 in
theorem lSubstLists (A : Nat → Addr) (v : Value) (l : List ByteArray) (fr tu : ByteArray) (w : World) (hE : ErrEnv A w) (h : TxRow w v l) :
    Calls Tryd.prog 3 #[v, .string fr, .string tu] w fun e w' => e = .returned (.bool true) ∧ w.grownBy w' none := by
  have CA := Lib.hid (lAlive16 w)
  have HR := Lib.hid h
  have HE := Lib.hid hE
  obtain ⟨a, c, rfl, -, -⟩ := h
  clear hE
  have CL := Lib.hid (fun w' (g : w.grownBy w' none) => show Calls Tryd.prog 5 #[.slice a l.length c, .int .i64 30, .int .i64 130] w' fun e w'' => e = .returned (.bool (longQ 30 130 l)) ∧ w' = w'' from cLongT _ l 30 130 w' (HR.out.grownL g))
  cases hlong : longQ 30 130 l
  case true =>
    rw [hlong] at CL
    go_enter Tryd.func3, Tryd.ntmps3
    go_wp2_with (first
      | (go_at_call 4; (with_reducible refine CA.out.mono ?_); rintro e w1 ⟨rfl, g1⟩; have G1 := Lib.hid g1; clear g1)
      | (go_at_call 5; (with_reducible refine (CL.out _ G1.out).mono ?_); rintro e w2 ⟨rfl, rfl⟩))
    go_ret
    exact ⟨rfl, G1.out⟩
  rw [hlong] at CL
  by_cases hfr : 40 < fr.size
  · go_enter Tryd.func3, Tryd.ntmps3
    go_wp2_with (first
      | (go_at_call 4; (with_reducible refine CA.out.mono ?_); rintro e w1 ⟨rfl, g1⟩; have G1 := Lib.hid g1; clear g1)
      | (go_at_call 5; (with_reducible refine (CL.out _ G1.out).mono ?_); rintro e w2 ⟨rfl, rfl⟩))
    go_ret
    exact ⟨rfl, G1.out⟩
  by_cases htu : 40 < tu.size
  · go_enter Tryd.func3, Tryd.ntmps3
    go_wp2_with (first
      | (go_at_call 4; (with_reducible refine CA.out.mono ?_); rintro e w1 ⟨rfl, g1⟩; have G1 := Lib.hid g1; clear g1)
      | (go_at_call 5; (with_reducible refine (CL.out _ G1.out).mono ?_); rintro e w2 ⟨rfl, rfl⟩))
    go_ret
    exact ⟨rfl, G1.out⟩
  obtain ⟨h30, h130⟩ := longQ_short hlong
  have H130 := Lib.hid h130
  clear hlong h130
  obtain ⟨k, O, hk, hL, hD⟩ := lst_any (fr := fr.data.toList) (tu := tu.data.toList) (l := l) A
  have CT := Lib.hid (fun w' (g : w.grownBy w' none) => cTextsT _ l w' (HR.out.grownL g) (by omega))
  have CB := Lib.hid (fun u W (g : w.grownBy W none) (hu : TxRow W u l) => (sList A u l fr tu W hu (by omega) (fun x hx => by have := H130.out x hx; omega) (by omega) (by omega) (HE.out.grown16 g).long).mono (hL W))
  have CD := Lib.hid (fun W (g : w.grownBy W none) => (dList _ l fr tu W (HR.out.grownL g) (by omega) (fun x hx => by have := H130.out x hx; omega) (by omega) (by omega)).mono (hD W))
  have CN := Lib.hid (fun W (g : w.grownBy W none) => lNumV A k hk W (HE.out.grown16 g))
  clear hL hD
  go_enter Tryd.func3, Tryd.ntmps3
  go_wp2_with (first
      | (go_at_call 4; (with_reducible refine CA.out.mono ?_); rintro e w1 ⟨rfl, g1⟩; have G1 := Lib.hid g1; clear g1)
      | (go_at_call 5; (with_reducible refine (CL.out _ G1.out).mono ?_); rintro e w2 ⟨rfl, rfl⟩)
      | (go_at_call 6; (with_reducible refine (CT.out _ G1.out).mono ?_); rintro e w3 ⟨u, rfl, hm, hb⟩; have G3 := Lib.hid (G1.out.trans (grown_of_below hb)); have HM := Lib.hid hm; clear hm hb)
      | (go_at_call 7; (with_reducible refine (CB.out _ _ G3.out (HM.out.row (by omega))).mono ?_); rintro e w4 ⟨g4, v4, rfl, h4⟩; have G4 := Lib.hid (G3.out.trans g4); have M4 := Lib.hid (HM.out.grownL g4); have T4 := Lib.hid h4; clear g4 h4)
      | (go_at_call 8; (with_reducible refine (CD.out _ G4.out).mono ?_); rintro e w5 ⟨g5, v5, rfl, h5⟩; have G5 := Lib.hid (G4.out.trans g5); have M5 := Lib.hid (M4.out.grownL g5); have T5 := Lib.hid (T4.out.grownL g5); have D5 := Lib.hid h5; clear g5 h5))
  clear CA CL CT CB CD HM M4 T4 G1 G3
  go_loopw [13, 46] (fun _ i wr => ∃ (j : Nat), j ≤ l.length ∧ i = .int .i64 j ∧ Hid (w5.grownBy wr none)) (fun _ i _ => l.length - (intOf i).toNat)
  case atStart => exact ⟨0, Nat.zero_le _, rfl, Lib.hid (World.grownBy.refl _ _)⟩
  case round =>
    obtain ⟨j, hj, rfl, hG⟩ := hrel
    have GX := Lib.hid (G5.out.trans hG.out)
    by_cases hlt : j < l.length
    · obtain ⟨x, hx⟩ := tx_get l j hlt
      obtain ⟨a', c', e, -, hr⟩ := HR.out.grownL GX.out
      injection e with e1 e2 e3
      subst e1 e3
      obtain ⟨b1, off1, rfl, hb1, hc1⟩ := hr (by intro e; rw [e] at hlt; simp at hlt)
      have hcell := hc1 j x hx
      have hx130 := H130.out x (List.mem_of_getElem? hx)
      have CS := Lib.hid (fun W => sWord x fr tu W (by omega) (by omega) (by omega))
      have CW := Lib.hid (fun W => dWord x fr tu W (by omega) (by omega) (by omega))
      obtain ⟨y, hy⟩ : ∃ y, putB fr.data.toList tu.data.toList x = y := ⟨_, rfl⟩
      rw [hy] at CS CW
      have ey : (y.toList == y.toList) = true := by simp
      clear hr hc1 hx hy
      go_wp2_with (first
        | (go_at_call 9; (with_reducible refine (CS.out _).mono ?_); rintro e w6 ⟨rfl, g6⟩; have G6 := Lib.hid (hG.out.trans g6); clear g6)
        | (go_at_call 10; (with_reducible refine (CW.out _).mono ?_); rintro e w7 ⟨rfl, g7⟩; have G7 := Lib.hid (G6.out.trans g7); clear g7))
      go_roundw
      case rel => exact ⟨j + 1, by omega, by go_num, G7⟩
      case measure => simp [intOf]; omega
    · obtain rfl : j = l.length := by omega
      have HT := Lib.hid (show ∀ W, w.grownBy W none → TxRow W (.slice a l.length c) l from fun W g => HR.out.grownL g)
      go_wp2_with (first
        | (go_at_call 11; (with_reducible refine (CN.out _ GX.out).mono ?_); rintro e w6 ⟨rfl, g6⟩; have G6 := Lib.hid (GX.out.trans g6); have M6 := Lib.hid (M5.out.grownL (hG.out.trans g6)); have T6 := Lib.hid (T5.out.grownL (hG.out.trans g6)); have D6 := Lib.hid (D5.out.grownL (hG.out.trans g6)); clear g6)
        | (go_at_call 12; refine (cSameT _ _ _ _ T6.out D6.out).mono ?_; rintro e w7 ⟨rfl, n7, rfl⟩; have G7 := Lib.hid (grown_drewN G6.out n7); have M7 := Lib.hid (M6.out.grownL (grown_drewN (World.grownBy.refl w6 none) n7)))
        | (go_at_call 13; refine (cKeptT _ _ _ _ _ M7.out (HT.out _ G7.out) (by omega)).mono ?_; rintro e w8 ⟨rfl, n8, rfl⟩; have G8 := Lib.hid (grown_drewN G7.out n8)))
      go_ret
      exact ⟨by simp, grown_drewN G6.out _⟩
end Go.Proofs.YtiegbfbidecblaaDoor

/- The chapter's example of layer 11; the law QuoteTexts, walked. -/
import Derived.Test.YtolapbhmfljicaaDoorQtProg
namespace Go.Proofs.YtolapbhmfljicaaDoor
open Go.RowKit

def exQ : ByteArray := ⟨#[39, 105, 116, 39, 39, 115, 39, 32, 104, 101, 114, 101]⟩
theorem ex_spl : splQ exQ.data.toList = some (txL [⟨#[105, 116, 39, 115]⟩, ⟨#[104, 101, 114, 101]⟩]) := by decide
theorem tx_ext {s t : ByteArray} (h : s.data.toList = t.data.toList) : s = t := by cases s; cases t; congr 1; exact Array.toList_inj.1 h
theorem ex_out {A : Nat → Addr} {w w' : World} {e : Ending} (h : PSpl exQ.data.toList A w e w') : w.grownBy w' none ∧ ∃ b off c, e = .returned (.tuple #[.slice (some ⟨b, off, none⟩) 2 c, .nilIface]) ∧
    w'.cell? ⟨b, off, none⟩ = some (.string ⟨#[105, 116, 39, 115]⟩) ∧ w'.cell? ⟨b, off + 1, none⟩ = some (.string ⟨#[104, 101, 114, 101]⟩) := by
  obtain ⟨g, v, O, ev, rfl, hR, hS | ⟨hS, -, -⟩⟩ := h
  · obtain ⟨hS, rfl⟩ := hS
    rw [ex_spl] at hS
    obtain rfl := txL_inj (Option.some.inj hS)
    obtain ⟨a, c, rfl, -, hc⟩ := hR
    obtain ⟨b, off, rfl, -, hc⟩ := hc (by simp)
    exact ⟨g, b, off, c, rfl, hc 0 _ rfl, hc 1 _ rfl⟩
  · rw [ex_spl] at hS; cases hS
set_option maxRecDepth 100000 in
theorem lAlive11 (A : Nat → Addr) (w : World) (hE : QErr A w) : Calls Tryd.prog 6 #[] w fun e w' => e = .returned (.bool true) ∧ w.grownBy w' none := by
  have CS := Lib.hid (pSplit exQ A w hE (by decide))
  clear hE
  go_enter Tryd.func6, Tryd.ntmps6
  go_wp2_with (go_at_call 7; refine CS.out.mono ?_; rintro e w1 hP; obtain ⟨g1, b, off, c, rfl, C0, C1⟩ := ex_out hP; have G1 := Lib.hid g1; clear g1 hP)
  go_ret
  exact ⟨rfl, G1.out⟩

set_option maxRecDepth 100000 in
set_option maxHeartbeats 4000000 in
theorem lQuoteTexts (s : ByteArray) (b : UInt8) (A : Nat → Addr) (w : World) (hE : QErr A w) :
    Calls Tryd.prog 4 #[.string s, .int .u8 b.toNat] w fun e w' => e = .returned (.bool true) ∧ w.grownBy w' none := by
  have CA := Lib.hid (lAlive11 A w hE)
  have HM := Lib.hid hE.2
  clear hE
  go_enter Tryd.func4, Tryd.ntmps4
  by_cases h200 : 200 < s.size
  · go_wp2_with (go_at_call 6; refine CA.out.mono ?_; rintro e w1 ⟨rfl, g1⟩; have G1 := Lib.hid g1; clear g1)
    go_ret
    exact ⟨rfl, G1.out⟩
  have hs : s.size ≤ 5000 := by omega
  go_wp2_with (first
    | (go_at_call 6; refine CA.out.mono ?_; rintro e w1 ⟨rfl, g1⟩; have G1 := Lib.hid g1; clear g1)
    | (go_at_call 15; refine (pPlain s _ hs).mono ?_; rintro e w2 ⟨rfl, g2⟩; have G2 := Lib.hid (G1.out.trans g2); clear g2)
    | (go_at_call 16; refine (dPlain s _ hs).mono ?_; rintro e w3 ⟨rfl, g3⟩; have G3 := Lib.hid (G2.out.trans g3); clear g3)
    | (go_at_call 17; refine (pQuote s _ (HM.out.grown G3.out) hs).mono ?_; rintro e w4 ⟨g4, t, rfl, ht⟩; have G4 := Lib.hid (G3.out.trans g4); clear g4)
    | (go_at_call 18; refine (dQuote s _ hs).mono ?_; rintro e w5 ⟨⟨t2, rfl, ht2, -⟩, g5⟩; have G5 := Lib.hid (G4.out.trans g5); clear g5; obtain rfl : t = t2 := tx_ext (by rw [ht, ht2]))
    | (go_at_call 19; refine (pBlank b _).mono ?_; rintro e w6 ⟨rfl, g6⟩; have G6 := Lib.hid (G5.out.trans g6); clear g6)
    | (go_at_call 20; refine (dBlank b _).mono ?_; rintro e w7 ⟨rfl, rfl⟩))
  go_ret
  exact ⟨by simp, G6.out⟩
end Go.Proofs.YtolapbhmfljicaaDoor

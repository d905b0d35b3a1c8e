/- The law QuoteSplits, walked. -/
import Derived.Test.YtolapbhmfljicaaDoorLawQtT
import Derived.Test.YtolapbhmfljicaaDoorLaidErr
namespace Go.Proofs.YtolapbhmfljicaaDoor
open Go.RowKit

theorem ErrEnv.quote {A : Nat → Addr} {w : World} (h : ErrEnv A w) (hM : MaxI w) : QErr A w := ⟨(h.1 ⟨5, "millwright/api.ErrQuote", 0, [97, 32, 113, 117, 111, 116, 101, 32, 104, 97, 115, 32, 110, 111, 32, 101, 110, 100]⟩ (by simp [allSn])).1, hM⟩
theorem ErrEnv.grown11 {A : Nat → Addr} {w w' : World} (h : ErrEnv A w) (hg : w.grownBy w' none) : ErrEnv A w' := h.later (below_of_grown hg)
/-- what both answer beside one another -/
theorem spl_two {l : List UInt8} {A : Nat → Addr} {w w1 w2 : World} {e1 e2 : Ending} (h1 : PSpl l A w e1 w1) (h2 : SplOut l w1 e2 w2) (hl : l.length ≤ 5000) :
    w.grownBy w1 none ∧ w1.grownBy w2 none ∧ ∃ v1 v2 ev k O, e1 = .returned (.tuple #[v1, ev]) ∧ e2 = .returned (.tuple #[v2, .int .i64 k]) ∧ TxRow w1 v1 O ∧ TxRow w2 v2 O ∧
      ((k = 0 ∧ ev = .nilIface) ∨ (k = 5 ∧ ev = .iface 92 (.pointer (some (A 5))))) := by
  obtain ⟨g1, v, O, ev, rfl, hR, hS⟩ := h1
  obtain ⟨h2, g2⟩ := h2
  refine ⟨g1, g2, ?_⟩
  rcases hS with ⟨hS, rfl⟩ | ⟨hS, rfl, rfl⟩
  · rw [hS] at h2
    obtain ⟨v2, O2, rfl, hO, hL⟩ := h2
    obtain rfl := txL_inj hL
    exact ⟨v, v2, _, 0, O2, rfl, rfl, hR, tx_row hO rfl (by have := spl_len hS; simp at this; omega), .inl ⟨rfl, rfl⟩⟩
  · rw [hS] at h2
    subst h2
    exact ⟨v, _, _, 5, [], rfl, rfl, hR, ⟨none, 0, rfl, ⟨by decide, fun _ => rfl⟩, fun h => absurd rfl h⟩, .inr ⟨rfl, rfl⟩⟩

theorem num_two {A : Nat → Addr} {k : Int} {ev : Value} (h : (k = 0 ∧ ev = .nilIface) ∨ (k = 5 ∧ ev = .iface 92 (.pointer (some (A 5))))) (W : World) (hW : ErrEnv A W) :
    Calls Tryd.prog 9 #[ev] W fun e w' => e = .returned (.int .i64 k) ∧ W.grownBy w' none := by
  rcases h with ⟨rfl, rfl⟩ | ⟨rfl, rfl⟩
  · exact lNum0 W
  · exact lNum A 5 (by decide) (by decide) W hW
set_option maxRecDepth 100000 in
set_option maxHeartbeats 400000 in
theorem lQuoteSplits (s : ByteArray) (k : Int) (A : Nat → Addr) (w : World) (hE : ErrEnv A w) (hM : MaxI w) :
    Calls Tryd.prog 3 #[.string s, .int .i64 k] w fun e w' => e = .returned (.bool true) ∧ w.grownBy w' none := by
  have CA := Lib.hid (lAlive11 A w (hE.quote hM))
  have HE := Lib.hid hE
  have HM := Lib.hid hM
  clear hE hM
  go_enter Tryd.func3, Tryd.ntmps3
  by_cases h300 : 300 < s.size
  · go_wp2_with (go_at_call 6; refine CA.out.mono ?_; rintro e w1 ⟨rfl, g1⟩; have G1 := Lib.hid g1; clear g1)
    go_ret
    exact ⟨rfl, G1.out⟩
  have hs : s.size ≤ 5000 := by omega
  have HF := Lib.hid (show (fldQ s.data.toList).length ≤ 9223372036854775807 by have := fld_len s.data.toList; simp at this; omega)
  go_wp2_with (first
    | (go_at_call 6; refine CA.out.mono ?_; rintro e w1 ⟨rfl, g1⟩; have G1 := Lib.hid g1; clear g1)
    | (go_at_call 7; refine (pSplit s A _ ((HE.out.grown11 G1.out).quote (HM.out.grown G1.out)) hs).mono ?_; rintro e w2 h2; have P2 := Lib.hid h2; obtain ⟨g2, v, O, ev, rfl, hR, hS⟩ := h2; clear g2 hR hS)
    | (go_at_call 8; refine (dSplit s _ hs).mono ?_; rintro e w3 h3; obtain ⟨g2, g3, v1, v2, ev', k', O', he1, rfl, R1, R2, hk⟩ := spl_two P2.out h3 (by simpa using hs); injection he1 with he1; injection he1 with he1; simp only [Array.mk.injEq, List.cons.injEq, and_true] at he1; obtain ⟨rfl, rfl⟩ := he1; have G3 := Lib.hid ((G1.out.trans g2).trans g3); have T1 := Lib.hid (R1.grown g3); have T2 := Lib.hid R2; have HN := Lib.hid (num_two (A := A) hk); clear h3 g2 g3 R1 R2 hk)
    | (go_at_call 9; refine (HN.out _ (HE.out.grown11 G3.out)).mono ?_; rintro e w4 ⟨rfl, g4⟩; have G4 := Lib.hid (G3.out.trans g4); have T3 := Lib.hid (T1.out.grown g4); have T4 := Lib.hid (T2.out.grown g4); clear g4)
    | (go_at_call 10; refine (cSameT _ _ O6 _ T7.out T8.out).mono ?_; rintro e w9 ⟨rfl, n9, rfl⟩; have G9 := Lib.hid (grown_drewN G7.out n9))
    | (go_at_call 10; refine (cSameT _ _ O' _ T3.out T4.out).mono ?_; rintro e w5 ⟨rfl, n5, rfl⟩; have G5 := Lib.hid (grown_drewN G4.out n5))
    | (go_at_call 11; refine (pFields s _ hs).mono ?_; rintro e w6 ⟨g6, v6, O6, rfl, R6, hL6⟩; have G6 := Lib.hid (G5.out.trans g6); have T6 := Lib.hid R6; clear g6 R6)
    | (go_at_call 12; refine (dFields s _ hs).mono ?_; rintro e w7 ⟨⟨v7, O7, rfl, R7, hL7⟩, g7⟩; have hO : O7 = O6 := txL_inj (hL7.trans hL6.symm); rw [hO] at R7; have G7 := Lib.hid (G6.out.trans g7); have T7 := Lib.hid (T6.out.grown g7); have T8 := Lib.hid (tx_row R7 rfl (by rw [tx_len hL6]; exact HF.out)); clear g7 R7 hO hL7)
    | (go_at_call 13; refine (pEnd s k _ hs).mono ?_; rintro e w10 ⟨rfl, g10⟩; have G10 := Lib.hid (G9.out.trans g10); clear g10)
    | (go_at_call 14; refine (dEnd s k _ hs).mono ?_; rintro e w11 ⟨rfl, rfl⟩))
  go_ret
  exact ⟨by simp, G10.out⟩
end Go.Proofs.YtolapbhmfljicaaDoor

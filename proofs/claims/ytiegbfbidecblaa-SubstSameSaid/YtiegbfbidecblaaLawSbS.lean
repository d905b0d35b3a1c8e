/- The law SubstSame, walked: which patterns leave all as it is, and that they do. -/
import Derived.Test.YtiegbfbidecblaaSbSam
namespace Go.Proofs.Ytiegbfbidecblaa
open Go.RowKit

theorem putB_same {p : List UInt8} {x : ByteArray} (h : cntS p ≤ 1) : putB p p x = x := by unfold putB; rw [put_same h, ba_self]
set_option maxRecDepth 100000 in
set_option maxHeartbeats 4000000 in
theorem lSubstSame (fr tu x : ByteArray) (w : World) : Calls Try.prog 4 #[.string fr, .string tu, .string x] w fun e w' => e = .returned (.bool true) ∧ w.grownBy w' none := by
  have CA := Lib.hid (lAlive16 w)
  by_cases h1 : 60 < fr.size
  · go_enter Try.func4, Try.ntmps4
    go_wp2_with (go_at_call 5; (with_reducible refine CA.out.mono ?_); rintro e w1 ⟨rfl, g1⟩; have G1 := Lib.hid g1; clear g1)
    go_ret
    exact ⟨rfl, G1.out⟩
  by_cases h2 : 60 < tu.size
  · go_enter Try.func4, Try.ntmps4
    go_wp2_with (go_at_call 5; (with_reducible refine CA.out.mono ?_); rintro e w1 ⟨rfl, g1⟩; have G1 := Lib.hid g1; clear g1)
    go_ret
    exact ⟨rfl, G1.out⟩
  by_cases h3 : 100 < x.size
  · go_enter Try.func4, Try.ntmps4
    go_wp2_with (go_at_call 5; (with_reducible refine CA.out.mono ?_); rintro e w1 ⟨rfl, g1⟩; have G1 := Lib.hid g1; clear g1)
    go_ret
    exact ⟨rfl, G1.out⟩
  have CS := Lib.hid (fun w => sSame fr tu w (by omega))
  have CN := Lib.hid (fun w => dWilds fr w (by omega))
  have CP := Lib.hid (fun w => sWord x fr tu w (by omega) (by omega) (by omega))
  obtain ⟨m, hm⟩ : ∃ m, cntS fr.data.toList = m := ⟨_, rfl⟩
  rw [hm] at CS CN
  by_cases he : fr = tu
  · subst he
    have e1 : (fr.toList == fr.toList) = true := by simp
    have e2 : (x.toList == x.toList) = true := by simp
    rw [decide_eq_true rfl, Bool.true_and] at CS
    by_cases h : m ≤ 1
    · rw [putB_same (by omega)] at CP
      rw [decide_eq_true h] at CS
      have hd : decide ((m : Int) ≤ 1) = true := decide_eq_true (by omega)
      go_enter Try.func4, Try.ntmps4
      go_wp2_with (first
        | (go_at_call 5; (with_reducible refine CA.out.mono ?_); rintro e w1 ⟨rfl, g1⟩; have G1 := Lib.hid g1; clear g1)
        | (go_at_call 10; (with_reducible refine (CN.out _).mono ?_); rintro e w2 ⟨rfl, rfl⟩)
        | (go_at_call 11; (with_reducible refine (CS.out _).mono ?_); rintro e w3 ⟨rfl, g3⟩; have G3 := Lib.hid (G1.out.trans g3); clear g3)
        | (go_at_call 12; (with_reducible refine (CP.out _).mono ?_); rintro e w4 ⟨rfl, g4⟩; have G4 := Lib.hid (G3.out.trans g4); clear g4))
      go_ret
      exact ⟨rfl, G4.out⟩
    · rw [decide_eq_false h] at CS
      have hd : decide ((m : Int) ≤ 1) = false := decide_eq_false (by omega)
      clear CP
      go_enter Try.func4, Try.ntmps4
      go_wp2_with (first
        | (go_at_call 5; (with_reducible refine CA.out.mono ?_); rintro e w1 ⟨rfl, g1⟩; have G1 := Lib.hid g1; clear g1)
        | (go_at_call 10; (with_reducible refine (CN.out _).mono ?_); rintro e w2 ⟨rfl, rfl⟩)
        | (go_at_call 11; (with_reducible refine (CS.out _).mono ?_); rintro e w3 ⟨rfl, g3⟩; have G3 := Lib.hid (G1.out.trans g3); clear g3))
      go_ret
      exact ⟨rfl, G3.out⟩
  · have e1 : (fr.toList == tu.toList) = false := by
      rw [str_eq, decide_eq_false]
      intro h; exact he (by rw [← ba_self fr, h, ba_self])
    rw [decide_eq_false he, Bool.false_and] at CS
    clear CP CN he
    go_enter Try.func4, Try.ntmps4
    go_wp2_with (first
      | (go_at_call 5; (with_reducible refine CA.out.mono ?_); rintro e w1 ⟨rfl, g1⟩; have G1 := Lib.hid g1; clear g1)
      | (go_at_call 11; (with_reducible refine (CS.out _).mono ?_); rintro e w3 ⟨rfl, g3⟩; have G3 := Lib.hid (G1.out.trans g3); clear g3))
    go_ret
    exact ⟨rfl, G3.out⟩
end Go.Proofs.Ytiegbfbidecblaa

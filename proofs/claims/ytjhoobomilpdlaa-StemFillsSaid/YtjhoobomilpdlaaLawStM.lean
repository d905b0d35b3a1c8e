/- The chapter's example of layer 15; the law StemMatches, walked. -/
import Derived.Test.YtjhoobomilpdlaaStProF
namespace Go.Proofs.Ytjhoobomilpdlaa
open Go.RowKit

set_option maxRecDepth 100000 in
theorem lAlive15 (w : World) : Calls Try.prog 6 #[] w fun e w' => e = .returned (.bool true) ∧ w.grownBy w' none := by
  have CM := Lib.hid (pMatch ⟨#[37, 46, 111]⟩ ⟨#[120, 46, 111]⟩ w (by decide) (by decide))
  have CF := Lib.hid (fun w => pFill ⟨#[37, 46, 99]⟩ ⟨#[120]⟩ w (by decide) (by decide))
  have e1 : mtcS (⟨#[37, 46, 111]⟩ : ByteArray).data.toList (⟨#[120, 46, 111]⟩ : ByteArray).data.toList = some [120] := by decide
  have e2 : filS (⟨#[37, 46, 99]⟩ : ByteArray).data.toList (⟨#[120]⟩ : ByteArray).data.toList = [120, 46, 99] := by decide
  unfold PMt at CM
  rw [e1] at CM
  rw [e2] at CF
  clear e1 e2
  go_enter Try.func6, Try.ntmps6
  go_wp2_with (first
    | (go_at_call 7; (with_reducible refine CM.out.mono ?_); rintro e w1 ⟨g1, t, rfl, ht⟩; have G1 := Lib.hid g1; obtain rfl : t = ⟨#[120]⟩ := ba_st ht; clear g1 ht)
    | (go_at_call 14; (with_reducible refine (CF.out _).mono ?_); rintro e w2 ⟨rfl, g2⟩; have G2 := Lib.hid (G1.out.trans g2); clear g2))
  go_ret
  exact ⟨rfl, G2.out⟩

set_option maxRecDepth 100000 in
set_option maxHeartbeats 4000000 in
theorem lStemMatches (p s : ByteArray) (w : World) : Calls Try.prog 3 #[.string p, .string s] w fun e w' => e = .returned (.bool true) ∧ w.grownBy w' none := by
  have CA := Lib.hid (lAlive15 w)
  by_cases h1 : 100 < p.size
  · go_enter Try.func3, Try.ntmps3
    go_wp2_with (go_at_call 6; (with_reducible refine CA.out.mono ?_); rintro e w1 ⟨rfl, g1⟩; have G1 := Lib.hid g1; clear g1)
    go_ret
    exact ⟨rfl, G1.out⟩
  by_cases h2 : 100 < s.size
  · go_enter Try.func3, Try.ntmps3
    go_wp2_with (go_at_call 6; (with_reducible refine CA.out.mono ?_); rintro e w1 ⟨rfl, g1⟩; have G1 := Lib.hid g1; clear g1)
    go_ret
    exact ⟨rfl, G1.out⟩
  have hp : p.size ≤ 5000 := by omega
  have hs : s.size ≤ 5000 := by omega
  have CM := Lib.hid (fun w => pMatch p s w hp hs)
  have CD := Lib.hid (fun w => dMatch p s w hp hs)
  have CW := Lib.hid (fun w => pWild p w hp)
  have CV := Lib.hid (fun w => dWild p w hp)
  unfold PMt at CM CD
  generalize mtcS p.data.toList s.data.toList = R at CM CD
  generalize wldN p.data.toList = v at CW CV
  generalize R.isSome = f at CM CD
  generalize R.getD [] = l at CM CD
  go_enter Try.func3, Try.ntmps3
  go_wp2_with (first
    | (go_at_call 6; (with_reducible refine CA.out.mono ?_); rintro e w1 ⟨rfl, g1⟩; have G1 := Lib.hid g1; clear g1)
    | (go_at_call 7; (with_reducible refine (CM.out _).mono ?_); rintro e w2 ⟨g2, t, rfl, ht⟩; have G2 := Lib.hid (G1.out.trans g2); have HT := Lib.hid ht; clear g2 ht)
    | (go_at_call 8; (with_reducible refine (CD.out _).mono ?_); rintro e w3 ⟨g3, u, rfl, hu⟩; have G3 := Lib.hid (G2.out.trans g3); obtain rfl : t = u := (ba_st HT.out).trans (ba_st hu).symm; clear g3 hu)
    | (go_at_call 9; (with_reducible refine (CW.out _).mono ?_); rintro e w4 ⟨rfl, g4⟩; have G4 := Lib.hid (G3.out.trans g4); clear g4)
    | (go_at_call 10; (with_reducible refine (CV.out _).mono ?_); rintro e w5 ⟨rfl, rfl⟩))
  go_ret
  exact ⟨by simp, G4.out⟩
end Go.Proofs.Ytjhoobomilpdlaa

/- Walks of package subst: do patterns leave all as it is? The document's count of signs. -/
import Derived.Test.YtiegbfbidecblaaSbPro
namespace Go.Proofs.Ytiegbfbidecblaa
open Go.RowKit

theorem wldN_ne {l : List UInt8} : ((wldN l != -1) : Bool) = l.any wldB := by
  unfold wldN
  cases l.any wldB
  · rfl
  · rw [if_pos rfl, bne_iff_ne]; omega
set_option maxRecDepth 100000 in
theorem sSeveral (p : ByteArray) (w : World) (hp : p.size ≤ 5000) : Calls Try.prog 15 #[.string p] w fun e w' => e = .returned (.bool (decide (1 < cntS p.data.toList))) ∧ w.grownBy w' none := by
  have CW := Lib.hid (pWild p w hp)
  rcases wld_cases p.data.toList with hno | ⟨a, c, z, e, ha, hc⟩
  · rw [wldN_none hno] at CW
    have HD := Lib.hid (show decide (1 < cntS p.data.toList) = false by rw [cntS_none.2 hno]; rfl)
    clear hno
    go_enter Try.func15, Try.ntmps15
    go_wp2_with (go_at_call 18; (with_reducible refine CW.out.mono ?_); rintro e w1 ⟨rfl, g1⟩; have G1 := Lib.hid g1; clear g1)
    go_ret
    exact ⟨by rw [HD.out]; rfl, G1.out⟩
  · obtain ⟨hk, -, hz, -, hZ⟩ := wild_at e
    have CW := CW.out
    rw [e, wldN_at ha hc] at CW
    have CW := Lib.hid CW
    have HD := Lib.hid (show decide (1 < cntS p.data.toList) = z.any wldB by
      rw [e, cntS_at ha hc]
      cases hz : z.any wldB
      · rw [cntS_none.2 hz]; rfl
      · rw [decide_eq_true_iff]
        rcases Nat.eq_zero_or_pos (cntS z) with h | h
        · rw [cntS_none.1 h] at hz; cases hz
        · omega)
    have CZ := fun w => pWild (p.extract (a.length + 1) p.size) w (by simp; omega)
    rw [hZ, hz] at CZ
    have CZ := Lib.hid CZ
    have HN := Lib.hid (wldN_ne (l := z))
    clear e ha hc hZ
    generalize wldN z = nz at CZ HN
    generalize z.any wldB = f at HD HN
    generalize a.length = k at hk hz CW CZ
    generalize z.length = m at hz CZ
    have i1 : (k : Int) ≤ (k : Int) + 1 + m := by omega
    have i2 : (k : Int) + 1 ≤ (k : Int) + 1 + m := by omega
    have i3 : (0 : Int) ≤ (k : Int) + 1 := by omega
    have hne : ((k : Int) != -1) = true := by rw [bne_iff_ne]; omega
    go_enter Try.func15, Try.ntmps15
    go_wp2_with (first
      | (go_at_call 18; (with_reducible refine CW.out.mono ?_); rintro e w1 ⟨rfl, g1⟩; have G1 := Lib.hid g1; clear g1)
      | (go_at_call 18; (with_reducible refine (CZ.out _).mono ?_); rintro e w2 ⟨rfl, g2⟩; have G2 := Lib.hid (G1.out.trans g2); clear g2))
    go_ret
    exact ⟨by rw [HD.out, ← HN.out]; rfl, G2.out⟩
set_option maxRecDepth 100000 in
theorem sSame (fr tu : ByteArray) (w : World) (hf : fr.size ≤ 5000) : Calls Try.prog 11 #[.string fr, .string tu] w fun e w' =>
    e = .returned (.bool (decide (fr = tu) && decide (cntS fr.data.toList ≤ 1))) ∧ w.grownBy w' none := by
  have CS := Lib.hid (sSeveral fr w hf)
  by_cases he : fr = tu
  · subst he
    have e1 : (fr.toList == fr.toList) = true := by simp
    have HD := Lib.hid (show (decide (fr = fr) && decide (cntS fr.data.toList ≤ 1)) = !decide (1 < cntS fr.data.toList) by
      rw [decide_eq_true rfl, Bool.true_and]; by_cases h : 1 < cntS fr.data.toList
      · rw [decide_eq_true h, decide_eq_false (by omega)]; rfl
      · rw [decide_eq_false h, decide_eq_true (by omega)]; rfl)
    generalize decide (1 < cntS fr.data.toList) = f at CS HD
    go_enter Try.func11, Try.ntmps11
    go_wp2_with (go_at_call 15; (with_reducible refine CS.out.mono ?_); rintro e w1 ⟨rfl, g1⟩; have G1 := Lib.hid g1; clear g1)
    go_ret
    exact ⟨by rw [HD.out]; rfl, G1.out⟩
  · have e1 : (fr.toList == tu.toList) = false := by
      rw [str_eq, decide_eq_false]
      intro h; exact he (by rw [← ba_self fr, h, ba_self])
    have HD := Lib.hid (show (decide (fr = tu) && decide (cntS fr.data.toList ≤ 1)) = false by rw [decide_eq_false he, Bool.false_and])
    clear CS he
    go_enter Try.func11, Try.ntmps11
    go_wp2
    go_ret
    exact ⟨by rw [HD.out]; rfl, World.grownBy.refl _ _⟩
set_option maxRecDepth 100000 in
theorem dWilds (p : ByteArray) (w : World) (hp : p.size ≤ 5000) : Calls Try.prog 10 #[.string p] w fun e w' => e = .returned (.int .i64 (cntS p.data.toList)) ∧ w = w' := by
  go_enter Try.func10, Try.ntmps10
  go_wp2
  go_loop [3, 4] (fun n i => ∃ (j m : Nat), j ≤ p.size ∧ m ≤ j ∧ i = .int .i64 j ∧ n = .int .i64 m ∧ Hid (m = cntS (p.data.toList.take j))) (fun _ i => p.size - (intOf i).toNat)
  case atStart => exact ⟨0, 0, Nat.zero_le _, Nat.le_refl _, rfl, rfl, Lib.hid rfl⟩
  case round =>
    obtain ⟨j, m, hj, hm, rfl, rfl, hM⟩ := hrel
    by_cases hlt : j < p.size
    · have HJ := Lib.hid (at_st hlt)
      have e1 : (((p[j]).toNat : Int) == 37) = (p[j] == UInt8.ofNat 37) := byte_st (n := 37) (by decide)
      have e2 : (((p[j]).toNat : Int) == 38) = (p[j] == UInt8.ofNat 38) := byte_st (n := 38) (by decide)
      obtain ⟨f1, h1⟩ : ∃ f, f = (p[j] == UInt8.ofNat 37) := ⟨_, rfl⟩
      obtain ⟨f2, h2⟩ : ∃ f, f = (p[j] == UInt8.ofNat 38) := ⟨_, rfl⟩
      rw [← h1] at e1
      rw [← h2] at e2
      have HB := Lib.hid (show wldB p[j] = (f1 || f2) by unfold wldB; rw [h1, h2]; rfl)
      clear h1 h2
      cases f1 <;> cases f2
      · have HV := Lib.hid (show m = cntS (p.data.toList.take (j + 1)) by rw [cntS_take HJ.out, HB.out, hM.out]; rfl)
        go_wp2
        go_round
        case rel => exact ⟨j + 1, m, by omega, by omega, by go_num, rfl, HV⟩
        case measure => simp [intOf]; omega
      all_goals
        have HV := Lib.hid (show m + 1 = cntS (p.data.toList.take (j + 1)) by rw [cntS_take HJ.out, HB.out, hM.out]; rfl)
        go_wp2
        go_round
        case rel => exact ⟨j + 1, m + 1, by omega, by omega, by go_num, by go_num, HV⟩
        case measure => simp [intOf]; omega
    · obtain rfl : j = p.size := by omega
      have HV := Lib.hid (show m = cntS p.data.toList by rw [hM.out, List.take_of_length_le (by rw [← Lib.size_eq]; exact Nat.le_refl _)])
      go_wp2
      go_ret
      exact ⟨by rw [HV.out]; rfl, rfl⟩
end Go.Proofs.Ytiegbfbidecblaa

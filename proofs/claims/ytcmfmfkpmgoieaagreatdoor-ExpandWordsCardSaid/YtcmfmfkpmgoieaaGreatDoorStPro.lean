/- Walks of package stem: where the wild sign stands, a narrow stem, what a text has between its beginning and its end, which texts fit. -/
import Derived.Test.YtcmfmfkpmgoieaaGreatDoorStLib
import Derived.Test.YtcmfmfkpmgoieaaGreatDoorStMat
namespace Go.Proofs.YtcmfmfkpmgoieaaGreatDoor
open Go.RowKit

set_option maxRecDepth 100000 in
theorem pWild (p : ByteArray) (w : World) (hp : p.size ≤ 5000) : Calls Tryz.prog 105 #[.string p] w fun e w' => e = .returned (.int .i64 (wldN p.data.toList)) ∧ w.grownBy w' none := by
  have CI := Lib.hid (bIndexW p w (by omega))
  go_enter Tryz.func105, Tryz.ntmps105
  go_wp2_with (go_at_call 116; (with_reducible refine CI.out.mono ?_); rintro e w1 ⟨rfl, g1⟩; have G1 := Lib.hid g1; clear g1)
  go_ret
  exact ⟨rfl, G1.out⟩
set_option maxRecDepth 100000 in
theorem pNarrow (s : ByteArray) (w : World) (hs : s.size ≤ 5000) : Calls Tryz.prog 109 #[.string s] w fun e w' => e = .returned (.bool (nrwS s.data.toList)) ∧ w.grownBy w' none := by
  have CI := Lib.hid (bHasN s w (by omega))
  generalize nrwS s.data.toList = f at CI ⊢
  go_enter Tryz.func109, Tryz.ntmps109
  go_wp2_with (go_at_call 119; (with_reducible refine CI.out.mono ?_); rintro e w1 ⟨rfl, g1⟩; have G1 := Lib.hid g1; clear g1)
  go_ret
  exact ⟨by cases f <;> rfl, G1.out⟩
/-- what the program's 'between' answers for a text -/
def btwT (a z s : List UInt8) : ByteArray := ⟨(if Lib.hasPrefix s a = true then Lib.trimSuffix (Lib.trimPrefix s a) z else []).toArray⟩
theorem btwT_eq (a z s : List UInt8) : btwT a z s = ⟨(if Lib.hasPrefix s a = true then Lib.trimSuffix (Lib.trimPrefix s a) z else []).toArray⟩ := rfl
theorem btwT_some {a z s t : List UInt8} (h : btwS a z s = some t) : (btwT a z s).data.toList = t := by
  rw [btw_cut] at h
  unfold btwT
  split at h
  · rename_i h1
    rw [if_pos h1]
    split at h
    · cases h; simp
    · cases h
  · cases h
set_option maxRecDepth 100000 in
theorem pBetween (a s z : ByteArray) (w : World) (hs : s.size ≤ 5000) : Calls Tryz.prog 108 #[.string a, .string s, .string z] w fun e w' =>
    e = .returned (.tuple #[.string (btwT a.data.toList z.data.toList s.data.toList), .bool (btwS a.data.toList z.data.toList s.data.toList).isSome]) ∧ w = w' := by
  have CP := Lib.hid (bCutP s a w)
  have HB := Lib.hid (btw_cut a.data.toList z.data.toList s.data.toList)
  have HT := Lib.hid (btwT_eq a.data.toList z.data.toList s.data.toList)
  generalize btwS a.data.toList z.data.toList s.data.toList = B at HB ⊢
  generalize btwT a.data.toList z.data.toList s.data.toList = T at HT ⊢
  have hr : (Lib.trimPrefix s.data.toList a.data.toList).length ≤ 5000 := Nat.le_trans (Lib.trimPrefix_le _ _) (by rw [← Lib.size_eq]; exact hs)
  generalize Lib.trimPrefix s.data.toList a.data.toList = r at CP HB HT hr
  have CS := Lib.hid (bCutS ⟨r.toArray⟩ z w (by show r.toArray.size ≤ _; simp; omega))
  rw [show (⟨r.toArray⟩ : ByteArray).data.toList = r by simp] at CS
  cases hp : Lib.hasPrefix s.data.toList a.data.toList
  · rw [hp] at CP HB HT
    go_enter Tryz.func108, Tryz.ntmps108
    go_wp2_with (go_at_call 89; (with_reducible refine CP.out.mono ?_); rintro e w1 ⟨rfl, rfl⟩)
    go_ret2
    exact ⟨by rw [HT.out, HB.out]; rfl, rfl⟩
  · rw [hp] at CP HB HT
    have HB2 := Lib.hid (show B.isSome = Lib.hasSuffix r z.data.toList by rw [HB.out, if_pos rfl]; split <;> simp [*])
    have HT2 := Lib.hid (show T = ⟨(Lib.trimSuffix r z.data.toList).toArray⟩ by rw [HT.out, if_pos rfl])
    clear HB HT
    go_enter Tryz.func108, Tryz.ntmps108
    go_wp2_with (first
      | (go_at_call 89; (with_reducible refine CP.out.mono ?_); rintro e w1 ⟨rfl, rfl⟩)
      | (go_at_call 118; (with_reducible refine CS.out.mono ?_); rintro e w1 ⟨rfl, rfl⟩))
    go_ret2
    exact ⟨by rw [HT2.out, HB2.out]; rfl, rfl⟩

set_option maxRecDepth 100000 in
set_option maxHeartbeats 4000000 in
theorem pMatch (p s : ByteArray) (w : World) (hp : p.size ≤ 5000) (hs : s.size ≤ 5000) : Calls Tryz.prog 94 #[.string p, .string s] w (PMt p.data.toList s.data.toList w) := by
  have CW := Lib.hid (pWild p w hp)
  rcases wld_cases p.data.toList with hno | ⟨a, c, z, e, ha, hc⟩
  · rw [wldN_none hno] at CW
    have HM := Lib.hid (mtc_none (s := s.data.toList) hno)
    have HQ := Lib.hid (str_eq (x := s) (y := p))
    clear hno
    unfold PMt
    go_enter Tryz.func94, Tryz.ntmps94
    go_wp2_with (go_at_call 105; (with_reducible refine CW.out.mono ?_); rintro e w1 ⟨rfl, g1⟩; have G1 := Lib.hid g1; clear g1)
    go_ret2
    refine ⟨G1.out, ⟨#[]⟩, ?_, ?_⟩
    · rw [HM.out]
      by_cases h : s.data.toList = p.data.toList
      · rw [if_pos h]; show Ending.returned (.tuple #[.string ⟨#[]⟩, .bool (s.toList == p.toList)]) = _; rw [HQ.out, decide_eq_true h]; rfl
      · rw [if_neg h]; show Ending.returned (.tuple #[.string ⟨#[]⟩, .bool (s.toList == p.toList)]) = _; rw [HQ.out, decide_eq_false h]; rfl
    · rw [HM.out]; split <;> rfl
  · obtain ⟨hk, hkc, hz, hA, hZ⟩ := wild_at e
    have CW := CW.out
    rw [e, wldN_at ha hc] at CW
    have CW := Lib.hid CW
    have HM := Lib.hid (mtc_at (s := s.data.toList) (z := z) ha hc)
    rw [← e] at HM
    have CB := fun w => pBetween (p.extract 0 a.length) s (p.extract (a.length + 1) p.size) w hs
    rw [hA, hZ, hz] at CB
    have CB := Lib.hid CB
    have HT := Lib.hid (fun t (h : btwS a z s.data.toList = some t) => btwT_some h)
    clear e ha hc hA hZ
    generalize p.data.toList = l at HM ⊢
    generalize a.length = k at hk hkc hz CW CB
    generalize z.length = m at hz CB
    unfold PMt
    have e38 : (((p[k]).toNat : Int) == 38) = (c == 38) := by rw [hkc]; exact byte_st (n := 38) (by decide)
    have i1 : (k : Int) ≤ (k : Int) + 1 + m := by omega
    have i2 : (k : Int) + 1 ≤ (k : Int) + 1 + m := by omega
    have i3 : (0 : Int) ≤ (k : Int) + 1 := by omega
    clear hkc
    have hTs : ∀ t, btwS a z s.data.toList = some t → t.length ≤ 5000 := fun t h => by
      have := congrArg List.length (btw_some.1 h)
      rw [← Lib.size_eq, List.length_append, List.length_append] at this
      omega
    generalize btwS a z s.data.toList = B at HM CB HT hTs
    generalize btwT a z s.data.toList = T at CB HT
    have hne : ((k : Int) == -1) = false := by rw [beq_eq_false_iff_ne]; omega
    cases B with
    | none =>
      have HN := Lib.hid (show mtcS l s.data.toList = none from HM.out)
      go_enter Tryz.func94, Tryz.ntmps94
      go_wp2_with (go_at_call 105; (with_reducible refine CW.out.mono ?_); rintro e w1 ⟨rfl, g1⟩; have G1 := Lib.hid g1; clear g1)
      go_quiet ((go_at_call 108; exact (CB.out _).mono fun e w' ⟨he, hw⟩ => ⟨he, _, hw.symm⟩))
      go_wp2
      go_ret2
      exact ⟨grown_drewN G1.out _, ⟨#[]⟩, by rw [HN.out]; rfl, by rw [HN.out]; rfl⟩
    | some t =>
      have HTT := Lib.hid (HT.out t rfl)
      have hT5 : T.size ≤ 5000 := by rw [Lib.size_eq, HTT.out]; exact hTs t rfl
      have HM2 := Lib.hid (show mtcS l s.data.toList = fitS c t from HM.out)
      have CN := Lib.hid (fun w => pNarrow T w hT5)
      rw [HTT.out] at CN
      clear HM HT hTs hT5
      unfold fitS at HM2
      generalize (c == 38) = f at e38 HM2
      generalize nrwS t = g at CN HM2
      cases f
      · have HN := Lib.hid (show mtcS l s.data.toList = some t from HM2.out)
        go_enter Tryz.func94, Tryz.ntmps94
        go_wp2_with (go_at_call 105; (with_reducible refine CW.out.mono ?_); rintro e w1 ⟨rfl, g1⟩; have G1 := Lib.hid g1; clear g1)
        go_quiet ((go_at_call 108; exact (CB.out _).mono fun e w' ⟨he, hw⟩ => ⟨he, _, hw.symm⟩))
        go_wp2
        go_ret2
        exact ⟨grown_drewN G1.out _, T, by rw [HN.out]; rfl, by rw [HN.out, HTT.out]; rfl⟩
      · go_enter Tryz.func94, Tryz.ntmps94
        go_wp2_with (go_at_call 105; (with_reducible refine CW.out.mono ?_); rintro e w1 ⟨rfl, g1⟩; have G1 := Lib.hid g1; clear g1)
        go_quiet ((go_at_call 108; exact (CB.out _).mono fun e w' ⟨he, hw⟩ => ⟨he, _, hw.symm⟩))
        cases g
        · have HN := Lib.hid (show mtcS l s.data.toList = none from HM2.out)
          go_wp2_with (go_at_call 109; (with_reducible refine (CN.out _).mono ?_); rintro e w2 ⟨rfl, g2⟩; have G2 := Lib.hid ((grown_drewN G1.out _).trans g2); clear g2)
          go_ret2
          exact ⟨G2.out, ⟨#[]⟩, by rw [HN.out]; rfl, by rw [HN.out]; rfl⟩
        · have HN := Lib.hid (show mtcS l s.data.toList = some t from HM2.out)
          go_wp2_with (go_at_call 109; (with_reducible refine (CN.out _).mono ?_); rintro e w2 ⟨rfl, g2⟩; have G2 := Lib.hid ((grown_drewN G1.out _).trans g2); clear g2)
          go_ret2
          exact ⟨G2.out, T, by rw [HN.out]; rfl, by rw [HN.out, HTT.out]; rfl⟩
end Go.Proofs.YtcmfmfkpmgoieaaGreatDoor

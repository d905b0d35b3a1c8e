/- The document's own answers of layer 15: where the wild sign stands, which texts fit, a pattern with a stem. The document's own answers of layer 15: which texts fit a pattern, and with which stem. The document's own answers of layer 15: a pattern with a stem. -/
import Derived.Test.YtcmfmfkpmgoieaaGreatDoorStPlain
import Derived.Test.YtcmfmfkpmgoieaaGreatDoorGrown
import Derived.WalkSmall
namespace Go.Proofs.YtcmfmfkpmgoieaaGreatDoor
open Go.RowKit

theorem at_st {s : ByteArray} {i : Nat} (h : i < s.size) : s.data.toList[i]? = some s[i] := by
  rw [List.getElem?_eq_getElem (by simpa using h)]; rfl
theorem cut_st {s : ByteArray} (j e : Nat) : (s.extract j e).data.toList = (s.data.toList.take e).drop j := by
  have e1 : (s.extract j e).data.toList = (s.data.toList.drop j).take (e - j) := by simp
  rw [e1, List.drop_take]
theorem rest_st {s : ByteArray} (j : Nat) : (s.extract j s.size).data.toList = s.data.toList.drop j := by
  rw [cut_st, List.take_of_length_le (by simp)]
theorem head_st {s : ByteArray} (e : Nat) : (s.extract 0 e).data.toList = s.data.toList.take e := by
  rw [cut_st, List.drop_zero]
theorem byte_st {b : UInt8} {n : Nat} (hn : n < 256) : ((b.toNat : Int) == (n : Int)) = (b == UInt8.ofNat n) := by
  rw [Bool.eq_iff_iff, beq_iff_eq, beq_iff_eq, ← UInt8.toNat_inj, UInt8.toNat_ofNat']
  omega

set_option maxRecDepth 100000 in
set_option maxHeartbeats 4000000 in
theorem dWild (p : ByteArray) (w : World) (hp : p.size ≤ 5000) : Calls Tryz.prog 97 #[.string p] w fun e w' => e = .returned (.int .i64 (wldN p.data.toList)) ∧ w = w' := by
  have HZ := Lib.hid (wldA_zero p.data.toList)
  have HE := Lib.hid (wldA_end (l := p.data.toList) (j := p.size) (by simp))
  generalize wldN p.data.toList = v at HZ ⊢
  go_enter Tryz.func97, Tryz.ntmps97
  go_wp2
  go_loop [3, 4] (fun at' i => ∃ (j : Nat) (x : Int), j ≤ p.size ∧ x = (j : Int) - 1 ∧ i = .int .i64 x ∧ at' = .int .i64 (wldA p.data.toList j)) (fun _ i => (intOf i + 1).toNat)
  case atStart => exact ⟨p.size, _, Nat.le_refl _, rfl, rfl, by rw [HE.out]⟩
  case round =>
    obtain ⟨j, x, hj, hx, rfl, rfl⟩ := hrel
    cases j with
    | zero =>
      have hx0 : x < 0 := by omega
      clear hx
      rw [HZ.out]
      go_wp2
      go_ret
      exact ⟨rfl, rfl⟩
    | succ j =>
      obtain rfl : x = (j : Int) := by omega
      clear hx
      have HJ := Lib.hid (at_st (show j < p.size by omega))
      have hjl : j < p.size := by omega
      have e1 : (((p[j]).toNat : Int) == 37) = (p[j] == UInt8.ofNat 37) := byte_st (n := 37) (by decide)
      have e2 : (((p[j]).toNat : Int) == 38) = (p[j] == UInt8.ofNat 38) := byte_st (n := 38) (by decide)
      obtain ⟨f1, h1⟩ : ∃ f, f = (p[j] == UInt8.ofNat 37) := ⟨_, rfl⟩
      obtain ⟨f2, h2⟩ : ∃ f, f = (p[j] == UInt8.ofNat 38) := ⟨_, rfl⟩
      rw [← h1] at e1
      rw [← h2] at e2
      have HB := Lib.hid (show wldB p[j] = (f1 || f2) by unfold wldB; rw [h1, h2]; rfl)
      clear h1 h2
      cases f1 <;> cases f2
      · have HV := Lib.hid (wldA_miss HJ.out HB.out)
        go_wp2
        go_round
        case rel => exact ⟨j, _, by omega, rfl, by go_num, by rw [HV.out]⟩
        case measure => simp [intOf]
      all_goals
        have HV := Lib.hid (wldA_hit HJ.out HB.out)
        go_wp2
        go_round
        case rel => exact ⟨j, _, by omega, rfl, by go_num, by rw [HV.out]⟩
        case measure => simp [intOf]
end Go.Proofs.YtcmfmfkpmgoieaaGreatDoor

namespace Go.Proofs.YtcmfmfkpmgoieaaGreatDoor
open Go.RowKit

/-- a stem, and whether the text fits -/
def PMt (l s : List UInt8) (w : World) (e : Ending) (w' : World) : Prop :=
  w.grownBy w' none ∧ ∃ t : ByteArray, e = .returned (.tuple #[.string t, .bool (mtcS l s).isSome]) ∧ t.data.toList = (mtcS l s).getD []
/-- a pattern with a wild sign, in the bytes of its text -/
theorem wild_at {p : ByteArray} {a z : List UInt8} {c : UInt8} (e : p.data.toList = a ++ c :: z) : ∃ h : a.length < p.size, p[a.length] = c ∧ p.size = a.length + 1 + z.length ∧
    (p.extract 0 a.length).data.toList = a ∧ (p.extract (a.length + 1) p.size).data.toList = z := by
  have hz : p.size = a.length + 1 + z.length := by rw [Lib.size_eq, e, List.length_append, List.length_cons]; omega
  have h : a.length < p.size := by omega
  refine ⟨h, ?_, hz, ?_, ?_⟩
  · have := at_st h
    rw [e, List.getElem?_append_right (Nat.le_refl _), Nat.sub_self] at this
    exact (Option.some.inj this).symm
  · rw [head_st, e, List.take_left]
  · rw [rest_st, e]
    have : a ++ c :: z = (a ++ [c]) ++ z := by simp
    rw [this, show a.length + 1 = (a ++ [c]).length by simp, List.drop_left]
theorem str_eq {x y : ByteArray} : (x.toList == y.toList) = decide (x.data.toList = y.data.toList) := by
  rw [Lib.toList_data, Lib.toList_data, Bool.eq_iff_iff]; simp

set_option maxRecDepth 100000 in
set_option maxHeartbeats 8000000 in
theorem dMatch (p s : ByteArray) (w : World) (hp : p.size ≤ 5000) (hs : s.size ≤ 5000) : Calls Tryz.prog 82 #[.string p, .string s] w (PMt p.data.toList s.data.toList w) := by
  have CW := Lib.hid (dWild p w hp)
  rcases wld_cases p.data.toList with hno | ⟨a, c, z, e, ha, hc⟩
  · rw [wldN_none hno] at CW
    have HM := Lib.hid (mtc_none (s := s.data.toList) hno)
    have HQ := Lib.hid (str_eq (x := p) (y := s))
    clear hno
    unfold PMt
    go_enter Tryz.func82, Tryz.ntmps82
    go_wp2_with (go_at_call 97; (with_reducible refine CW.out.mono ?_); rintro e w1 ⟨rfl, rfl⟩)
    go_ret2
    refine ⟨World.grownBy.refl _ _, ⟨#[]⟩, ?_, ?_⟩
    · rw [HQ.out, HM.out]
      by_cases h : s.data.toList = p.data.toList
      · rw [if_pos h, h]; simp
      · rw [if_neg h, decide_eq_false (fun x => h x.symm)]; rfl
    · rw [HM.out]; split <;> rfl
  · obtain ⟨hk, hkc, hz, hA, hZ⟩ := wild_at e
    have CW := CW.out
    rw [e, wldN_at ha hc] at CW
    have CW := Lib.hid CW
    have HM := Lib.hid (mtc_at (s := s.data.toList) (z := z) ha hc)
    rw [← e] at HM
    clear e ha hc
    generalize p.data.toList = l at HM ⊢
    have hzl : z.length = p.size - a.length - 1 := by omega
    generalize hka : a.length = k at hk hkc hz hA hZ CW hzl
    generalize hmz : z.length = m at hz
    unfold PMt
    have hm : (k : Int) + 1 + m - k - 1 = m := by omega
    have hsl : s.data.toList.length = s.size := (Lib.size_eq s).symm
    have no : ∀ {R : Prop}, R → (R → btwS a z s.data.toList = none) → mtcS l s.data.toList = none := fun r h => by rw [HM.out, h r]; rfl
    by_cases h1 : s.size < k + m
    · have hd : decide ((s.size : Int) < (k : Int) + m) = true := decide_eq_true (by omega)
      have HN := Lib.hid (no h1 fun h => btw_not (.inl (by rw [hka, hmz, hsl]; exact h)))
      clear no
      go_enter Tryz.func82, Tryz.ntmps82
      go_wp2_with (go_at_call 97; (with_reducible refine CW.out.mono ?_); rintro e w1 ⟨rfl, rfl⟩)
      go_quiet (fail)
      go_wp2
      go_ret2
      exact ⟨grown_drewN (World.grownBy.refl _ _) _, ⟨#[]⟩, by rw [HN.out]; rfl, by rw [HN.out]; rfl⟩
    have hd : decide ((s.size : Int) < (k : Int) + m) = false := decide_eq_false (by omega)
    have i1 : (k : Int) ≤ s.size := by omega
    have i2 : (0 : Int) ≤ (s.size : Int) - m := by omega
    have i3 : (s.size : Int) - m ≤ s.size := by omega
    have i4 : (k : Int) ≤ (s.size : Int) - m := by omega
    have i5 : ((s.size : Int) - m).toNat = s.size - m := by omega
    have E1 := str_eq (x := s.extract 0 k) (y := p.extract 0 k)
    rw [head_st, hA] at E1
    have E2 := str_eq (x := s.extract (s.size - m) s.size) (y := p.extract (k + 1) p.size)
    rw [rest_st, hZ] at E2
    rw [hz] at E2
    by_cases h2 : s.data.toList.take k = a
    · rw [decide_eq_true h2] at E1
      by_cases h3 : s.data.toList.drop (s.size - m) = z
      · rw [decide_eq_true h3] at E2
        have HT := Lib.hid (show mtcS l s.data.toList = fitS c (s.extract k (s.size - m)).data.toList by
          rw [HM.out, btw_doc (by rw [hka, hmz, hsl]; omega) (by rw [hka]; exact h2) (by rw [hmz, hsl]; exact h3), hka, hmz, hsl, cut_st]; rfl)
        clear no h2 h3 HM hsl hA hZ
        go_enter Tryz.func82, Tryz.ntmps82
        go_wp2_with (go_at_call 97; (with_reducible refine CW.out.mono ?_); rintro e w1 ⟨rfl, rfl⟩)
        go_quiet (fail)
        go_wp2
        have HW := Lib.hid (grown_drewN (World.grownBy.refl w none) nq)
        generalize w.drewN nq = w2 at HW ⊢
        obtain ⟨T, hT⟩ : ∃ T, T = s.extract k (s.size - m) := ⟨_, rfl⟩
        rw [← hT] at HT ⊢
        have hTs : T.size ≤ 5000 := by rw [hT]; simp; omega
        have e38 : (((p[k]).toNat : Int) == 38) = (c == 38) := by rw [hkc]; exact byte_st (n := 38) (by decide)
        clear hT hd i1 i2 i3 i4 i5 E1 E2 hkc
        have HF := Lib.hid (show mtcS l s.data.toList = if (c == 38 && !nrwS T.data.toList) = true then none else some T.data.toList from HT.out)
        clear HT
        generalize (c == 38) = f at e38 HF
        go_loop [9] (fun i => ∃ j : Nat, j ≤ T.size ∧ i = .int .i64 j ∧ Hid (f = true → nrwS (T.data.toList.take j) = true)) (fun i => T.size - (intOf i).toNat)
        case atStart => exact ⟨0, Nat.zero_le _, rfl, Lib.hid fun _ => rfl⟩
        case round =>
          obtain ⟨j, hj, rfl, hN⟩ := hrel
          by_cases hlt : j < T.size
          · have HJ := Lib.hid (at_st hlt)
            obtain ⟨f1, h1⟩ : ∃ f, f = (T[j] == UInt8.ofNat 46) := ⟨_, rfl⟩
            obtain ⟨f2, h2⟩ : ∃ f, f = (T[j] == UInt8.ofNat 47) := ⟨_, rfl⟩
            have e1 : (((T[j]).toNat : Int) == 46) = f1 := by rw [h1]; exact byte_st (n := 46) (by decide)
            have e2 : (((T[j]).toNat : Int) == 47) = f2 := by rw [h2]; exact byte_st (n := 47) (by decide)
            have HB := Lib.hid (show nrwB T[j] = !(f1 || f2) by unfold nrwB; rw [h1, h2]; rfl)
            clear h1 h2
            have go : ∀ (_ : f = false ∨ (f1 = false ∧ f2 = false)), Hid (f = true → nrwS (T.data.toList.take (j + 1)) = true) := fun h => Lib.hid fun hf => by
              rw [nrw_take HJ.out, hN.out hf, HB.out]
              rcases h with h | ⟨h, h'⟩
              · rw [h] at hf; cases hf
              · rw [h, h']; rfl
            have bad : ∀ (_ : f = true) (_ : nrwB T[j] = false), mtcS l s.data.toList = none := fun h h' => by
              rw [HF.out, h, nrw_hit HJ.out h']; rfl
            cases f
            · have HG := go (.inl rfl)
              clear go bad
              go_wp2
              go_round
              case rel => exact ⟨j + 1, by omega, by go_num, HG⟩
              case measure => simp [intOf]; omega
            · cases f1 <;> cases f2
              · have HG := go (.inr ⟨rfl, rfl⟩)
                clear go bad
                go_wp2
                go_round
                case rel => exact ⟨j + 1, by omega, by go_num, HG⟩
                case measure => simp [intOf]; omega
              all_goals
                have HR := Lib.hid (bad rfl (by rw [HB.out]; rfl))
                clear go bad
                go_wp2
                go_ret2
                exact ⟨HW.out, ⟨#[]⟩, by rw [HR.out]; rfl, by rw [HR.out]; rfl⟩
          · obtain rfl : j = T.size := by omega
            have HR := Lib.hid (show mtcS l s.data.toList = some T.data.toList by
              rw [HF.out]
              have := hN.out
              rw [List.take_of_length_le (by simp)] at this
              cases f
              · rfl
              · rw [this rfl]; rfl)
            go_wp2
            go_ret2
            exact ⟨HW.out, T, by rw [HR.out]; rfl, by rw [HR.out]; rfl⟩
      · rw [decide_eq_false h3] at E2
        have HN := Lib.hid (no h3 fun h => btw_not (.inr (.inr (by rw [hmz, hsl]; exact h))))
        clear no h2 h3 HM hsl hA hZ
        go_enter Tryz.func82, Tryz.ntmps82
        go_wp2_with (go_at_call 97; (with_reducible refine CW.out.mono ?_); rintro e w1 ⟨rfl, rfl⟩)
        go_quiet (fail)
        go_wp2
        go_ret2
        exact ⟨grown_drewN (World.grownBy.refl _ _) _, ⟨#[]⟩, by rw [HN.out]; rfl, by rw [HN.out]; rfl⟩
    · rw [decide_eq_false h2] at E1
      have HN := Lib.hid (no h2 fun h => btw_not (.inr (.inl (by rw [hka]; exact h))))
      clear no h2 HM hsl hA hZ
      go_enter Tryz.func82, Tryz.ntmps82
      go_wp2_with (go_at_call 97; (with_reducible refine CW.out.mono ?_); rintro e w1 ⟨rfl, rfl⟩)
      go_quiet (fail)
      go_wp2
      go_ret2
      exact ⟨grown_drewN (World.grownBy.refl _ _) _, ⟨#[]⟩, by rw [HN.out]; rfl, by rw [HN.out]; rfl⟩
end Go.Proofs.YtcmfmfkpmgoieaaGreatDoor

namespace Go.Proofs.YtcmfmfkpmgoieaaGreatDoor
open Go.RowKit

theorem app_st (a b : ByteArray) : (a ++ b).data.toList = a.data.toList ++ b.data.toList := by simp
theorem ba_st {x : ByteArray} {l : List UInt8} (h : x.data.toList = l) : x = ⟨l.toArray⟩ := by subst h; simp
set_option maxRecDepth 100000 in
set_option maxHeartbeats 4000000 in
theorem dFill_step (n : Nat) (p s : ByteArray) (w : World) (hp : p.size ≤ 5000) (hs : s.size ≤ 5000) (hn : p.size ≤ n)
    (ih : ∀ (q : ByteArray) (w : World), q.size < n → q.size ≤ 5000 → Calls Tryz.prog 83 #[.string q, .string s] w fun e w' => e = .returned (.string ⟨(filS q.data.toList s.data.toList).toArray⟩) ∧ ∃ n, w' = w.drewN n) :
    Calls Tryz.prog 83 #[.string p, .string s] w fun e w' => e = .returned (.string ⟨(filS p.data.toList s.data.toList).toArray⟩) ∧ ∃ n, w' = w.drewN n := by
  have CW := Lib.hid (dWild p w hp)
  rcases wld_cases p.data.toList with hno | ⟨a, c, z, e, ha, hc⟩
  · rw [wldN_none hno] at CW
    have HF := Lib.hid (show (⟨(filS p.data.toList s.data.toList).toArray⟩ : ByteArray) = p by rw [fil_none hno])
    clear hno ih
    go_enter Tryz.func83, Tryz.ntmps83
    go_wp2_with (go_at_call 97; (with_reducible refine CW.out.mono ?_); rintro e w1 ⟨rfl, rfl⟩)
    go_ret
    exact ⟨by rw [HF.out]; rfl, 0, rfl⟩
  · obtain ⟨hk, hkc, hz, hA, hZ⟩ := wild_at e
    have CW := CW.out
    rw [e, wldN_at ha hc] at CW
    have CW := Lib.hid CW
    have CI := Lib.hid (fun w => ih (p.extract (a.length + 1) p.size) w (by simp; omega) (by simp; omega))
    have HF := Lib.hid (show (⟨(filS p.data.toList s.data.toList).toArray⟩ : ByteArray) = p.extract 0 a.length ++ s ++ ⟨(filS (p.extract (a.length + 1) p.size).data.toList s.data.toList).toArray⟩ by
      rw [e, fil_at ha hc]
      refine (ba_st ?_).symm
      rw [app_st, app_st, hA, hZ])
    clear e ha hc ih hkc hA hZ
    generalize a.length = k at hk hz CW CI HF
    generalize z.length = m at hz
    rw [hz] at CI HF
    have hu : (⟨(filS (p.extract (k + 1) (k + 1 + m)).data.toList s.data.toList).toArray⟩ : ByteArray).size ≤ 30000000 := by
      have h1 := fil_len (p.extract (k + 1) (k + 1 + m)).data.toList s.data.toList
      rw [← Lib.size_eq, ← Lib.size_eq] at h1
      have h2 : (p.extract (k + 1) (k + 1 + m)).size ≤ 5000 := by simp; omega
      have h3 := Nat.mul_le_mul h2 (show s.size + 1 ≤ 5001 by omega)
      show (filS (p.extract (k + 1) (k + 1 + m)).data.toList s.data.toList).toArray.size ≤ 30000000
      rw [List.size_toArray]
      omega
    generalize (⟨(filS (p.extract (k + 1) (k + 1 + m)).data.toList s.data.toList).toArray⟩ : ByteArray) = u at CI HF hu
    have i1 : (k : Int) ≤ p.size := by omega
    have i2 : (k : Int) + 1 ≤ p.size := by omega
    have i3 : (k : Int) ≤ (k : Int) + 1 + m := by omega
    have i4 : (k : Int) + 1 ≤ (k : Int) + 1 + m := by omega
    have i5 : (0 : Int) ≤ (k : Int) + 1 := by omega
    have j1 : (p.extract 0 k).size = k := by simp; omega
    go_enter Tryz.func83, Tryz.ntmps83
    go_wp2_with (go_at_call 97; (with_reducible refine CW.out.mono ?_); rintro e w1 ⟨rfl, rfl⟩)
    go_quiet ((go_at_call 83; exact (CI.out _).mono fun e w' ⟨he, n, hw⟩ => ⟨he, _, hw.trans (World.drewN_drewN _ _ _)⟩))
    go_wp2
    go_ret
    exact ⟨by rw [HF.out]; rfl, _, rfl⟩
theorem dFill : ∀ (n : Nat) (p s : ByteArray) (w : World), p.size ≤ n → p.size ≤ 5000 → s.size ≤ 5000 →
    Calls Tryz.prog 83 #[.string p, .string s] w fun e w' => e = .returned (.string ⟨(filS p.data.toList s.data.toList).toArray⟩) ∧ ∃ n, w' = w.drewN n
  | 0, p, s, w, h, hp, hs => dFill_step 0 p s w hp hs h (fun q w hq => absurd hq (Nat.not_lt_zero _))
  | n + 1, p, s, w, h, hp, hs => dFill_step (n + 1) p s w hp hs h (fun q w hq hq5 => dFill n q s w (by omega) hq5 hs)
end Go.Proofs.YtcmfmfkpmgoieaaGreatDoor

/- The document's own answers of layer 15: which texts fit a pattern, and with which stem. -/
import Derived.Test.YtiegbfbidecblaaDoorStRef
namespace Go.Proofs.YtiegbfbidecblaaDoor
open Go.RowKit

/-- a stem, and whether the text fits -/
def PMt (l s : List UInt8) (w : World) (e : Ending) (w' : World) : Prop :=
  w.grownBy w' none ∧ ∃ t : ByteArray, e = .returned (.tuple #[.string t, .bool (mtcS l s).isSome]) ∧ t.data.toList = (mtcS l s).getD []
/-- a pattern with a wild sign, in the bytes of its text -/
theorem wild_at {p : ByteArray} {a z : List UInt8} {c : UInt8} (e : p.data.toList = a ++ c :: z) : ∃ h : a.length < p.size, p[a.length] = c ∧ p.size = a.length + 1 + z.length ∧
    (p.extract 0 a.length).data.toList = a ∧ (p.extract (a.length + 1) p.size).data.toList = z := by
  have hz : p.size = a.length + 1 + z.length := by rw [Lib.size_eq, e, List.length_append, List.length_cons]; omega
  have h : a.length < p.size := by omega
  refine ⟨h, ?_, hz, ?_, ?_⟩
  · have := at_st h
    rw [e, List.getElem?_append_right (Nat.le_refl _), Nat.sub_self] at this
    exact (Option.some.inj this).symm
  · rw [head_st, e, List.take_left]
  · rw [rest_st, e]
    have : a ++ c :: z = (a ++ [c]) ++ z := by simp
    rw [this, show a.length + 1 = (a ++ [c]).length by simp, List.drop_left]
theorem str_eq {x y : ByteArray} : (x.toList == y.toList) = decide (x.data.toList = y.data.toList) := by
  rw [Lib.toList_data, Lib.toList_data, Bool.eq_iff_iff]; simp

set_option maxRecDepth 100000 in
set_option maxHeartbeats 8000000 in
theorem dMatch (p s : ByteArray) (w : World) (hp : p.size ≤ 5000) (hs : s.size ≤ 5000) : Calls Tryd.prog 19 #[.string p, .string s] w (PMt p.data.toList s.data.toList w) := by
  have CW := Lib.hid (dWild p w hp)
  rcases wld_cases p.data.toList with hno | ⟨a, c, z, e, ha, hc⟩
  · rw [wldN_none hno] at CW
    have HM := Lib.hid (mtc_none (s := s.data.toList) hno)
    have HQ := Lib.hid (str_eq (x := p) (y := s))
    clear hno
    unfold PMt
    go_enter Tryd.func19, Tryd.ntmps19
    go_wp2_with (go_at_call 27; (with_reducible refine CW.out.mono ?_); rintro e w1 ⟨rfl, rfl⟩)
    go_ret2
    refine ⟨World.grownBy.refl _ _, ⟨#[]⟩, ?_, ?_⟩
    · rw [HQ.out, HM.out]
      by_cases h : s.data.toList = p.data.toList
      · rw [if_pos h, h]; simp
      · rw [if_neg h, decide_eq_false (fun x => h x.symm)]; rfl
    · rw [HM.out]; split <;> rfl
  · obtain ⟨hk, hkc, hz, hA, hZ⟩ := wild_at e
    have CW := CW.out
    rw [e, wldN_at ha hc] at CW
    have CW := Lib.hid CW
    have HM := Lib.hid (mtc_at (s := s.data.toList) (z := z) ha hc)
    rw [← e] at HM
    clear e ha hc
    generalize p.data.toList = l at HM ⊢
    have hzl : z.length = p.size - a.length - 1 := by omega
    generalize hka : a.length = k at hk hkc hz hA hZ CW hzl
    generalize hmz : z.length = m at hz
    unfold PMt
    have hm : (k : Int) + 1 + m - k - 1 = m := by omega
    have hsl : s.data.toList.length = s.size := (Lib.size_eq s).symm
    have no : ∀ {R : Prop}, R → (R → btwS a z s.data.toList = none) → mtcS l s.data.toList = none := fun r h => by rw [HM.out, h r]; rfl
    by_cases h1 : s.size < k + m
    · have hd : decide ((s.size : Int) < (k : Int) + m) = true := decide_eq_true (by omega)
      have HN := Lib.hid (no h1 fun h => btw_not (.inl (by rw [hka, hmz, hsl]; exact h)))
      clear no
      go_enter Tryd.func19, Tryd.ntmps19
      go_wp2_with (go_at_call 27; (with_reducible refine CW.out.mono ?_); rintro e w1 ⟨rfl, rfl⟩)
      go_quiet (fail)
      go_wp2
      go_ret2
      exact ⟨grown_drewN (World.grownBy.refl _ _) _, ⟨#[]⟩, by rw [HN.out]; rfl, by rw [HN.out]; rfl⟩
    have hd : decide ((s.size : Int) < (k : Int) + m) = false := decide_eq_false (by omega)
    have i1 : (k : Int) ≤ s.size := by omega
    have i2 : (0 : Int) ≤ (s.size : Int) - m := by omega
    have i3 : (s.size : Int) - m ≤ s.size := by omega
    have i4 : (k : Int) ≤ (s.size : Int) - m := by omega
    have i5 : ((s.size : Int) - m).toNat = s.size - m := by omega
    have E1 := str_eq (x := s.extract 0 k) (y := p.extract 0 k)
    rw [head_st, hA] at E1
    have E2 := str_eq (x := s.extract (s.size - m) s.size) (y := p.extract (k + 1) p.size)
    rw [rest_st, hZ] at E2
    rw [hz] at E2
    by_cases h2 : s.data.toList.take k = a
    · rw [decide_eq_true h2] at E1
      by_cases h3 : s.data.toList.drop (s.size - m) = z
      · rw [decide_eq_true h3] at E2
        have HT := Lib.hid (show mtcS l s.data.toList = fitS c (s.extract k (s.size - m)).data.toList by
          rw [HM.out, btw_doc (by rw [hka, hmz, hsl]; omega) (by rw [hka]; exact h2) (by rw [hmz, hsl]; exact h3), hka, hmz, hsl, cut_st]; rfl)
        clear no h2 h3 HM hsl hA hZ
        go_enter Tryd.func19, Tryd.ntmps19
        go_wp2_with (go_at_call 27; (with_reducible refine CW.out.mono ?_); rintro e w1 ⟨rfl, rfl⟩)
        go_quiet (fail)
        go_wp2
        have HW := Lib.hid (grown_drewN (World.grownBy.refl w none) nq)
        generalize w.drewN nq = w2 at HW ⊢
        obtain ⟨T, hT⟩ : ∃ T, T = s.extract k (s.size - m) := ⟨_, rfl⟩
        rw [← hT] at HT ⊢
        have hTs : T.size ≤ 5000 := by rw [hT]; simp; omega
        have e38 : (((p[k]).toNat : Int) == 38) = (c == 38) := by rw [hkc]; exact byte_st (n := 38) (by decide)
        clear hT hd i1 i2 i3 i4 i5 E1 E2 hkc
        have HF := Lib.hid (show mtcS l s.data.toList = if (c == 38 && !nrwS T.data.toList) = true then none else some T.data.toList from HT.out)
        clear HT
        generalize (c == 38) = f at e38 HF
        go_loop [9] (fun i => ∃ j : Nat, j ≤ T.size ∧ i = .int .i64 j ∧ Hid (f = true → nrwS (T.data.toList.take j) = true)) (fun i => T.size - (intOf i).toNat)
        case atStart => exact ⟨0, Nat.zero_le _, rfl, Lib.hid fun _ => rfl⟩
        case round =>
          obtain ⟨j, hj, rfl, hN⟩ := hrel
          by_cases hlt : j < T.size
          · have HJ := Lib.hid (at_st hlt)
            obtain ⟨f1, h1⟩ : ∃ f, f = (T[j] == UInt8.ofNat 46) := ⟨_, rfl⟩
            obtain ⟨f2, h2⟩ : ∃ f, f = (T[j] == UInt8.ofNat 47) := ⟨_, rfl⟩
            have e1 : (((T[j]).toNat : Int) == 46) = f1 := by rw [h1]; exact byte_st (n := 46) (by decide)
            have e2 : (((T[j]).toNat : Int) == 47) = f2 := by rw [h2]; exact byte_st (n := 47) (by decide)
            have HB := Lib.hid (show nrwB T[j] = !(f1 || f2) by unfold nrwB; rw [h1, h2]; rfl)
            clear h1 h2
            have go : ∀ (_ : f = false ∨ (f1 = false ∧ f2 = false)), Hid (f = true → nrwS (T.data.toList.take (j + 1)) = true) := fun h => Lib.hid fun hf => by
              rw [nrw_take HJ.out, hN.out hf, HB.out]
              rcases h with h | ⟨h, h'⟩
              · rw [h] at hf; cases hf
              · rw [h, h']; rfl
            have bad : ∀ (_ : f = true) (_ : nrwB T[j] = false), mtcS l s.data.toList = none := fun h h' => by
              rw [HF.out, h, nrw_hit HJ.out h']; rfl
            cases f
            · have HG := go (.inl rfl)
              clear go bad
              go_wp2
              go_round
              case rel => exact ⟨j + 1, by omega, by go_num, HG⟩
              case measure => simp [intOf]; omega
            · cases f1 <;> cases f2
              · have HG := go (.inr ⟨rfl, rfl⟩)
                clear go bad
                go_wp2
                go_round
                case rel => exact ⟨j + 1, by omega, by go_num, HG⟩
                case measure => simp [intOf]; omega
              all_goals
                have HR := Lib.hid (bad rfl (by rw [HB.out]; rfl))
                clear go bad
                go_wp2
                go_ret2
                exact ⟨HW.out, ⟨#[]⟩, by rw [HR.out]; rfl, by rw [HR.out]; rfl⟩
          · obtain rfl : j = T.size := by omega
            have HR := Lib.hid (show mtcS l s.data.toList = some T.data.toList by
              rw [HF.out]
              have := hN.out
              rw [List.take_of_length_le (by simp)] at this
              cases f
              · rfl
              · rw [this rfl]; rfl)
            go_wp2
            go_ret2
            exact ⟨HW.out, T, by rw [HR.out]; rfl, by rw [HR.out]; rfl⟩
      · rw [decide_eq_false h3] at E2
        have HN := Lib.hid (no h3 fun h => btw_not (.inr (.inr (by rw [hmz, hsl]; exact h))))
        clear no h2 h3 HM hsl hA hZ
        go_enter Tryd.func19, Tryd.ntmps19
        go_wp2_with (go_at_call 27; (with_reducible refine CW.out.mono ?_); rintro e w1 ⟨rfl, rfl⟩)
        go_quiet (fail)
        go_wp2
        go_ret2
        exact ⟨grown_drewN (World.grownBy.refl _ _) _, ⟨#[]⟩, by rw [HN.out]; rfl, by rw [HN.out]; rfl⟩
    · rw [decide_eq_false h2] at E1
      have HN := Lib.hid (no h2 fun h => btw_not (.inr (.inl (by rw [hka]; exact h))))
      clear no h2 HM hsl hA hZ
      go_enter Tryd.func19, Tryd.ntmps19
      go_wp2_with (go_at_call 27; (with_reducible refine CW.out.mono ?_); rintro e w1 ⟨rfl, rfl⟩)
      go_quiet (fail)
      go_wp2
      go_ret2
      exact ⟨grown_drewN (World.grownBy.refl _ _) _, ⟨#[]⟩, by rw [HN.out]; rfl, by rw [HN.out]; rfl⟩
end Go.Proofs.YtiegbfbidecblaaDoor

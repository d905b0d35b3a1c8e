/- Walks of package quote: blanks, what stands behind them, the parts between blanks, where a quoted part ends. -/
import Derived.Test.YtolapbhmfljicaaDoorQtOut
import Derived.Test.YtolapbhmfljicaaDoorQtWay
namespace Go.Proofs.YtolapbhmfljicaaDoor
open Go.RowKit

set_option maxHeartbeats 1000000 in
theorem pBlank0 (b : UInt8) (w : World) : Calls Tryd.prog 19 #[.int .u8 b.toNat] w fun e w' => e = .returned (.bool (blkQ b)) ∧ w = w' := by
  have HB := Lib.hid (blk_nat b)
  generalize blkQ b = z at HB ⊢
  obtain ⟨x, hx⟩ : ∃ x, x = b.toNat := ⟨_, rfl⟩
  rw [← hx] at HB ⊢
  clear hx
  obtain ⟨f1, h1⟩ : ∃ f, f = (x == 32) := ⟨_, rfl⟩
  obtain ⟨f2, h2⟩ : ∃ f, f = (x == 9) := ⟨_, rfl⟩
  obtain ⟨f3, h3⟩ : ∃ f, f = (x == 10) := ⟨_, rfl⟩
  have e1 : ((x : Int) == 32) = f1 := by rw [h1, Bool.eq_iff_iff]; simp; omega
  have e2 : ((x : Int) == 9) = f2 := by rw [h2, Bool.eq_iff_iff]; simp; omega
  have e3 : ((x : Int) == 10) = f3 := by rw [h3, Bool.eq_iff_iff]; simp; omega
  rw [← h1, ← h2, ← h3] at HB
  clear h1 h2 h3
  go_enter Tryd.func19, Tryd.ntmps19
  cases f1 <;> cases f2
  all_goals
    go_wp2
    go_ret
    exact ⟨ret_bool HB.out.symm, rfl⟩
theorem pBlank (b : UInt8) (w : World) : Calls Tryd.prog 19 #[.int .u8 b.toNat] w fun e w' => e = .returned (.bool (blkQ b)) ∧ w.grownBy w' none :=
  (pBlank0 b w).mono fun _ _ ⟨h, g⟩ => ⟨h, g ▸ World.grownBy.refl _ _⟩

set_option maxRecDepth 100000 in
set_option maxHeartbeats 1000000 in
theorem pBeyond (s : ByteArray) (k : Nat) (t : Bool) (w : World) (hs : s.size ≤ 5000) (hk : k ≤ s.size) : Calls Tryd.prog 25 #[.string s, .int .i64 k, .bool t] w fun e w' => e = .returned (.int .i64 (skpQ t s.data.toList k)) ∧ w = w' := by
  obtain ⟨z, hz⟩ : ∃ z, skpQ t s.data.toList k = z := ⟨_, rfl⟩
  rw [hz]
  have HZ := Lib.hid hz
  clear hz
  go_enter Tryd.func25, Tryd.ntmps25
  go_wp2
  go_loop [1] (fun i => ∃ j : Nat, j ≤ s.size ∧ i = .int .i64 j ∧ Hid (skpQ t s.data.toList j = z)) (fun i => s.size - (intOf i).toNat)
  case atStart => exact ⟨k, hk, rfl, HZ⟩
  case round =>
    obtain ⟨j, hj, rfl, hE⟩ := hrel
    by_cases hlt : j < s.size
    · have HJ := Lib.hid (list_at hlt)
      have CB := Lib.hid (fun w => pBlank0 s[j] w)
      by_cases hb : blkQ s[j] = t
      · have HN := Lib.hid (show skpQ t s.data.toList (j + 1) = z by rw [← skp_on HJ.out hb]; exact hE.out)
        rw [hb] at CB
        clear hb hE
        cases t
        all_goals
          go_wp2_with (go_at_call 19; (with_reducible refine (CB.out _).mono ?_); rintro e w3 ⟨rfl, rfl⟩)
          go_round
          case rel => exact ⟨j + 1, by omega, by go_num, HN⟩
          case measure => simp [intOf]; omega
      · have hb2 : blkQ s[j] = !t := by cases t <;> simpa using hb
        have HN := Lib.hid (show j = z by rw [← skp_off HJ.out hb2]; exact hE.out)
        rw [hb2] at CB
        clear hb hb2 hE
        cases t
        all_goals
          go_wp2_with (go_at_call 19; (with_reducible refine (CB.out _).mono ?_); rintro e w3 ⟨rfl, rfl⟩)
          go_ret
          exact ⟨ret_int (by rw [HN.out]), rfl⟩
    · have HN := Lib.hid (show j = z by rw [← skp_end (t := t) (l := s.data.toList) (k := j) (by simp; omega)]; exact hE.out)
      go_wp2
      go_ret
      exact ⟨ret_int (by rw [HN.out]), rfl⟩

theorem toList_cut {s : ByteArray} (j e : Nat) : (s.extract j e).data.toList = (s.data.toList.take e).drop j := by
  have e1 : (s.extract j e).data.toList = (s.data.toList.drop j).take (e - j) := by simp
  rw [e1, List.drop_take]
theorem tx_nil (w : World) (base : Nat) (T : TypeId) : w.ownsRow base T 1 (.slice none 0 0) 0 (([] : List ByteArray).map Value.string) := ⟨rfl, .inl ⟨rfl, rfl⟩⟩
set_option maxRecDepth 100000 in
set_option maxHeartbeats 4000000 in
theorem pFields (s : ByteArray) (w : World) (hs : s.size ≤ 5000) : Calls Tryd.prog 11 #[.string s] w (PTx (fldQ s.data.toList) w) := by
  obtain ⟨iu, hiu, hu0, hu1, hu2⟩ := info_parts infoTx
  have IU := Lib.hid hiu; have ZU0 := Lib.hid hu0; have ZU1 := Lib.hid hu1; have ZU2 := Lib.hid hu2
  clear hiu hu0 hu1 hu2
  have hlen : s.data.toList.length = s.size := by simp
  obtain ⟨base, hbase⟩ : ∃ base, base = w.heap.size := ⟨_, rfl⟩
  have HBL := Lib.hid (show w.heap.size = base from hbase.symm)
  have HLN := Lib.hid hlen
  have HS := Lib.hid (fun (t : Bool) (k : Nat) (h : k ≤ s.size) => show k ≤ skpQ t s.data.toList k ∧ skpQ t s.data.toList k ≤ s.size by
    have := skp_le (t := t) (l := s.data.toList) (k := k) (by rw [HLN.out]; exact h)
    rwa [HLN.out] at this)
  clear hbase hlen
  go_enter Tryd.func11, Tryd.ntmps11
  obtain ⟨j0, hj0⟩ : ∃ j0, skpQ true s.data.toList 0 = j0 := ⟨_, rfl⟩
  have CB0 := pBeyond s 0 true w hs (Nat.zero_le _)
  rw [hj0, show ((0 : Nat) : Int) = 0 from rfl] at CB0
  have CB := Lib.hid CB0
  have hj0s : j0 ≤ s.size := by rw [← hj0]; exact (HS.out true 0 (Nat.zero_le _)).2
  have F0 := Lib.hid (show fldQ s.data.toList = fldA s.data.toList [] [] j0 by rw [← hj0, fldA_skip]; rfl)
  have N0 := Lib.hid (show ∀ b, s.data.toList[j0]? = some b → blkQ b = false by rw [← hj0]; exact skp_stop (t := true) _ (Nat.le_refl _))
  clear hj0 CB0
  go_wp2_with (go_at_call 25; (with_reducible refine CB.out.mono ?_); rintro e w3 ⟨rfl, rfl⟩)
  clear CB
  go_loopw [3, 4] (fun o i wr => ∃ (j : Nat) (O : List ByteArray) (va : Option Addr) (vc : Nat), j ≤ s.size ∧ i = .int .i64 j ∧ o = .slice va O.length vc ∧ O.length ≤ j ∧ Hid (fldQ s.data.toList = fldA s.data.toList [] (txL O) j) ∧ Hid (∀ b, s.data.toList[j]? = some b → blkQ b = false) ∧ Hid (wr.ownsRow base 9 1 (.slice va O.length vc) O.length (txV O)) ∧ Hid (w.grownBy wr none)) (fun _ i _ => s.size - (intOf i).toNat)
  case atStart => exact ⟨j0, [], _, _, hj0s, rfl, rfl, Nat.zero_le _, F0, N0, Lib.hid (tx_nil _ _ _), Lib.hid (World.grownBy.refl _ _)⟩
  case round =>
    obtain ⟨j, O, va, vc, hj, rfl, rfl, hO, hF, hN, hR, hG⟩ := hrel
    by_cases hlt : j < s.size
    · have HJ := Lib.hid (list_at hlt)
      have hP := fldA_part HJ.out (hN.out _ HJ.out) (txL O)
      obtain ⟨e1, he1⟩ : ∃ e1, skpQ false s.data.toList j = e1 := ⟨_, rfl⟩
      have hle1 := (HS.out false j hj).2
      have CB1 := Lib.hid (fun w => pBeyond s j false w hs hj)
      rw [he1] at hP hle1 CB1
      obtain ⟨hje, hP⟩ := hP
      obtain ⟨e2, he2⟩ : ∃ e2, skpQ true s.data.toList e1 = e2 := ⟨_, rfl⟩
      have hle2 := HS.out true e1 hle1
      have CB2 := Lib.hid (fun w => pBeyond s e1 true w hs hle1)
      have HN := Lib.hid (skp_stop (t := true) (l := s.data.toList) (k := e1) _ (Nat.le_refl _))
      rw [he2] at hle2 CB2 HN
      obtain ⟨x, hx⟩ : ∃ x, s.extract j e1 = x := ⟨_, rfl⟩
      have HF := Lib.hid (show fldQ s.data.toList = fldA s.data.toList [] (txL (O ++ [x])) e2 by
        rw [hF.out, hP, ← he2, fldA_skip, ← hx]
        congr 1
        simp only [txL, List.map_append, List.map_cons, List.map_nil, toList_cut])
      have HX := Lib.hid hx
      clear he1 he2 hP hx hF hN
      go_wp2_with (first
        | (go_at_call 25; (with_reducible refine (CB1.out _).mono ?_); rintro e w3 ⟨rfl, rfl⟩)
        | (go_at_call 25; (with_reducible refine (CB2.out _).mono ?_); rintro e w4 ⟨rfl, rfl⟩)
        | (at_builtin; rw [HX.out]; refine wpList_append_own _ rfl _ _ 23 rfl base 9 iu _ 1 16 Tryd.underlying23 IU.out ZU0.out ZU1.out ZU2.out rfl (by decide) _ _ _ rfl (hR.out.alloc _) ⟨_, 0, none⟩ 1 1 [.string x] rfl rfl (tx_new _ _ _ _ (by simp)) (tx_one _) (by unfold maxLen; omega) (by omega) (by have := hG.out.size; have := HBL.out; simp; omega) ?_; intro v9 w9 hown9 hgrow9 _; have G9 := Lib.hid ((hG.out.trans (World.grownBy_alloc _ _ _)).andThen hgrow9 (fun k hk => .inl (by have := (hR.out.lt k hk).1; have := HBL.out; omega))); have O9 := Lib.hid hown9; clear hown9 hgrow9))
      obtain ⟨va9, vc9, rfl⟩ := tx_shape O9.out
      have HL2 := Lib.hid (show (O ++ [x]).length = O.length + 1 by simp)
      have OA := Lib.hid (show w9.ownsRow base 9 1 (.slice va9 (O ++ [x]).length vc9) (O ++ [x]).length (txV (O ++ [x])) by rw [HL2.out, txV, List.map_append]; exact O9.out)
      go_wp2_with (go_at_call 25; (with_reducible refine (CB2.out _).mono ?_); rintro e w4 ⟨rfl, rfl⟩)
      go_roundw
      case rel => exact ⟨e2, O ++ [x], va9, vc9, hle2.2, rfl, by rw [HL2.out], by rw [HL2.out]; omega, HF, HN, OA, G9⟩
      case measure => simp [intOf]; omega
    · have HF := Lib.hid (show txL O = fldQ s.data.toList by rw [hF.out, fldA_done (by rw [HLN.out]; omega)])
      go_wp2
      go_ret
      exact ⟨hG.out, _, O, rfl, tx_row hR.out rfl (by omega), HF.out⟩

set_option maxRecDepth 100000 in
set_option maxHeartbeats 4000000 in
theorem pEnd0 (s : ByteArray) (k : Int) (w : World) (hs : s.size ≤ 5000) : Calls Tryd.prog 13 #[.string s, .int .i64 k] w fun e w' => e = .returned (.int .i64 (endAt s.data.toList k)) ∧ w = w' := by
  have hlen : s.data.toList.length = s.size := by simp
  by_cases hin : 0 ≤ k ∧ k < s.size
  case neg =>
    have HZ := Lib.hid (endAt_no (l := s.data.toList) (k := k) (fun ⟨h1, h2, _⟩ => hin ⟨h1, by omega⟩))
    generalize endAt s.data.toList k = z at HZ ⊢
    clear hlen
    by_cases h0 : k < 0
    all_goals
      go_enter Tryd.func13, Tryd.ntmps13
      go_wp2
      go_ret
      exact ⟨ret_int HZ.out.symm, rfl⟩
  obtain ⟨h0, h1⟩ := hin
  obtain ⟨q, rfl⟩ := Int.eq_ofNat_of_zero_le h0
  have hq : q < s.size := by omega
  have HQ := Lib.hid (list_at hq)
  by_cases h39 : s[q] = 39
  case neg =>
    have HZ := Lib.hid (endAt_no (l := s.data.toList) (k := q) (fun ⟨_, _, h3⟩ => h39 (by
      rw [Int.toNat_natCast, HQ.out] at h3; simpa using h3)))
    have e1 : (((s[q]).toNat : Int) != 39) = true := by
      simp only [bne_iff_ne, ne_eq]
      intro h
      exact h39 (UInt8.toNat_inj.1 (by show (s[q]).toNat = 39; omega))
    generalize endAt s.data.toList q = z at HZ ⊢
    clear hlen h39
    go_enter Tryd.func13, Tryd.ntmps13
    go_wp2
    go_ret
    exact ⟨ret_int HZ.out.symm, rfl⟩
  have HZ := Lib.hid (endAt_yes (l := s.data.toList) (k := q) (by rw [HQ.out, h39]))
  have hd1 : decide ((q : Int) < 0) = false := by simp
  have hd2 : decide (s.size ≤ q) = false := by simp; omega
  have hd3 : decide ((q : Int) ≥ s.size) = false := by simp; omega
  have e1 : (((s[q]).toNat : Int) != 39) = false := by rw [h39]; rfl
  generalize endAt s.data.toList q = z at HZ ⊢
  clear hlen h39
  go_enter Tryd.func13, Tryd.ntmps13
  go_wp2
  clear e1
  go_loop [5] (fun i => ∃ j : Nat, j ≤ s.size ∧ i = .int .i64 j ∧ Hid (z = endV s.data.toList j)) (fun i => s.size - (intOf i).toNat)
  case atStart => exact ⟨q + 1, by omega, by go_num, HZ⟩
  case round =>
    obtain ⟨j, hj, rfl, hE⟩ := hrel
    by_cases hlt : j < s.size
    · have HJ := Lib.hid (list_at hlt)
      by_cases hb : s[j] = 39
      · have e2 : (((s[j]).toNat : Int) != 39) = false := by rw [hb]; rfl
        by_cases hl : j + 1 = s.size
        · have HV := Lib.hid (show z = (j : Int) + 1 by
            rw [hE.out]; unfold endV
            rw [endF_end (by rw [HJ.out, hb]) (by rw [List.getElem?_eq_none (by simp; omega)]; simp)]; simp)
          have e3 : ((j : Int) + 1 == (s.size : Int)) = true := by simp; omega
          clear hb hl
          go_wp2
          go_ret
          exact ⟨ret_int HV.out.symm, rfl⟩
        · have hj1 : j + 1 < s.size := by omega
          have HJ1 := Lib.hid (list_at hj1)
          have e3 : ((j : Int) + 1 == (s.size : Int)) = false := by simp; omega
          by_cases hc : s[j + 1] = 39
          · have e4 : (((s[j + 1]).toNat : Int) != 39) = false := by rw [hc]; rfl
            have HV := Lib.hid (show z = endV s.data.toList (j + 2) by
              rw [hE.out]; unfold endV
              rw [endF_two (by rw [HJ.out, hb]) (by rw [HJ1.out, hc])])
            clear hb hc hl
            go_wp2
            go_round
            case rel => exact ⟨j + 2, by omega, by go_num, HV⟩
            case measure => simp [intOf]; omega
          · have e4 : (((s[j + 1]).toNat : Int) != 39) = true := by
              simp only [bne_iff_ne, ne_eq]
              intro h
              exact hc (UInt8.toNat_inj.1 (by show (s[j + 1]).toNat = 39; omega))
            have HV := Lib.hid (show z = (j : Int) + 1 by
              rw [hE.out]; unfold endV
              rw [endF_end (by rw [HJ.out, hb]) (by rw [HJ1.out]; simpa using hc)]; simp)
            clear hb hc hl
            go_wp2
            go_ret
            exact ⟨ret_int HV.out.symm, rfl⟩
      · have e2 : (((s[j]).toNat : Int) != 39) = true := by
          simp only [bne_iff_ne, ne_eq]
          intro h
          exact hb (UInt8.toNat_inj.1 (by show (s[j]).toNat = 39; omega))
        have HV := Lib.hid (show z = endV s.data.toList (j + 1) by
          rw [hE.out]; unfold endV
          rw [endF_no HJ.out hb])
        clear hb
        go_wp2
        go_round
        case rel => exact ⟨j + 1, by omega, by go_num, HV⟩
        case measure => simp [intOf]; omega
    · have HV := Lib.hid (show z = -1 by
        rw [hE.out]; unfold endV
        rw [List.drop_of_length_le (by simp; omega), endF])
      go_wp2
      go_ret
      exact ⟨ret_int HV.out.symm, rfl⟩
theorem pEnd (s : ByteArray) (k : Int) (w : World) (hs : s.size ≤ 5000) : Calls Tryd.prog 13 #[.string s, .int .i64 k] w fun e w' => e = .returned (.int .i64 (endAt s.data.toList k)) ∧ w.grownBy w' none :=
  (pEnd0 s k w hs).mono fun _ _ ⟨h, g⟩ => ⟨h, g ▸ World.grownBy.refl _ _⟩
end Go.Proofs.YtolapbhmfljicaaDoor

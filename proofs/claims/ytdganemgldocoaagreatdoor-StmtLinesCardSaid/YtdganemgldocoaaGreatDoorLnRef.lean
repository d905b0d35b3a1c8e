/- The document's own answers of layer 12: physical lines, a text without blanks at its ends, where a comment begins. -/
import Derived.Test.YtdganemgldocoaaGreatDoorLnRow
namespace Go.Proofs.YtdganemgldocoaaGreatDoor
open Go.RowKit

theorem toList_rest (s : ByteArray) (j : Nat) : (s.extract j s.size).data.toList = s.data.toList.drop j := by
  have e1 : (s.extract j s.size).data.toList = (s.data.toList.drop j).take (s.size - j) := by simp
  rw [e1, List.take_of_length_le (by simp)]
theorem toList_cut2 (s : ByteArray) (j e : Nat) : (s.extract j e).data.toList = (s.data.toList.take e).drop j := by
  have e1 : (s.extract j e).data.toList = (s.data.toList.drop j).take (e - j) := by simp
  rw [e1, List.drop_take]
theorem lin_take {l : List UInt8} {f i : Nat} (hf : f ≤ i) (O : List (List UInt8)) {b : UInt8} (hb : l[i]? = some b) (h10 : b ≠ 10) : linA ((l.take i).drop f) O (l.drop i) = linA ((l.take (i + 1)).drop f) O (l.drop (i + 1)) := by
  have hi := (List.getElem?_eq_some_iff.1 hb).1
  rw [drop_at hb, linA_byte h10]
  congr 1
  rw [List.take_add_one, hb, List.drop_append, List.length_take, show f - min i l.length = 0 by omega]; rfl
theorem lin_cut {l : List UInt8} {f i : Nat} (O : List (List UInt8)) (hb : l[i]? = some 10) : linA ((l.take i).drop f) O (l.drop i) = linA ((l.take (i + 1)).drop (i + 1)) (O ++ [(l.take i).drop f]) (l.drop (i + 1)) := by
  rw [drop_at hb, linA_feed, show (l.take (i + 1)).drop (i + 1) = [] from List.drop_of_length_le (by rw [List.length_take]; omega)]
set_option maxRecDepth 100000 in
set_option maxHeartbeats 4000000 in
theorem dLines (s : ByteArray) (w : World) (hs : s.size ≤ 5000) : Calls Tryz.prog 28 #[.string s] w (TxOut (linQ s.data.toList) w) := by
  obtain ⟨iu, hiu, hu0, hu1, hu2⟩ := info_parts infoTx
  have IU := Lib.hid hiu; have ZU0 := Lib.hid hu0; have ZU1 := Lib.hid hu1; have ZU2 := Lib.hid hu2
  have O1 := Lib.hid (tx_zero w 9 w.heap.size (Nat.le_refl _))
  have G1 := Lib.hid (World.grownBy_alloc w (.cells #[] 9) none)
  have hlen : s.data.toList.length = s.size := by simp
  have HLN := Lib.hid hlen
  clear hiu hu0 hu1 hu2 hlen
  go_enter Tryz.func28, Tryz.ntmps28
  go_upto_region 2 with fail
  generalize w.alloc _ = w1 at O1 G1 ⊢
  obtain ⟨base, hbase⟩ : ∃ base, base = w.heap.size := ⟨_, rfl⟩
  rw [← hbase] at O1 ⊢
  have HBL := Lib.hid (show w.heap.size = base from hbase.symm)
  clear hbase
  go_wp2
  go_loopw [3, 4, 5] (fun o f i wr => ∃ (j k : Nat) (O : List ByteArray) (va : Option Addr) (vc : Nat), j ≤ s.size ∧ k ≤ j ∧ i = .int .i64 j ∧ f = .int .i64 k ∧ o = .slice va O.length vc ∧ O.length ≤ j ∧ Hid (linQ s.data.toList = linA ((s.data.toList.take j).drop k) (txL O) (s.data.toList.drop j)) ∧ Hid (wr.ownsRow base 9 1 (.slice va O.length vc) O.length (txV O)) ∧ Hid (w.grownBy wr none)) (fun _ _ i _ => s.size - (intOf i).toNat)
  case atStart => exact ⟨0, 0, [], _, _, by omega, by omega, rfl, rfl, rfl, by decide, Lib.hid (by simp [txL, linQ]), O1, G1⟩
  case round =>
    obtain ⟨j, k, O, va, vc, hj, hkj, rfl, rfl, rfl, hO, hI, hR, hG⟩ := hrel
    by_cases hlt : j < s.size
    · have HJ := Lib.hid (list_at hlt)
      by_cases hb : s[j] = 10
      · have e1 : (((s[j]).toNat : Int) == 10) = true := by rw [hb]; rfl
        obtain ⟨x, hx⟩ : ∃ x, s.extract k j = x := ⟨_, rfl⟩
        have HX := Lib.hid hx
        have HN := Lib.hid (show linQ s.data.toList = linA ((s.data.toList.take (j + 1)).drop (j + 1)) (txL (O ++ [x])) (s.data.toList.drop (j + 1)) by
          rw [hI.out, lin_cut _ (by rw [HJ.out, hb]), ← hx]
          congr 1
          simp only [txL, List.map_append, List.map_cons, List.map_nil, toList_cut2])
        clear hb hx hI
        go_wp2_with (at_builtin; rw [HX.out]; refine wpList_append_own _ rfl _ _ 40 rfl base 9 iu _ 1 16 Tryz.underlying40 IU.out ZU0.out ZU1.out ZU2.out rfl (by decide) _ _ _ rfl (hR.out.alloc _) ⟨_, 0, none⟩ 1 1 [.string x] rfl rfl (tx_new _ _ _ _ (by simp)) (tx_one _) (by unfold maxLen; omega) (by omega) (by have := hG.out.size; have := HBL.out; simp; omega) ?_; intro v9 w9 hown9 hgrow9 _; have G9 := Lib.hid ((hG.out.trans (World.grownBy_alloc _ _ _)).andThen hgrow9 (fun k hk => .inl (by have := (hR.out.lt k hk).1; have := HBL.out; omega))); have O9 := Lib.hid hown9; clear hown9 hgrow9)
        obtain ⟨va9, vc9, rfl⟩ := tx_shape O9.out
        have HL2 := Lib.hid (show (O ++ [x]).length = O.length + 1 by simp)
        have OA := Lib.hid (show w9.ownsRow base 9 1 (.slice va9 (O ++ [x]).length vc9) (O ++ [x]).length (txV (O ++ [x])) by rw [HL2.out, txV, List.map_append]; exact O9.out)
        go_wp2
        go_roundw
        case rel => exact ⟨j + 1, j + 1, O ++ [x], va9, vc9, by omega, by omega, by go_num, by go_num, by rw [HL2.out], by rw [HL2.out]; omega, HN, OA, G9⟩
        case measure => simp [intOf]; omega
      · have e1 : (((s[j]).toNat : Int) == 10) = false := by
          simp only [beq_eq_false_iff_ne, ne_eq]
          intro h
          exact hb (UInt8.toNat_inj.1 (by show (s[j]).toNat = 10; omega))
        have HN := Lib.hid (hI.out.trans (lin_take hkj _ HJ.out hb))
        clear hb hI
        go_wp2
        go_roundw
        case rel => exact ⟨j + 1, k, O, va, vc, by omega, by omega, by go_num, rfl, rfl, by omega, HN, hR, hG⟩
        case measure => simp [intOf]; omega
    · obtain rfl : j = s.size := by omega
      have hI2 := hI.out
      rw [show s.data.toList.drop s.size = [] from List.drop_of_length_le (by rw [HLN.out]; omega), List.take_of_length_le (by rw [HLN.out]; omega), linA_nil] at hI2
      by_cases hk : k < s.size
      · obtain ⟨x, hx⟩ : ∃ x, s.extract k s.size = x := ⟨_, rfl⟩
        have HX := Lib.hid hx
        have HN := Lib.hid (show txL (O ++ [x]) = linQ s.data.toList by
          rw [hI2, if_neg (by
            intro h
            have := congrArg List.length (List.isEmpty_iff.1 h)
            rw [List.length_drop, HLN.out, List.length_nil] at this; omega), ← hx]
          simp only [txL, List.map_append, List.map_cons, List.map_nil, toList_rest])
        clear hx hI hI2
        go_wp2_with (at_builtin; rw [HX.out]; refine wpList_append_own _ rfl _ _ 40 rfl base 9 iu _ 1 16 Tryz.underlying40 IU.out ZU0.out ZU1.out ZU2.out rfl (by decide) _ _ _ rfl (hR.out.alloc _) ⟨_, 0, none⟩ 1 1 [.string x] rfl rfl (tx_new _ _ _ _ (by simp)) (tx_one _) (by unfold maxLen; omega) (by omega) (by have := hG.out.size; have := HBL.out; simp; omega) ?_; intro v9 w9 hown9 hgrow9 _; have G9 := Lib.hid ((hG.out.trans (World.grownBy_alloc _ _ _)).andThen hgrow9 (fun k hk => .inl (by have := (hR.out.lt k hk).1; have := HBL.out; omega))); have O9 := Lib.hid hown9; clear hown9 hgrow9)
        have HL2 := Lib.hid (show (O ++ [x]).length = O.length + 1 by simp)
        have OA := Lib.hid (show w9.ownsRow base 9 1 v9 (O ++ [x]).length (txV (O ++ [x])) by rw [HL2.out, txV, List.map_append]; exact O9.out)
        go_wp2
        go_ret
        exact ⟨⟨_, O ++ [x], rfl, by rw [HBL.out]; exact OA.out, HN.out⟩, G9.out⟩
      · have HN := Lib.hid (show txL O = linQ s.data.toList by
          rw [hI2, if_pos (by rw [List.drop_of_length_le (by rw [HLN.out]; omega)]; rfl)])
        clear hI hI2
        go_wp2
        go_ret
        exact ⟨⟨_, O, rfl, by rw [HBL.out]; exact hR.out, HN.out⟩, hG.out⟩

theorem bt_nat (b : UInt8) : btQ b = (((b.toNat : Int) == 32) || ((b.toNat : Int) == 9)) := by
  unfold btQ
  rw [Bool.eq_iff_iff]
  simp only [Bool.or_eq_true, beq_iff_eq, ← UInt8.toNat_inj]
  show (b.toNat = 32 ∨ b.toNat = 9) ↔ _
  omega
theorem bt_two (b : UInt8) : ∃ f g : Bool, ((b.toNat : Int) == 32) = f ∧ ((b.toNat : Int) == 9) = g ∧ btQ b = (f || g) := ⟨_, _, rfl, rfl, bt_nat b⟩
theorem list_cons {s : ByteArray} (h : 0 < s.size) : s.data.toList = s[0] :: s.data.toList.drop 1 := drop_at (l := s.data.toList) (k := 0) (list_at h)
theorem list_snoc {s : ByteArray} {n : Nat} (h : s.size = n + 1) : s.data.toList = (s.extract 0 n).data.toList ++ [s[n]] := by
  have e := list_at (s := s) (i := n) (by omega)
  have e2 := List.take_add_one (l := s.data.toList) (i := n)
  rw [List.take_of_length_le (by simp; omega), e] at e2
  rw [toList_cut2, List.drop_zero]; exact e2
set_option maxRecDepth 100000 in
set_option maxHeartbeats 4000000 in
theorem dTrim (s : ByteArray) (w : World) (hs : s.size ≤ 100000000) : Calls Tryz.prog 30 #[.string s] w fun e w' => (∃ t : ByteArray, e = .returned (.string t) ∧ t.data.toList = trQ s.data.toList ∧ t.size ≤ s.size) ∧ w = w' := by
  obtain ⟨n0, hn0⟩ : ∃ n0, n0 = s.size := ⟨_, rfl⟩
  obtain ⟨X, hX⟩ : ∃ X, s.data.toList.dropWhile btQ = X := ⟨_, rfl⟩
  have hY : trQ s.data.toList = tlQ X := by unfold trQ; rw [hX]
  rw [hY, ← hn0]
  have HX := Lib.hid hX
  have hz : s.size ≤ n0 := by omega
  have hn1 : n0 ≤ 100000000 := by omega
  clear hX hY hn0
  go_enter Tryz.func30, Tryz.ntmps30
  go_wp2
  go_loop [0] (fun v => ∃ t : ByteArray, v = .string t ∧ t.size ≤ n0 ∧ Hid (t.data.toList.dropWhile btQ = X)) (fun v => match v with | .string t => t.size | _ => 0)
  case atStart => exact ⟨s, rfl, hz, HX⟩
  case round =>
    obtain ⟨t, rfl, ht, hT⟩ := hrel
    by_cases hgo : ∃ h : 0 < t.size, btQ t[0] = true
    · obtain ⟨h0, hb⟩ := hgo
      obtain ⟨f, g, e1, e2, e3⟩ := bt_two t[0]
      have HT := Lib.hid (show (t.extract 1 t.size).data.toList.dropWhile btQ = X by
        rw [toList_rest, ← hT.out, list_cons h0, List.dropWhile_cons_of_pos hb]; simp)
      have hz1 : (t.extract 1 t.size).size = t.size - 1 := by simp
      rw [hb] at e3
      clear hb
      cases f <;> cases g
      all_goals first | (exact absurd e3 (by decide)) | skip
      all_goals
        clear e3
        go_wp2
        go_round
        case rel => exact ⟨_, rfl, by omega, HT⟩
        case measure => simp; omega
    · have HT := Lib.hid (show t.data.toList = X by
        rw [← hT.out]
        by_cases h0 : 0 < t.size
        · rw [list_cons h0, List.dropWhile_cons_of_neg (fun h => hgo ⟨h0, h⟩)]
        · rw [List.eq_nil_of_length_eq_zero (show t.data.toList.length = 0 by rw [Array.length_toList]; have h2 : t.data.size = t.size := rfl; omega)]; rfl)
      have hw : t.size = 0 ∨ (0 < t.size ∧ ∃ h : 0 < t.size, ((t[0].toNat : Int) == 32) = false ∧ ((t[0].toNat : Int) == 9) = false) := by
        by_cases h0 : 0 < t.size
        · right
          have : btQ t[0] = false := by
            cases hq : btQ t[0] with
            | false => rfl
            | true => exact absurd ⟨h0, hq⟩ hgo
          rw [bt_nat, Bool.or_eq_false_iff] at this
          exact ⟨h0, h0, this⟩
        · left; omega
      clear hgo hT
      rcases hw with hw | ⟨hw, h0, e1, e2⟩
      all_goals
        go_wp2
        go_loop [0] (fun v => ∃ t : ByteArray, v = .string t ∧ t.size ≤ n0 ∧ Hid (tlQ t.data.toList = tlQ X)) (fun v => match v with | .string t => t.size | _ => 0)
        case atStart => exact ⟨t, rfl, ht, Lib.hid (by rw [HT.out])⟩
        case round =>
          clear HT
          obtain ⟨u, rfl, hu, hU⟩ := hrel
          cases hn : u.size with
          | zero =>
            have HF := Lib.hid (show u.data.toList = tlQ X by
              rw [← hU.out, List.eq_nil_of_length_eq_zero (show u.data.toList.length = 0 by rw [Array.length_toList]; have h2 : u.data.size = u.size := rfl; omega)]; rfl)
            go_wp2
            go_ret
            exact ⟨⟨u, rfl, HF.out, hu⟩, rfl⟩
          | succ n =>
            have hlt : n < u.size := by omega
            obtain ⟨f, g, d1, d2, d3⟩ := bt_two u[n]
            have HC := Lib.hid (list_snoc hn)
            have hidx : (u.size : Int) - 1 = n := by omega
            have hwr : wrap64 (n : Int) = n := IntWalk.wrap64_in _ ⟨by omega, by omega⟩
            cases hb : btQ u[n]
            · have HF := Lib.hid (show u.data.toList = tlQ X by rw [← hU.out, HC.out, tl_off hb])
              rw [hb] at d3
              obtain ⟨rfl, rfl⟩ : f = false ∧ g = false := by cases f <;> cases g <;> first | (exact absurd d3 (by decide)) | exact ⟨rfl, rfl⟩
              clear hb d3 hU
              go_wp2
              go_ret
              exact ⟨⟨u, rfl, HF.out, hu⟩, rfl⟩
            · have HF := Lib.hid (show tlQ (u.extract 0 n).data.toList = tlQ X by rw [← hU.out, HC.out, tl_on hb])
              have hz2 : (u.extract 0 n).size = n := by simp; omega
              rw [hb] at d3
              clear hb hU
              cases f <;> cases g
              all_goals first | (exact absurd d3 (by decide)) | skip
              all_goals
                clear d3
                go_wp2
                go_round
                case rel => exact ⟨_, rfl, by omega, HF⟩
                case measure => simp; omega

end Go.Proofs.YtdganemgldocoaaGreatDoor

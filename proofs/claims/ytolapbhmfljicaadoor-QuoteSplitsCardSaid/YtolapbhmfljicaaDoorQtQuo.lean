/- Walks of package quote: which texts are plain, a text with quotes, texts in one. -/
import Derived.Test.YtolapbhmfljicaaDoorQtBld
import Derived.Lib.ReplaceLaws
namespace Go.Proofs.YtolapbhmfljicaaDoor
open Go.RowKit

abbrev specB : ByteArray := ⟨#[35, 36, 96, 58, 61, 60, 92, 59, 38, 124, 40, 41, 123, 125, 91, 93, 42, 63, 94, 126]⟩
set_option maxRecDepth 100000 in
theorem pln_fin : ∀ n : Fin 256, plnQ (UInt8.ofNat n.val) = (!blkQ (UInt8.ofNat n.val) && (UInt8.ofNat n.val != 39) && decide (Lib.indexByte specB.data.toList (UInt8.ofNat n.val) < 0)) := by decide +kernel
theorem pln_parts (b : UInt8) : plnQ b = (!blkQ b && (b != 39) && decide (Lib.indexByte specB.data.toList b < 0)) := by
  have := pln_fin ⟨b.toNat, b.toNat_lt⟩
  simpa using this
set_option maxRecDepth 100000 in
set_option maxHeartbeats 1000000 in
theorem pPlainByte (b : UInt8) (w : World) : Calls Tryd.prog 29 #[.int .u8 b.toNat] w fun e w' => e = .returned (.bool (plnQ b)) ∧ w = w' := by
  have HP := Lib.hid (pln_parts b)
  have CB := Lib.hid (pBlank0 b w)
  have CI := Tryd.strings_IndexByte specB b.toNat w
  rw [Lib.byte_back] at CI
  generalize plnQ b = z at HP ⊢
  generalize Lib.indexByte specB.data.toList b = v at HP CI
  have CI := Lib.hid CI
  have e39 : ((b.toNat : Int) != 39) = (b != 39) := by
    rw [Bool.eq_iff_iff]
    simp only [bne_iff_ne, ne_eq, ← UInt8.toNat_inj]
    show ¬((b.toNat : Int) = 39) ↔ ¬(b.toNat = 39)
    omega
  generalize (b != 39) = f at HP e39
  generalize blkQ b = g at HP CB
  go_enter Tryd.func29, Tryd.ntmps29
  by_cases hv : v < 0
  · rw [decide_eq_true hv] at HP
    cases f <;> cases g
    all_goals
      go_wp2_with (first
        | (go_at_call 19; (with_reducible refine CB.out.mono ?_); rintro e w3 ⟨rfl, rfl⟩)
        | (go_at_call 37; (with_reducible refine CI.out.mono ?_); rintro e w4 ⟨rfl, rfl⟩))
      go_ret
      exact ⟨ret_bool (HP.out.trans (by first | rfl | simp [hv])).symm, rfl⟩
  · rw [decide_eq_false hv] at HP
    cases f <;> cases g
    all_goals
      go_wp2_with (first
        | (go_at_call 19; (with_reducible refine CB.out.mono ?_); rintro e w3 ⟨rfl, rfl⟩)
        | (go_at_call 37; (with_reducible refine CI.out.mono ?_); rintro e w4 ⟨rfl, rfl⟩))
      go_ret
      exact ⟨ret_bool (HP.out.trans (by first | rfl | simp [hv])).symm, rfl⟩
set_option maxRecDepth 100000 in
set_option maxHeartbeats 1000000 in
theorem pPlain (s : ByteArray) (w : World) (hs : s.size ≤ 5000) : Calls Tryd.prog 15 #[.string s] w fun e w' => e = .returned (.bool (plainQ s.data.toList)) ∧ w.grownBy w' none := by
  have HN := Lib.hid (show ∀ i b, s.data.toList[i]? = some b → plnQ b = false → plainQ s.data.toList = false from fun i b h hb => by
    unfold plainQ
    rw [Bool.and_eq_false_iff]; right
    rw [List.all_eq_false]
    exact ⟨b, List.mem_of_getElem? h, by simp [hb]⟩)
  have HY := Lib.hid (show s.data.toList.all plnQ = true → plainQ s.data.toList = !s.toList.isEmpty from fun h => by
    unfold plainQ
    rw [h, Bool.and_true, Lib.toList_data])
  generalize plainQ s.data.toList = z at HN HY ⊢
  go_enter Tryd.func15, Tryd.ntmps15
  go_wp2
  go_loop [3, 6] (fun _ i => ∃ j : Nat, j ≤ s.size ∧ i = .int .i64 j ∧ Hid ((s.data.toList.take j).all plnQ = true)) (fun _ i => s.size - (intOf i).toNat)
  case atStart => exact ⟨0, Nat.zero_le _, rfl, Lib.hid rfl⟩
  case round =>
    obtain ⟨j, hj, rfl, hA⟩ := hrel
    by_cases hlt : j < s.size
    · have HJ := Lib.hid (list_at hlt)
      have CP := Lib.hid (fun w => pPlainByte s[j] w)
      cases hb : plnQ s[j]
      · have HZ := Lib.hid (HN.out j _ HJ.out hb)
        rw [hb] at CP
        clear hb
        go_wp2_with (go_at_call 29; (with_reducible refine (CP.out _).mono ?_); rintro e w3 ⟨rfl, rfl⟩)
        go_ret
        exact ⟨ret_bool HZ.out.symm, World.grownBy.refl _ _⟩
      · have HA := Lib.hid (show (s.data.toList.take (j + 1)).all plnQ = true by rw [pln_take HJ.out, hA.out, hb]; rfl)
        rw [hb] at CP
        clear hb
        go_wp2_with (go_at_call 29; (with_reducible refine (CP.out _).mono ?_); rintro e w3 ⟨rfl, rfl⟩)
        go_round
        case rel => exact ⟨j + 1, by omega, by go_num, HA⟩
        case measure => simp [intOf]; omega
    · obtain rfl : j = s.size := by omega
      have HZ := Lib.hid (HY.out (by have := hA.out; rwa [List.take_of_length_le (by simp)] at this))
      go_wp2
      go_ret
      exact ⟨ret_bool HZ.out.symm, World.grownBy.refl _ _⟩

theorem some_text (l : List UInt8) : ∃ t : ByteArray, (⟨l.toArray⟩ : ByteArray) = t ∧ t.data.toList = l ∧ t.size = l.length := ⟨_, rfl, by simp, Lib.size_mk l⟩
set_option maxRecDepth 100000 in
set_option maxHeartbeats 1000000 in
theorem pQuote (s : ByteArray) (w : World) (hM : MaxI w) (hs : s.size ≤ 5000) : Calls Tryd.prog 17 #[.string s] w (PTxt (quoQ s.data.toList) w) := by
  have CP := Lib.hid (pPlain s w hs)
  have HM := Lib.hid hM
  clear hM
  cases hp : plainQ s.data.toList
  · rw [hp] at CP
    obtain ⟨t, ht, hl, hz⟩ := some_text (twoQ s.data.toList)
    have hz2 : t.size ≤ 10000 := by
      have := two_len s.data.toList
      simp only [Array.length_toList] at this
      have h2 : s.data.size = s.size := rfl
      omega
    have CR := Lib.hid (show ∀ W, w.grownBy W none → Calls Tryd.prog 30 #[.string s, .string ⟨#[39]⟩, .string ⟨#[39, 39]⟩] W fun e w' => e = .returned (.string t) ∧ W.grownBy w' none from fun W g => by
      obtain ⟨m, hm⟩ := HM.out.grown g
      have h1 := Lib.countB_mul_le ⟨#[39]⟩ (by decide) s.size s (Nat.le_refl _)
      refine (Tryd.strings_ReplaceAll s ⟨#[39]⟩ ⟨#[39, 39]⟩ m W (by omega) hm (by decide) (by
        have e1 : (⟨#[39]⟩ : ByteArray).size = 1 := rfl
        have e2 : (⟨#[39, 39]⟩ : ByteArray).size = 2 := rfl
        rw [e1] at h1; rw [e2]; omega)).mono fun e w' ⟨he, hb⟩ => ⟨?_, grown_of_below hb⟩
      rw [he, ← ht]
      congr 3
      exact congrArg List.toArray (rep_two s.data.toList))
    have HF := Lib.hid (show ((⟨#[39]⟩ : ByteArray) ++ t ++ (⟨#[39]⟩ : ByteArray)).data.toList = quoQ s.data.toList by
      rw [toList_app, toList_app, hl]
      unfold quoQ
      rw [hp]; rfl)
    clear hp hl ht hz
    go_enter Tryd.func17, Tryd.ntmps17
    go_wp2_with (first
      | (go_at_call 15; (with_reducible refine CP.out.mono ?_); rintro e w1 ⟨rfl, g1⟩; have G1 := Lib.hid g1; clear g1)
      | (go_at_call 30; (with_reducible refine (CR.out _ G1.out).mono ?_); rintro e w2 ⟨rfl, g2⟩; have G2 := Lib.hid (G1.out.trans g2); clear g2))
    go_ret
    exact ⟨G2.out, _, rfl, HF.out⟩
  · rw [hp] at CP
    have HQ := Lib.hid (show quoQ s.data.toList = s.data.toList by unfold quoQ; rw [hp]; rfl)
    clear hp
    go_enter Tryd.func17, Tryd.ntmps17
    go_wp2_with (go_at_call 15; (with_reducible refine CP.out.mono ?_); rintro e w1 ⟨rfl, g1⟩; have G1 := Lib.hid g1; clear g1)
    go_ret
    exact ⟨G1.out, s, rfl, HQ.out.symm⟩

theorem txL_take {O : List ByteArray} {k : Nat} {x : ByteArray} (h : O[k]? = some x) : txL (O.take (k + 1)) = txL (O.take k) ++ [x.data.toList] := by
  rw [List.take_add_one, h, txL, List.map_append]; rfl
set_option maxRecDepth 100000 in
set_option maxHeartbeats 4000000 in
theorem pJoin (v : Value) (O : List ByteArray) (w : World) (hM : MaxI w) (h : TxRow w v O) (h20 : O.length ≤ 20) (h60 : ∀ x ∈ O, x.size ≤ 60) : Calls Tryd.prog 23 #[v] w (PTxt (joinQ (txL O)) w) := by
  obtain ⟨iu, hiu, hu0, hu1, hu2⟩ := info_parts infoTx
  have IU := Lib.hid hiu; have ZU0 := Lib.hid hu0; have ZU1 := Lib.hid hu1; have ZU2 := Lib.hid hu2
  clear hiu hu0 hu1 hu2
  have HM := Lib.hid hM
  have HR := Lib.hid h
  have H60 := Lib.hid h60
  have HJL := Lib.hid (show (joinQ (txL O)).length ≤ 5000 by
    have h1 := join_len (n := 60) (txL O) (by
      intro x hx
      obtain ⟨y, hy, rfl⟩ := List.mem_map.1 hx
      simpa using h60 y hy)
    simp only [List.length_map] at h1
    omega)
  obtain ⟨base, hbase⟩ : ∃ base, base = w.heap.size := ⟨_, rfl⟩
  have HBL := Lib.hid (show w.heap.size = base from hbase.symm)
  obtain ⟨a, c, rfl, -, -⟩ := h
  clear hM h60 hbase
  go_enter Tryd.func23, Tryd.ntmps23
  go_wp2
  go_loopw [3, 5, 8] (fun o _ i wr => ∃ (j : Nat) (Q : List ByteArray) (va : Option Addr) (vc : Nat), j ≤ O.length ∧ i = .int .i64 j ∧ o = .slice va Q.length vc ∧ Q.length ≤ j ∧ Hid (txL Q = (txL (O.take j)).map quoQ) ∧ Hid (wr.ownsRow base 9 1 (.slice va Q.length vc) Q.length (txV Q)) ∧ Hid (w.grownBy wr none)) (fun _ _ i _ => O.length - (intOf i).toNat)
  case atStart => exact ⟨0, [], _, _, Nat.zero_le _, rfl, rfl, Nat.zero_le _, Lib.hid rfl, Lib.hid (tx_nil _ _ _), Lib.hid (World.grownBy.refl _ _)⟩
  case round =>
    obtain ⟨j, Q, va, vc, hj, rfl, rfl, hQ, hT, hO, hG⟩ := hrel
    by_cases hlt : j < O.length
    · obtain ⟨x, hx⟩ := tx_get O j hlt
      obtain ⟨a', c', e, -, hr⟩ := HR.out.grown hG.out
      injection e with e1 e2 e3
      subst e1 e3
      obtain ⟨b1, off1, rfl, hb1, hc1⟩ := hr (by intro e; rw [e] at hlt; simp at hlt)
      have hcell := hc1 j x hx
      have hx60 := H60.out x (List.mem_of_getElem? hx)
      have CQ := Lib.hid (fun W (g : w.grownBy W none) => pQuote x W (HM.out.grown g) (by omega))
      have HX := Lib.hid hx
      clear hr hc1 hx
      go_wp2_with (first
        | (go_at_call 17; (with_reducible refine (CQ.out _ hG.out).mono ?_); rintro e w2 ⟨g2, t, rfl, ht⟩; have G2 := Lib.hid (hG.out.trans g2); have O2 := Lib.hid (hO.out.kept g2 (by cases va with | none => exact .inl rfl | some g => exact .inr (by simp [Value.ownBlock]))); have HT2 := Lib.hid ht; clear g2 ht)
        | (at_builtin; refine wpList_append_own _ rfl _ _ 23 rfl base 9 iu _ 1 16 Tryd.underlying23 IU.out ZU0.out ZU1.out ZU2.out rfl (by decide) _ _ _ rfl (O2.out.alloc _) ⟨_, 0, none⟩ 1 1 [.string t] rfl rfl (tx_new _ _ _ _ (by simp)) (tx_one _) (by unfold maxLen; omega) (by omega) (by have := G2.out.size; have := HBL.out; simp; omega) ?_; intro v9 w9 hown9 hgrow9 _; have G9 := Lib.hid ((G2.out.trans (World.grownBy_alloc _ _ _)).andThen hgrow9 (fun k hk => .inl (by have := (O2.out.lt k hk).1; have := HBL.out; omega))); have O9 := Lib.hid hown9; clear hown9 hgrow9))
      obtain ⟨va9, vc9, rfl⟩ := tx_shape O9.out
      have HL2 := Lib.hid (show (Q ++ [t]).length = Q.length + 1 by simp)
      have OA := Lib.hid (show w9.ownsRow base 9 1 (.slice va9 (Q ++ [t]).length vc9) (Q ++ [t]).length (txV (Q ++ [t])) by rw [HL2.out, txV, List.map_append]; exact O9.out)
      have HT := Lib.hid (show txL (Q ++ [t]) = (txL (O.take (j + 1))).map quoQ by
        rw [txL_take HX.out, List.map_append, ← hT.out, txL, List.map_append, List.map_cons, List.map_nil, HT2.out]; rfl)
      go_wp2
      go_roundw
      case rel => exact ⟨j + 1, Q ++ [t], va9, vc9, by omega, by go_num, by rw [HL2.out], by rw [HL2.out]; omega, HT, OA, G9⟩
      case measure => simp [intOf]; omega
    · obtain rfl : j = O.length := by omega
      have HT := Lib.hid (show txL Q = (txL O).map quoQ by rw [hT.out, List.take_of_length_le (Nat.le_refl _)])
      have HJ := Lib.hid (show Lib.join (txL Q) [32] = joinQ (txL O) by rw [HT.out]; exact join_lib (txL O))
      have CJ := Lib.hid (show Calls Tryd.prog 31 #[.slice va Q.length vc, .string ⟨#[32]⟩] wr fun e w' => (∃ t : ByteArray, e = .returned (.string t) ∧ t.data.toList = joinQ (txL O)) ∧ w.grownBy w' none by
        by_cases hq : Q = []
        · subst hq
          refine (Any.strings_Join_none Tryd.lays156 Tryd.Builder_Extra_156 va vc ⟨#[32]⟩ wr).mono ?_
          rintro e w' ⟨rfl, rfl⟩
          exact ⟨⟨_, rfl, by rw [← HJ.out]; rfl⟩, hG.out⟩
        · rcases hO.out.2 with ⟨e, h0⟩ | ⟨g, cap', cur, e, -, hg, hcap, -⟩
          · exact absurd (List.eq_nil_of_length_eq_zero h0) hq
          · cases e
            refine (Tryd.strings_Join g 0 vc Q ⟨#[32]⟩ wr (fun i x hx => ?_) (hO.out.lt g rfl).2 (by omega) hcap (by
              show (Lib.join (txL Q) [32]).length ≤ _
              rw [HJ.out]
              have := HJL.out
              omega)).mono ?_
            · have := hO.out.cells (g := g) rfl i (.string x) (by rw [List.getElem?_map, hx]; rfl)
              rwa [Addr.add_lit] at this
            · rintro e w' ⟨rfl, hb⟩
              exact ⟨⟨_, rfl, HJ.out⟩, hG.out.trans (grown_of_below hb)⟩)
      go_wp2_with (go_at_call 31; (with_reducible refine CJ.out.mono ?_); rintro e w2 ⟨⟨t, rfl, ht⟩, g2⟩; have HF := Lib.hid ht; have GF := Lib.hid g2; clear ht g2)
      go_ret
      exact ⟨GF.out, _, rfl, HF.out⟩
end Go.Proofs.YtolapbhmfljicaaDoor

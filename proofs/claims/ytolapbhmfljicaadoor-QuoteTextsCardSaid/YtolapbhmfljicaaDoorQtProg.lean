/- Walks of package quote: a word with its quoted parts, the words of a text. -/
import Derived.Test.YtolapbhmfljicaaDoorQtQuo
namespace Go.Proofs.YtolapbhmfljicaaDoor
open Go.RowKit

theorem endAt_val {l : List UInt8} {j : Nat} (h : l[j]? = some 39) : (endF (l.drop (j + 1)) (j + 1) = none ∧ endAt l j = -1) ∨ (∃ f : Nat, endF (l.drop (j + 1)) (j + 1) = some (f + 1) ∧ endAt l j = (f : Int) + 1 ∧ j + 1 ≤ f ∧ f + 1 ≤ l.length) := by
  rw [endAt_yes h]
  unfold endV
  cases he : endF (l.drop (j + 1)) (j + 1) with
  | none => exact .inl ⟨rfl, rfl⟩
  | some e =>
    have h1 := endF_le _ _ _ he
    rw [List.length_drop] at h1
    have h2 := (List.getElem?_eq_some_iff.1 h).1
    obtain ⟨f, rfl⟩ : ∃ f, e = f + 1 := ⟨e - 1, by omega⟩
    exact .inr ⟨f, rfl, by simp, by omega, by omega⟩
/-- what wordAt answers of the word that begins at k -/
def PWord (l : List UInt8) (k : Nat) (w : World) (e : Ending) (w' : World) : Prop :=
  w.grownBy w' none ∧ ∃ (t : ByteArray) (q : Int), e = .returned (.tuple #[.string t, .int .i64 q]) ∧
    ((q = -1 ∧ ∀ O, outQ l O k = none) ∨ (∃ j : Nat, q = j ∧ k < j ∧ j ≤ l.length ∧ ∀ O, outQ l O k = outQ l (O ++ [t.data.toList]) j))
set_option maxRecDepth 100000 in
set_option maxHeartbeats 4000000 in
theorem pWordAt (s : ByteArray) (k : Nat) (w : World) (hM : MaxI w) (hs : s.size ≤ 5000) (hk : k < s.size) (hnb : blkQ s[k] = false) : Calls Tryd.prog 26 #[.string s, .int .i64 k] w (PWord s.data.toList k w) := by
  have HM := Lib.hid hM
  have hlen : s.data.toList.length = s.size := by simp
  have HLN := Lib.hid hlen
  have HK := Lib.hid (list_at hk)
  have HNB := Lib.hid hnb
  have F0 := Lib.hid (show ∀ O, outQ s.data.toList O k = inQ s.data.toList [] O k from fun O => in_start HK.out hnb O)
  have BD := Lib.hid (Lib.fresh_isBuilder 54 5 w)
  have BL := Lib.hid ((Below.refl w.heap.size w).alloc (Nat.le_refl _) (.cells #[.pointer none, .slice none 0 0] 54))
  clear hM hnb hlen
  go_enter Tryd.func26, Tryd.ntmps26
  go_wp2
  generalize w.alloc (.cells #[.pointer none, .slice none 0 0] 54) = wb at *
  obtain ⟨b, hb⟩ : ∃ b, w.heap.size = b := ⟨_, rfl⟩
  rw [hb] at BD BL ⊢
  have HB := Lib.hid hb
  clear hb
  go_loopw [1] (fun i wr => ∃ (j : Nat) (W : List UInt8), k ≤ j ∧ j ≤ s.size ∧ i = .int .i64 j ∧ Hid (W.length ≤ j) ∧ Hid (∀ O, outQ s.data.toList O k = inQ s.data.toList W O j) ∧ Hid (BldQ b W wr) ∧ Hid (Below b w wr)) (fun i _ => s.size - (intOf i).toNat)
  case atStart => exact ⟨k, [], Nat.le_refl _, by omega, rfl, Lib.hid (Nat.zero_le _), F0, BD, BL⟩
  case round =>
    obtain ⟨j, W, hkj, hj, rfl, hW, hF, hBD, hBL⟩ := hrel
    have GR := Lib.hid (show w.grownBy wr none from grown_of_below (by rw [HB.out]; exact hBL.out))
    have hbs : b ≤ wr.heap.size := by have := hBL.out.size; have := HB.out; omega
    by_cases hlt : j < s.size
    · have HJ := Lib.hid (list_at hlt)
      have CB := Lib.hid (fun w => pBlank0 s[j] w)
      cases hb : blkQ s[j]
      · rw [hb] at CB
        by_cases h39 : s[j] = 39
        · -- a quoted part
          have e1 : (((s[j]).toNat : Int) != 39) = false := by rw [h39]; rfl
          have hq : s.data.toList[j]? = some 39 := by rw [HJ.out, h39]
          have CE := Lib.hid (fun w => pEnd0 s j w hs)
          rcases endAt_val hq with ⟨he, hv⟩ | ⟨f, he, hv, hf1, hf2⟩
          · rw [hv] at CE
            have HN := Lib.hid (show ∀ O, outQ s.data.toList O k = none from fun O => by rw [hF.out, in_none hq he])
            clear hb h39 hq he hv
            go_wp2_with (first
              | (go_at_call 19; (with_reducible refine (CB.out _).mono ?_); rintro e w3 ⟨rfl, rfl⟩)
              | (go_at_call 13; (with_reducible refine (CE.out _).mono ?_); rintro e w4 ⟨rfl, rfl⟩))
            go_ret2
            exact ⟨GR.out, _, _, rfl, .inl ⟨rfl, HN.out⟩⟩
          · rw [hv] at CE
            rw [HLN.out] at hf2
            obtain ⟨x, hx⟩ : ∃ x, s.extract (j + 1) f = x := ⟨_, rfl⟩
            have hxl : x.data.toList = (s.data.toList.take f).drop (j + 1) := by rw [← hx]; exact toList_cut _ _
            have hxz : x.size ≤ f - (j + 1) := by rw [← hx, ByteArray.size_extract]; omega
            obtain ⟨t, ht, hl, hz⟩ := some_text (unQ x.data.toList)
            have hz2 : t.size ≤ f - (j + 1) := by
              have := unQ_len x.data.toList
              simp only [Array.length_toList] at this
              have h2 : x.data.size = x.size := rfl
              rw [hz]; omega
            have HF := Lib.hid (show ∀ O, outQ s.data.toList O k = inQ s.data.toList (W ++ t.data.toList) O (f + 1) from fun O => by
              rw [hF.out, in_part hq he, hl, hxl]; rfl)
            have HWL := Lib.hid (show (W ++ t.data.toList).length ≤ f + 1 by
              have := hW.out
              simp only [List.length_append, Array.length_toList]
              have h2 : t.data.size = t.size := rfl
              omega)
            have CR := Lib.hid (show Calls Tryd.prog 30 #[.string x, .string ⟨#[39, 39]⟩, .string ⟨#[39]⟩] wr fun e w' => e = .returned (.string t) ∧ wr.grownBy w' none by
              obtain ⟨m, hm⟩ := HM.out.grown GR.out
              have h1 := Lib.countB_mul_le ⟨#[39, 39]⟩ (by decide) x.size x (Nat.le_refl _)
              refine (Tryd.strings_ReplaceAll x ⟨#[39, 39]⟩ ⟨#[39]⟩ m wr (by omega) hm (by decide) (by
                have e1 : (⟨#[39]⟩ : ByteArray).size = 1 := rfl
                have e2 : (⟨#[39, 39]⟩ : ByteArray).size = 2 := rfl
                rw [e2] at h1; rw [e1]; omega)).mono fun e w' ⟨he, hb⟩ => ⟨?_, grown_of_below hb⟩
              rw [he, ← ht]; rfl)
            have HX := Lib.hid hx
            have CT := Lib.hid (show ∀ w4, wr.grownBy w4 none → Calls Tryd.prog 33 #[.pointer (some ⟨b, 0, none⟩), .string t] w4 fun e w' => e = .returned (.tuple #[.int .i64 t.size, .nilIface]) ∧ BldQ b (W ++ t.data.toList) w' ∧ Below b w w' from fun w4 g => by
              have := hW.out
              refine (bText b W t w4 (hBD.out.kept g) (by omega) (by have := g.size; omega)).mono fun e w' ⟨h1, h2, h3⟩ => ⟨h1, h2, ?_⟩
              exact (hBL.out.trans ((below_of_grown g).mono hbs)).trans h3)
            clear hb h39 hq he hv hx hxl hxz ht hl hz hF hW hBD hBL
            go_wp2_with (first
              | (go_at_call 19; (with_reducible refine (CB.out _).mono ?_); rintro e w3 ⟨rfl, rfl⟩)
              | (go_at_call 13; (with_reducible refine (CE.out _).mono ?_); rintro e w4 ⟨rfl, rfl⟩)
              | (go_at_call 30; rw [HX.out]; (with_reducible refine CR.out.mono ?_); rintro e w5 ⟨rfl, g5⟩; have G5 := Lib.hid g5; clear g5)
              | (go_at_call 33; (with_reducible refine (CT.out _ G5.out).mono ?_); rintro e w6 ⟨rfl, b6, l6⟩; have B6 := Lib.hid b6; have L6 := Lib.hid l6; clear b6 l6))
            go_roundw
            case rel => exact ⟨f + 1, _, by omega, by omega, by go_num, HWL, HF, B6, L6⟩
            case measure => simp [intOf]; omega
        · -- a byte
          have e1 : (((s[j]).toNat : Int) != 39) = true := by
            simp only [bne_iff_ne, ne_eq]
            intro h
            exact h39 (UInt8.toNat_inj.1 (by show (s[j]).toNat = 39; omega))
          have HF := Lib.hid (show ∀ O, outQ s.data.toList O k = inQ s.data.toList (W ++ [s[j]]) O (j + 1) from fun O => by rw [hF.out, in_byte HJ.out hb h39])
          have HWL := Lib.hid (show (W ++ [s[j]]).length ≤ j + 1 by have := hW.out; simp; omega)
          have CT := Lib.hid (show Calls Tryd.prog 32 #[.pointer (some ⟨b, 0, none⟩), .int .u8 (s[j]).toNat] wr fun e w' => e = .returned .nilIface ∧ BldQ b (W ++ [s[j]]) w' ∧ Below b w w' by
            have := hW.out
            refine (bByte b W s[j] wr hBD.out (by omega) hbs).mono fun e w' ⟨h1, h2, h3⟩ => ⟨h1, h2, hBL.out.trans h3⟩)
          clear hb h39 hF hW hBD hBL
          go_wp2_with (first
            | (go_at_call 19; (with_reducible refine (CB.out _).mono ?_); rintro e w3 ⟨rfl, rfl⟩)
            | (go_at_call 32; (with_reducible refine CT.out.mono ?_); rintro e w6 ⟨rfl, b6, l6⟩; have B6 := Lib.hid b6; have L6 := Lib.hid l6; clear b6 l6))
          go_roundw
          case rel => exact ⟨j + 1, _, by omega, by omega, by go_num, HWL, HF, B6, L6⟩
          case measure => simp [intOf]; omega
      · -- a blank
        rw [hb] at CB
        have hne : k < j := by
          rcases Nat.lt_or_ge k j with h | h
          · exact h
          · obtain rfl : k = j := by omega
            have := HNB.out
            rw [hb] at this; cases this
        obtain ⟨t, ht, hl, hz⟩ := some_text W
        have HF := Lib.hid (show ∀ O, outQ s.data.toList O k = outQ s.data.toList (O ++ [t.data.toList]) j from fun O => by rw [hF.out, in_blank HJ.out hb, hl])
        have CS := Lib.hid (show Calls Tryd.prog 34 #[.pointer (some ⟨b, 0, none⟩)] wr fun e w' => e = .returned (.string t) ∧ w.grownBy w' none by
          refine (bSaid b W wr hBD.out hbs).mono fun e w' ⟨h1, h2⟩ => ⟨by rw [h1, ht], ?_⟩
          exact grown_of_below (by rw [HB.out]; exact hBL.out.trans h2))
        clear hb hl ht hz hF hW hBD hBL
        go_wp2_with (first
          | (go_at_call 19; (with_reducible refine (CB.out _).mono ?_); rintro e w3 ⟨rfl, rfl⟩)
          | (go_at_call 34; (with_reducible refine CS.out.mono ?_); rintro e w6 ⟨rfl, g6⟩; have G6 := Lib.hid g6; clear g6))
        go_ret2
        exact ⟨G6.out, _, _, rfl, .inr ⟨j, rfl, hne, by rw [HLN.out]; omega, HF.out⟩⟩
    · obtain ⟨t, ht, hl, hz⟩ := some_text W
      have HF := Lib.hid (show ∀ O, outQ s.data.toList O k = outQ s.data.toList (O ++ [t.data.toList]) j from fun O => by rw [hF.out, in_end (by rw [HLN.out]; omega), hl])
      have CS := Lib.hid (show Calls Tryd.prog 34 #[.pointer (some ⟨b, 0, none⟩)] wr fun e w' => e = .returned (.string t) ∧ w.grownBy w' none by
        refine (bSaid b W wr hBD.out hbs).mono fun e w' ⟨h1, h2⟩ => ⟨by rw [h1, ht], ?_⟩
        exact grown_of_below (by rw [HB.out]; exact hBL.out.trans h2))
      clear hl ht hz hF hW hBD hBL
      go_wp2_with (go_at_call 34; (with_reducible refine CS.out.mono ?_); rintro e w6 ⟨rfl, g6⟩; have G6 := Lib.hid g6; clear g6)
      go_ret2
      exact ⟨G6.out, _, _, rfl, .inr ⟨j, rfl, by omega, by rw [HLN.out]; omega, HF.out⟩⟩

set_option maxRecDepth 100000 in
set_option maxHeartbeats 4000000 in
theorem pSplit (s : ByteArray) (A : Nat → Addr) (w : World) (hE : QErr A w) (hs : s.size ≤ 5000) : Calls Tryd.prog 7 #[.string s] w (PSpl s.data.toList A w) := by
  obtain ⟨iu, hiu, hu0, hu1, hu2⟩ := info_parts infoTx
  have IU := Lib.hid hiu; have ZU0 := Lib.hid hu0; have ZU1 := Lib.hid hu1; have ZU2 := Lib.hid hu2
  clear hiu hu0 hu1 hu2
  have HE := Lib.hid hE
  have hlen : s.data.toList.length = s.size := by simp
  have HLN := Lib.hid hlen
  obtain ⟨base, hbase⟩ : ∃ base, base = w.heap.size := ⟨_, rfl⟩
  have HBL := Lib.hid (show w.heap.size = base from hbase.symm)
  have HS := Lib.hid (fun (t : Bool) (k : Nat) (h : k ≤ s.size) => show k ≤ skpQ t s.data.toList k ∧ skpQ t s.data.toList k ≤ s.size by
    have := skp_le (t := t) (l := s.data.toList) (k := k) (by rw [HLN.out]; exact h)
    rwa [HLN.out] at this)
  clear hbase hlen hE
  go_enter Tryd.func7, Tryd.ntmps7
  obtain ⟨j0, hj0⟩ : ∃ j0, skpQ true s.data.toList 0 = j0 := ⟨_, rfl⟩
  have CB0 := pBeyond s 0 true w hs (Nat.zero_le _)
  rw [hj0, show ((0 : Nat) : Int) = 0 from rfl] at CB0
  have CB := Lib.hid CB0
  have hj0s : j0 ≤ s.size := by rw [← hj0]; exact (HS.out true 0 (Nat.zero_le _)).2
  have F0 := Lib.hid (show splQ s.data.toList = outQ s.data.toList [] j0 by rw [← hj0, out_skip]; rfl)
  have N0 := Lib.hid (show ∀ b, s.data.toList[j0]? = some b → blkQ b = false by rw [← hj0]; exact skp_stop (t := true) _ (Nat.le_refl _))
  clear hj0 CB0
  go_wp2_with (go_at_call 25; (with_reducible refine CB.out.mono ?_); rintro e w3 ⟨rfl, rfl⟩)
  clear CB
  go_loopw [4, 5] (fun o i wr => ∃ (j : Nat) (O : List ByteArray) (va : Option Addr) (vc : Nat), j ≤ s.size ∧ i = .int .i64 j ∧ o = .slice va O.length vc ∧ O.length ≤ j ∧ Hid (splQ s.data.toList = outQ s.data.toList (txL O) j) ∧ Hid (∀ b, s.data.toList[j]? = some b → blkQ b = false) ∧ Hid (wr.ownsRow base 9 1 (.slice va O.length vc) O.length (txV O)) ∧ Hid (w.grownBy wr none)) (fun _ i _ => s.size - (intOf i).toNat)
  case atStart => exact ⟨j0, [], _, _, hj0s, rfl, rfl, Nat.zero_le _, F0, N0, Lib.hid (tx_nil _ _ _), Lib.hid (World.grownBy.refl _ _)⟩
  case round =>
    obtain ⟨j, O, va, vc, hj, rfl, rfl, hO, hF, hN, hR, hG⟩ := hrel
    by_cases hlt : j < s.size
    · have HJ := Lib.hid (list_at hlt)
      have CW := Lib.hid (pWordAt s j wr (HE.out.2.grown hG.out) hs hlt (hN.out _ HJ.out))
      go_wp2_with fail
      refine CW.out.mono ?_
      rintro e w3 ⟨g3, x, q, rfl, hq⟩
      have G3 := Lib.hid (hG.out.trans g3)
      have R3 := Lib.hid (hR.out.kept g3 (by cases va with | none => exact .inl rfl | some g => exact .inr (by simp [Value.ownBlock])))
      clear g3 CW
      rcases hq with ⟨rfl, hq⟩ | ⟨e1, rfl, hje, hle1, hq⟩
      · have HN := Lib.hid (show splQ s.data.toList = none by rw [hF.out, hq])
        have H1 : w3.cell? ⟨0, 0, none⟩ = some (.iface 92 (.pointer (some (A 5)))) := (HE.out.grown G3.out).1
        clear hq hF hN
        go_wp2
        go_quiet (fail)
        go_wp2
        go_ret2
        exact ⟨grown_drewN G3.out _, _, [], _, rfl, ⟨none, 0, rfl, ⟨by decide, fun _ => rfl⟩, fun h => absurd rfl h⟩, .inr ⟨HN.out, rfl, rfl⟩⟩
      · rw [HLN.out] at hle1
        obtain ⟨e2, he2⟩ : ∃ e2, skpQ true s.data.toList e1 = e2 := ⟨_, rfl⟩
        have hle2 := HS.out true e1 hle1
        have CB2 := Lib.hid (fun w => pBeyond s e1 true w hs hle1)
        have HN := Lib.hid (skp_stop (t := true) (l := s.data.toList) (k := e1) _ (Nat.le_refl _))
        rw [he2] at hle2 CB2 HN
        have HF := Lib.hid (show splQ s.data.toList = outQ s.data.toList (txL (O ++ [x])) e2 by
          rw [hF.out, hq, ← he2, out_skip]
          congr 1
          simp only [txL, List.map_append, List.map_cons, List.map_nil])
        have hne : ((e1 : Int) == -1) = false := by simp
        clear he2 hq hF hN
        go_wp2_with (first
          | (go_at_call 25; (with_reducible refine (CB2.out _).mono ?_); rintro e w4 ⟨rfl, rfl⟩)
          | (at_builtin; refine wpList_append_own _ rfl _ _ 23 rfl base 9 iu _ 1 16 Tryd.underlying23 IU.out ZU0.out ZU1.out ZU2.out rfl (by decide) _ _ _ rfl (R3.out.alloc _) ⟨_, 0, none⟩ 1 1 [.string x] rfl rfl (tx_new _ _ _ _ (by simp)) (tx_one _) (by unfold maxLen; omega) (by omega) (by have := G3.out.size; have := HBL.out; simp; omega) ?_; intro v9 w9 hown9 hgrow9 _; have G9 := Lib.hid ((G3.out.trans (World.grownBy_alloc _ _ _)).andThen hgrow9 (fun k hk => .inl (by have := (R3.out.lt k hk).1; have := HBL.out; omega))); have O9 := Lib.hid hown9; clear hown9 hgrow9))
        obtain ⟨va9, vc9, rfl⟩ := tx_shape O9.out
        have HL2 := Lib.hid (show (O ++ [x]).length = O.length + 1 by simp)
        have OA := Lib.hid (show w9.ownsRow base 9 1 (.slice va9 (O ++ [x]).length vc9) (O ++ [x]).length (txV (O ++ [x])) by rw [HL2.out, txV, List.map_append]; exact O9.out)
        go_wp2_with (go_at_call 25; (with_reducible refine (CB2.out _).mono ?_); rintro e w4 ⟨rfl, rfl⟩)
        go_roundw
        case rel => exact ⟨e2, O ++ [x], va9, vc9, hle2.2, rfl, by rw [HL2.out], by rw [HL2.out]; omega, HF, HN, OA, G9⟩
        case measure => simp [intOf]; omega
    · have HF := Lib.hid (show splQ s.data.toList = some (txL O) by rw [hF.out, out_end (by rw [HLN.out]; omega)])
      go_wp2
      go_ret2
      exact ⟨hG.out, _, O, _, rfl, tx_row hR.out rfl (by omega), .inl ⟨HF.out, rfl⟩⟩
end Go.Proofs.YtolapbhmfljicaaDoor

/- The document's own answers of layer 11 that are rows of texts: the parts between blanks. -/
import Derived.Test.YtolapbhmfljicaaDoorQtRef
import Derived.Test.YtolapbhmfljicaaDoorGrown
import Derived.Laws.Pointers
import Derived.Deep.AppendLies
import Derived.OneCell
import Derived.OwnWalk
namespace Go.Proofs.YtolapbhmfljicaaDoor
open Go.RowKit

theorem infoTx : (Tryd.prog.info? 9).map (fun i => (i.zero, i.size, i.bytes)) = some (some (.string ⟨#[]⟩), 1, 16) := by kernel_rfl
theorem tx_one (t : ByteArray) : ∀ u ∈ ([.string t] : List Value), u.oneCell' = true := by intro u hu; simp at hu; subst hu; rfl
theorem tx_new (w : World) (t : ByteArray) (T : TypeId) (m : Nat) (hm : m = w.heap.size) : ∀ j x, ([.string t] : List Value)[j]? = some x → (w.alloc (.cells #[.string t] T)).cell? ((⟨m, 0, none⟩ : Addr).add j) = some x := by
  subst hm
  exact World.news_of_block (cs := #[.string t]) (t := T) (fr := (0, 0)) (heap_alloc_new w _)
theorem tx_zero (w : World) (T : TypeId) (base : Nat) (hb : base ≤ w.heap.size) : (w.alloc (.cells #[] T)).ownsRow base T 1 (.slice (some ⟨w.heap.size, 0, none⟩) 0 0) 0 (([] : List ByteArray).map Value.string) :=
  ⟨rfl, .inr ⟨w.heap.size, 0, _, rfl, hb, heap_alloc_new w _, Nat.le_refl _, by decide, rfl, rfl⟩⟩
theorem tx_shape {w : World} {base s n : Nat} {e : TypeId} {v : Value} {xs : List Value} (h : w.ownsRow base e s v n xs) : ∃ a cap, v = .slice a n cap := by
  rcases h.2 with ⟨rfl, h0⟩ | ⟨g, cap, cur, rfl, -⟩
  · exact ⟨none, 0, by rw [h0]⟩
  · exact ⟨_, cap, rfl⟩
abbrev txV (O : List ByteArray) : List Value := O.map Value.string
abbrev txL (O : List ByteArray) : List (List UInt8) := O.map fun t => t.data.toList
/-- a row of texts that a call makes -/
def TxOut (L : List (List UInt8)) (w : World) (e : Ending) (w' : World) : Prop := (∃ v O, e = .returned v ∧ w'.ownsRow w.heap.size 9 1 v O.length (txV O) ∧ txL O = L) ∧ w.grownBy w' none
def FldI (l : List UInt8) (j : Nat) (W : ByteArray) (O : List ByteArray) : Prop := if j ≤ l.length then (W.data.toList, txL O) = (l.take j).foldl fldS ([], []) else txL O = fldQ l
theorem fld_take {l : List UInt8} {j : Nat} {b : UInt8} (h : l[j]? = some b) : (l.take (j + 1)).foldl fldS ([], []) = fldS ((l.take j).foldl fldS ([], [])) b := by
  rw [List.take_add_one, h]; exact fld_snoc _ _
theorem FldI.blank {l : List UInt8} {j : Nat} {W : ByteArray} {O : List ByteArray} {b : UInt8} (h : FldI l j W O) (hb : l[j]? = some b) (hk : blkQ b = true) :
    FldI l (j + 1) ⟨#[]⟩ (if W.size = 0 then O else O ++ [W]) := by
  have hj := (List.getElem?_eq_some_iff.1 hb).1
  unfold FldI at h ⊢
  rw [if_pos (by omega)] at h ⊢
  rw [fld_take hb, ← h]
  unfold fldS
  rw [if_pos hk]
  by_cases hw : W.size = 0
  · have e : W.data.toList = [] := List.eq_nil_of_length_eq_zero (by simpa using hw)
    rw [if_pos hw, e]; rfl
  · have e : W.data.toList.isEmpty = false := by
      cases h2 : W.data.toList with
      | nil => exact (hw (by have := congrArg List.length h2; simpa using this)).elim
      | cons a r => rfl
    rw [if_neg hw, if_neg (by rw [e]; simp)]
    simp [txL]
theorem FldI.more {l : List UInt8} {j : Nat} {W : ByteArray} {O : List ByteArray} {b : UInt8} {t : ByteArray} (h : FldI l j W O) (hb : l[j]? = some b) (hk : blkQ b = false) (ht : t.data.toList = W.data.toList ++ [b]) : FldI l (j + 1) t O := by
  have hj := (List.getElem?_eq_some_iff.1 hb).1
  unfold FldI at h ⊢
  rw [if_pos (by omega)] at h ⊢
  rw [fld_take hb, ← h]
  unfold fldS
  rw [if_neg (by rw [hk]; simp), ht]
theorem FldI.last {l : List UInt8} {W : ByteArray} {O : List ByteArray} (h : FldI l l.length W O) : FldI l (l.length + 1) ⟨#[]⟩ (if W.size = 0 then O else O ++ [W]) := by
  unfold FldI at h ⊢
  rw [if_pos (Nat.le_refl _), List.take_length] at h
  rw [if_neg (by omega)]
  unfold fldQ flushQ
  rw [← h]
  by_cases hw : W.size = 0
  · have e : W.data.toList = [] := List.eq_nil_of_length_eq_zero (by simpa using hw)
    rw [if_pos hw, e]; rfl
  · have e : W.data.toList.isEmpty = false := by
      cases h2 : W.data.toList with
      | nil => exact (hw (by have := congrArg List.length h2; simpa using this)).elim
      | cons a r => rfl
    rw [if_neg hw]
    simp [txL, e]
set_option maxRecDepth 100000 in
set_option maxHeartbeats 4000000 in
theorem dFields (s : ByteArray) (w : World) (hs : s.size ≤ 5000) : Calls Tryd.prog 12 #[.string s] w (TxOut (fldQ s.data.toList) w) := by
  obtain ⟨iu, hiu, hu0, hu1, hu2⟩ := info_parts infoTx
  have IU := Lib.hid hiu; have ZU0 := Lib.hid hu0; have ZU1 := Lib.hid hu1; have ZU2 := Lib.hid hu2
  have O1 := Lib.hid (tx_zero w 9 w.heap.size (Nat.le_refl _))
  have G1 := Lib.hid (World.grownBy_alloc w (.cells #[] 9) none)
  have hlen : s.data.toList.length = s.size := by simp
  have HLN := Lib.hid hlen
  clear hiu hu0 hu1 hu2 hlen
  go_enter Tryd.func12, Tryd.ntmps12
  go_upto_region 2 with fail
  generalize w.alloc _ = w1 at O1 G1 ⊢
  obtain ⟨base, hbase⟩ : ∃ base, base = w.heap.size := ⟨_, rfl⟩
  rw [← hbase] at O1 ⊢
  have HBL := Lib.hid (show w.heap.size = base from hbase.symm)
  clear hbase
  go_wp2
  go_loopw [3, 4, 5] (fun o t i wr => ∃ (j : Nat) (W : ByteArray) (O : List ByteArray) (va : Option Addr) (vc : Nat), j ≤ s.size + 1 ∧ i = .int .i64 j ∧ t = .string W ∧ o = .slice va O.length vc ∧ W.size ≤ j ∧ O.length ≤ j ∧ Hid (FldI s.data.toList j W O) ∧ Hid (wr.ownsRow base 9 1 (.slice va O.length vc) O.length (txV O)) ∧ Hid (w.grownBy wr none)) (fun _ _ i _ => s.size + 1 - (intOf i).toNat)
  case atStart => exact ⟨0, ⟨#[]⟩, [], _, _, by omega, rfl, rfl, rfl, by decide, by decide, Lib.hid (by unfold FldI; simp [txL]), O1, G1⟩
  case round =>
    obtain ⟨j, W, O, va, vc, hj, rfl, rfl, rfl, hW, hO, hI, hR, hG⟩ := hrel
    by_cases hle : j ≤ s.size
    · by_cases hlt : j < s.size
      · have HJ := Lib.hid (list_at hlt)
        have CB := Lib.hid (fun w => dBlank s[j] w)
        cases hk : blkQ s[j]
        · rw [hk] at CB
          have HE := Lib.hid (toList_one hlt)
          have hez : (s.extract j (j + 1)).size = 1 := by simp; omega
          have HN := Lib.hid (hI.out.more (t := W ++ s.extract j (j + 1)) HJ.out hk (by rw [toList_app, HE.out]))
          have hsz : (W ++ s.extract j (j + 1)).size ≤ j + 1 := by simp only [ByteArray.size_append]; omega
          clear hk hI
          go_wp2_with (go_at_call 20; (with_reducible refine (CB.out _).mono ?_); rintro e w3 ⟨rfl, rfl⟩)
          go_roundw
          case rel => exact ⟨j + 1, _, O, va, vc, by omega, by go_num, rfl, rfl, hsz, by omega, HN, hR, hG⟩
          case measure => simp [intOf]; omega
        · rw [hk] at CB
          have HN := Lib.hid (hI.out.blank HJ.out hk)
          clear hk hI
          by_cases hw : W.size = 0
          · rw [if_pos hw] at HN
            have hw2 : ¬ 0 < W.size := by omega
            clear hw
            go_wp2_with (go_at_call 20; (with_reducible refine (CB.out _).mono ?_); rintro e w3 ⟨rfl, rfl⟩)
            go_roundw
            case rel => exact ⟨j + 1, _, O, va, vc, by omega, by go_num, rfl, rfl, Nat.zero_le _, by omega, HN, hR, hG⟩
            case measure => simp [intOf]; omega
          · rw [if_neg hw] at HN
            have hw2 : 0 < W.size := by omega
            clear hw
            go_wp2_with (first
              | (go_at_call 20; (with_reducible refine (CB.out _).mono ?_); rintro e w3 ⟨rfl, rfl⟩)
              | (at_builtin; refine wpList_append_own _ rfl _ _ 23 rfl base 9 iu _ 1 16 Tryd.underlying23 IU.out ZU0.out ZU1.out ZU2.out rfl (by decide) _ _ _ rfl (hR.out.alloc _) ⟨_, 0, none⟩ 1 1 [.string W] rfl rfl (tx_new _ _ _ _ (by simp)) (tx_one _) (by unfold maxLen; omega) (by omega) (by have := hG.out.size; have := HBL.out; simp; omega) ?_; intro v9 w9 hown9 hgrow9 _; have G9 := Lib.hid ((hG.out.trans (World.grownBy_alloc _ _ _)).andThen hgrow9 (fun k hk => .inl (by have := (hR.out.lt k hk).1; have := HBL.out; omega))); have O9 := Lib.hid hown9; clear hown9 hgrow9))
            obtain ⟨va9, vc9, rfl⟩ := tx_shape O9.out
            have HL2 := Lib.hid (show (O ++ [W]).length = O.length + 1 by simp)
            have OA := Lib.hid (show w9.ownsRow base 9 1 (.slice va9 (O ++ [W]).length vc9) (O ++ [W]).length (txV (O ++ [W])) by rw [HL2.out, txV, List.map_append]; exact O9.out)
            go_wp2
            go_roundw
            case rel => exact ⟨j + 1, _, O ++ [W], va9, vc9, by omega, by go_num, rfl, by rw [HL2.out], Nat.zero_le _, by rw [HL2.out]; omega, HN, OA, G9⟩
            case measure => simp [intOf]; omega
      · obtain rfl : j = s.size := by omega
        have HN := Lib.hid (show FldI s.data.toList (s.size + 1) ⟨#[]⟩ (if W.size = 0 then O else O ++ [W]) by
          have h := hI.out
          rw [← HLN.out] at h ⊢
          first | exact h.last | exact FldI.last h)
        clear hI
        by_cases hw : W.size = 0
        · rw [if_pos hw] at HN
          have hw2 : ¬ 0 < W.size := by omega
          clear hw
          go_wp2
          go_roundw
          case rel => exact ⟨s.size + 1, _, O, va, vc, by omega, by go_num, rfl, rfl, Nat.zero_le _, by omega, HN, hR, hG⟩
          case measure => simp [intOf]
        · rw [if_neg hw] at HN
          have hw2 : 0 < W.size := by omega
          clear hw
          go_wp2_with (at_builtin; refine wpList_append_own _ rfl _ _ 23 rfl base 9 iu _ 1 16 Tryd.underlying23 IU.out ZU0.out ZU1.out ZU2.out rfl (by decide) _ _ _ rfl (hR.out.alloc _) ⟨_, 0, none⟩ 1 1 [.string W] rfl rfl (tx_new _ _ _ _ (by simp)) (tx_one _) (by unfold maxLen; omega) (by omega) (by have := hG.out.size; have := HBL.out; simp; omega) ?_; intro v9 w9 hown9 hgrow9 _; have G9 := Lib.hid ((hG.out.trans (World.grownBy_alloc _ _ _)).andThen hgrow9 (fun k hk => .inl (by have := (hR.out.lt k hk).1; have := HBL.out; omega))); have O9 := Lib.hid hown9; clear hown9 hgrow9)
          obtain ⟨va9, vc9, rfl⟩ := tx_shape O9.out
          have HL2 := Lib.hid (show (O ++ [W]).length = O.length + 1 by simp)
          have OA := Lib.hid (show w9.ownsRow base 9 1 (.slice va9 (O ++ [W]).length vc9) (O ++ [W]).length (txV (O ++ [W])) by rw [HL2.out, txV, List.map_append]; exact O9.out)
          go_wp2
          go_roundw
          case rel => exact ⟨s.size + 1, _, O ++ [W], va9, vc9, by omega, by go_num, rfl, by rw [HL2.out], Nat.zero_le _, by rw [HL2.out]; omega, HN, OA, G9⟩
          case measure => simp [intOf]
    · obtain rfl : j = s.size + 1 := by omega
      have HF := Lib.hid (show txL O = fldQ s.data.toList by
        have h := hI.out
        unfold FldI at h
        rwa [if_neg (by rw [HLN.out]; omega)] at h)
      go_wp2
      go_ret
      exact ⟨⟨_, O, rfl, HBL.out ▸ hR.out, HF.out⟩, hG.out⟩
end Go.Proofs.YtolapbhmfljicaaDoor

/- The document's own answers of layer 11: blanks, plain texts, a quoted part's end. The document's own answers of layer 11 that are rows of texts: the parts between blanks. Rows of texts as the laws read them: two that are the same, long ones, a copy with marked room behind, and that it stands as it stood. A slice of texts that came in. -/
import Derived.Test.YtdganemgldocoaaGreatDoorQtPlain
import Derived.Test.YtdganemgldocoaaGreatDoorClsBase
import Derived.Test.YtdganemgldocoaaGreatDoorGrown
import Derived.Laws.Pointers
import Derived.Deep.AppendLies
import Derived.OneCell
import Derived.OwnWalk
import Derived.WalkSmall
import Derived.Laws.AppendOwn
import Derived.ProofKit
import Derived.SliceStrings
import Derived.OpenShut
import Derived.ShutString
import Derived.ChangeOld
namespace Go.Proofs.YtdganemgldocoaaGreatDoor
open Go.RowKit

theorem blk_nat (b : UInt8) : blkQ b = ((b.toNat == 32 || b.toNat == 9) || b.toNat == 10) := by
  unfold blkQ
  rw [Bool.eq_iff_iff]
  simp [← UInt8.toNat_inj]
set_option maxHeartbeats 1000000 in
theorem dBlank (b : UInt8) (w : World) : Calls Tryz.prog 72 #[.int .u8 b.toNat] w fun e w' => e = .returned (.bool (blkQ b)) ∧ w = w' := by
  have HB := Lib.hid (blk_nat b)
  generalize blkQ b = z at HB ⊢
  obtain ⟨x, hx⟩ : ∃ x, x = b.toNat := ⟨_, rfl⟩
  rw [← hx] at HB ⊢
  clear hx
  obtain ⟨f1, h1⟩ : ∃ f, f = (x == 32) := ⟨_, rfl⟩
  obtain ⟨f2, h2⟩ : ∃ f, f = (x == 9) := ⟨_, rfl⟩
  obtain ⟨f3, h3⟩ : ∃ f, f = (x == 10) := ⟨_, rfl⟩
  have e1 : ((x : Int) == 32) = f1 := by rw [h1, Bool.eq_iff_iff]; simp; omega
  have e2 : ((x : Int) == 9) = f2 := by rw [h2, Bool.eq_iff_iff]; simp; omega
  have e3 : ((x : Int) == 10) = f3 := by rw [h3, Bool.eq_iff_iff]; simp; omega
  rw [← h1, ← h2, ← h3] at HB
  clear h1 h2 h3
  go_enter Tryz.func72, Tryz.ntmps72
  cases f1 <;> cases f2
  all_goals
    go_wp2
    go_ret
    exact ⟨ret_bool HB.out.symm, rfl⟩
abbrev badT : ByteArray := ⟨#[39, 32, 9, 10, 35, 36, 96, 58, 61, 60, 92, 59, 38, 124, 40, 41, 123, 125, 91, 93, 42, 63, 94, 126]⟩
theorem bad_list : badT.data.toList = badQ := rfl
theorem list_at {s : ByteArray} {i : Nat} (h : i < s.size) : s.data.toList[i]? = some s[i] := by
  rw [List.getElem?_eq_getElem (by simpa using h)]; rfl
theorem pln_take {l : List UInt8} {i : Nat} {b : UInt8} (h : l[i]? = some b) : (l.take (i + 1)).all plnQ = ((l.take i).all plnQ && plnQ b) := by
  rw [List.take_add_one, h, List.all_append]; simp
theorem endF_no {l : List UInt8} {i : Nat} {b : UInt8} (h : l[i]? = some b) (hb : b ≠ 39) : endF (l.drop i) i = endF (l.drop (i + 1)) (i + 1) := by
  obtain ⟨hi, e⟩ := List.getElem?_eq_some_iff.1 h
  rw [List.drop_eq_getElem_cons hi, e]
  cases l.drop (i + 1) with
  | nil => simp [endF, hb]
  | cons c r => rw [endF, if_neg hb]
theorem endF_end {l : List UInt8} {i : Nat} (h : l[i]? = some 39) (h2 : l[i + 1]? ≠ some 39) : endF (l.drop i) i = some (i + 1) := by
  obtain ⟨hi, e⟩ := List.getElem?_eq_some_iff.1 h
  rw [List.drop_eq_getElem_cons hi, e]
  cases hd : l.drop (i + 1) with
  | nil => rw [endF, if_pos rfl]
  | cons c r =>
    have : l[i + 1]? = some c := by rw [← List.head?_drop, hd]; rfl
    rw [endF, if_pos rfl, if_neg (fun e => h2 (by rw [this, e]))]
theorem endF_two {l : List UInt8} {i : Nat} (h : l[i]? = some 39) (h2 : l[i + 1]? = some 39) : endF (l.drop i) i = endF (l.drop (i + 2)) (i + 2) := by
  obtain ⟨hi, e⟩ := List.getElem?_eq_some_iff.1 h
  obtain ⟨hi2, e2⟩ := List.getElem?_eq_some_iff.1 h2
  rw [List.drop_eq_getElem_cons hi, e, List.drop_eq_getElem_cons hi2, e2, endF, if_pos rfl, if_pos rfl]
def endV (l : List UInt8) (i : Nat) : Int := match endF (l.drop i) i with | some e => e | none => -1
theorem endAt_no {l : List UInt8} {k : Int} (h : ¬(0 ≤ k ∧ k < l.length ∧ l[k.toNat]? = some 39)) : endAt l k = -1 := by unfold endAt; rw [if_neg h]
theorem endAt_yes {l : List UInt8} {k : Nat} (h : l[k]? = some 39) : endAt l k = endV l (k + 1) := by
  unfold endAt endV
  rw [if_pos ⟨by omega, by have := (List.getElem?_eq_some_iff.1 h).1; omega, by simpa using h⟩, Int.toNat_natCast]
  rfl
theorem endAt_val {l : List UInt8} {j : Nat} (h : l[j]? = some 39) : (endF (l.drop (j + 1)) (j + 1) = none ∧ endAt l j = -1) ∨ (∃ f : Nat, endF (l.drop (j + 1)) (j + 1) = some (f + 1) ∧ endAt l j = (f : Int) + 1 ∧ j + 1 ≤ f ∧ f + 1 ≤ l.length) := by
  rw [endAt_yes h]
  unfold endV
  cases he : endF (l.drop (j + 1)) (j + 1) with
  | none => exact .inl ⟨rfl, rfl⟩
  | some e =>
    have h1 := endF_le _ _ _ he
    rw [List.length_drop] at h1
    have h2 := (List.getElem?_eq_some_iff.1 h).1
    obtain ⟨f, rfl⟩ : ∃ f, e = f + 1 := ⟨e - 1, by omega⟩
    exact .inr ⟨f, rfl, by simp, by omega, by omega⟩
set_option maxRecDepth 100000 in
set_option maxHeartbeats 4000000 in
theorem dEnd (s : ByteArray) (k : Int) (w : World) (hs : s.size ≤ 5000) : Calls Tryz.prog 29 #[.string s, .int .i64 k] w fun e w' => e = .returned (.int .i64 (endAt s.data.toList k)) ∧ w = w' := by
  have hlen : s.data.toList.length = s.size := by simp
  by_cases hin : 0 ≤ k ∧ k < s.size
  case neg =>
    have HZ := Lib.hid (endAt_no (l := s.data.toList) (k := k) (fun ⟨h1, h2, _⟩ => hin ⟨h1, by omega⟩))
    generalize endAt s.data.toList k = z at HZ ⊢
    clear hlen
    by_cases h0 : k < 0
    all_goals
      go_enter Tryz.func29, Tryz.ntmps29
      go_wp2
      go_ret
      exact ⟨ret_int HZ.out.symm, rfl⟩
  obtain ⟨h0, h1⟩ := hin
  obtain ⟨q, rfl⟩ := Int.eq_ofNat_of_zero_le h0
  have hq : q < s.size := by omega
  have HQ := Lib.hid (list_at hq)
  by_cases h39 : s[q] = 39
  case neg =>
    have HZ := Lib.hid (endAt_no (l := s.data.toList) (k := q) (fun ⟨_, _, h3⟩ => h39 (by
      rw [Int.toNat_natCast, HQ.out] at h3; simpa using h3)))
    have e1 : (((s[q]).toNat : Int) != 39) = true := by
      simp only [bne_iff_ne, ne_eq]
      intro h
      exact h39 (UInt8.toNat_inj.1 (by show (s[q]).toNat = 39; omega))
    generalize endAt s.data.toList q = z at HZ ⊢
    clear hlen h39
    go_enter Tryz.func29, Tryz.ntmps29
    go_wp2
    go_ret
    exact ⟨ret_int HZ.out.symm, rfl⟩
  have HZ := Lib.hid (endAt_yes (l := s.data.toList) (k := q) (by rw [HQ.out, h39]))
  have hd1 : decide ((q : Int) < 0) = false := by simp
  have hd2 : decide (s.size ≤ q) = false := by simp; omega
  have hd3 : decide ((q : Int) ≥ s.size) = false := by simp; omega
  have e1 : (((s[q]).toNat : Int) != 39) = false := by rw [h39]; rfl
  generalize endAt s.data.toList q = z at HZ ⊢
  clear hlen h39
  go_enter Tryz.func29, Tryz.ntmps29
  go_wp2
  clear e1
  go_loop [5] (fun i => ∃ j : Nat, j ≤ s.size + 1 ∧ i = .int .i64 j ∧ Hid (z = endV s.data.toList j)) (fun i => s.size + 1 - (intOf i).toNat)
  case atStart => exact ⟨q + 1, by omega, by go_num, HZ⟩
  case round =>
    obtain ⟨j, hj, rfl, hE⟩ := hrel
    by_cases hlt : j < s.size
    · have HJ := Lib.hid (list_at hlt)
      by_cases hb : s[j] = 39
      · have e2 : (((s[j]).toNat : Int) == 39) = true := by rw [hb]; rfl
        by_cases hl : j = s.size - 1
        · have HV := Lib.hid (show z = (j : Int) + 1 by
            rw [hE.out]; unfold endV
            rw [endF_end (by rw [HJ.out, hb]) (by rw [List.getElem?_eq_none (by simp; omega)]; simp)]; simp)
          have e3 : ((j : Int) == (s.size : Int) - 1) = true := by simp; omega
          clear hb hl
          go_wp2
          go_ret
          exact ⟨ret_int HV.out.symm, rfl⟩
        · have hj1 : j + 1 < s.size := by omega
          have HJ1 := Lib.hid (list_at hj1)
          have e3 : ((j : Int) == (s.size : Int) - 1) = false := by simp; omega
          by_cases hc : s[j + 1] = 39
          · have e4 : (((s[j + 1]).toNat : Int) != 39) = false := by rw [hc]; rfl
            have HV := Lib.hid (show z = endV s.data.toList (j + 2) by
              rw [hE.out]; unfold endV
              rw [endF_two (by rw [HJ.out, hb]) (by rw [HJ1.out, hc])])
            clear hb hc hl
            go_wp2
            go_round
            case rel => exact ⟨j + 2, by omega, by go_num, HV⟩
            case measure => simp [intOf]; omega
          · have e4 : (((s[j + 1]).toNat : Int) != 39) = true := by
              simp only [bne_iff_ne, ne_eq]
              intro h
              exact hc (UInt8.toNat_inj.1 (by show (s[j + 1]).toNat = 39; omega))
            have HV := Lib.hid (show z = (j : Int) + 1 by
              rw [hE.out]; unfold endV
              rw [endF_end (by rw [HJ.out, hb]) (by rw [HJ1.out]; simpa using hc)]; simp)
            clear hb hc hl
            go_wp2
            go_ret
            exact ⟨ret_int HV.out.symm, rfl⟩
      · have e2 : (((s[j]).toNat : Int) == 39) = false := by
          simp only [beq_eq_false_iff_ne, ne_eq]
          intro h
          exact hb (UInt8.toNat_inj.1 (by show (s[j]).toNat = 39; omega))
        have HV := Lib.hid (show z = endV s.data.toList (j + 1) by
          rw [hE.out]; unfold endV
          rw [endF_no HJ.out hb])
        clear hb
        go_wp2
        go_round
        case rel => exact ⟨j + 1, by omega, by go_num, HV⟩
        case measure => simp [intOf]; omega
    · have HV := Lib.hid (show z = -1 by
        rw [hE.out]; unfold endV
        rw [List.drop_of_length_le (by simp; omega), endF])
      go_wp2
      go_ret
      exact ⟨ret_int HV.out.symm, rfl⟩
theorem two_take {l : List UInt8} {j : Nat} {b : UInt8} (h : l[j]? = some b) : twoQ (l.take (j + 1)) = twoQ (l.take j) ++ (if b = 39 then [39, 39] else [b]) := by
  unfold twoQ
  rw [List.take_add_one, h, List.flatMap_append]; simp
theorem toList_app (a b : ByteArray) : (a ++ b).data.toList = a.data.toList ++ b.data.toList := by simp
theorem toList_one {s : ByteArray} {j : Nat} (h : j < s.size) : (s.extract j (j + 1)).data.toList = [s[j]] := by
  have e : (s.extract j (j + 1)).data.toList = (s.data.toList.drop j).take 1 := by simp
  rw [e, List.drop_eq_getElem_cons (by simpa using h)]
  simp; rfl
/-- what Quote answers -/
def QuoOut (s : ByteArray) (w : World) (e : Ending) (w' : World) : Prop := (∃ t : ByteArray, e = .returned (.string t) ∧ t.data.toList = quoQ s.data.toList ∧ t.size ≤ 2 * s.size + 2) ∧ w.grownBy w' none
end Go.Proofs.YtdganemgldocoaaGreatDoor

namespace Go.Proofs.YtdganemgldocoaaGreatDoor
open Go.RowKit

theorem infoTx : (Tryz.prog.info? 9).map (fun i => (i.zero, i.size, i.bytes)) = some (some (.string ⟨#[]⟩), 1, 16) := by kernel_rfl
theorem tx_one (t : ByteArray) : ∀ u ∈ ([.string t] : List Value), u.oneCell' = true := by intro u hu; simp at hu; subst hu; rfl
theorem tx_new (w : World) (t : ByteArray) (T : TypeId) (m : Nat) (hm : m = w.heap.size) : ∀ j x, ([.string t] : List Value)[j]? = some x → (w.alloc (.cells #[.string t] T)).cell? ((⟨m, 0, none⟩ : Addr).add j) = some x := by
  subst hm
  exact World.news_of_block (cs := #[.string t]) (t := T) (fr := (0, 0)) (heap_alloc_new w _)
theorem tx_zero (w : World) (T : TypeId) (base : Nat) (hb : base ≤ w.heap.size) : (w.alloc (.cells #[] T)).ownsRow base T 1 (.slice (some ⟨w.heap.size, 0, none⟩) 0 0) 0 (([] : List ByteArray).map Value.string) :=
  ⟨rfl, .inr ⟨w.heap.size, 0, _, rfl, hb, heap_alloc_new w _, Nat.le_refl _, by decide, rfl, rfl⟩⟩
theorem tx_nil (w : World) (base : Nat) (T : TypeId) : w.ownsRow base T 1 (.slice none 0 0) 0 (([] : List ByteArray).map Value.string) := ⟨rfl, .inl ⟨rfl, rfl⟩⟩
theorem tx_shape {w : World} {base s n : Nat} {e : TypeId} {v : Value} {xs : List Value} (h : w.ownsRow base e s v n xs) : ∃ a cap, v = .slice a n cap := by
  rcases h.2 with ⟨rfl, h0⟩ | ⟨g, cap, cur, rfl, -⟩
  · exact ⟨none, 0, by rw [h0]⟩
  · exact ⟨_, cap, rfl⟩
/-- rows of two types lie apart -/
theorem tx_apart {w : World} {b b' n n' sz sz' : Nat} {e e' : TypeId} {v v' : Value} {xs xs' : List Value} (h : w.ownsRow b e sz v n xs) (h2 : w.ownsRow b' e' sz' v' n' xs') (he : e ≠ e') : v.ownBlock = none ∨ v.ownBlock ≠ v'.ownBlock := by
  rcases h.2 with ⟨rfl, -⟩ | ⟨g, cap, cur, rfl, -, hg, -⟩
  · exact .inl rfl
  · rcases h2.2 with ⟨rfl, -⟩ | ⟨g', cap', cur', rfl, -, hg', -⟩
    · right; simp [Value.ownBlock]
    · right
      simp only [Value.ownBlock, ne_eq, Option.some.injEq]
      intro e
      subst e
      rw [hg] at hg'
      simp at hg'
      exact he hg'.2
abbrev txV (O : List ByteArray) : List Value := O.map Value.string
abbrev txL (O : List ByteArray) : List (List UInt8) := O.map fun t => t.data.toList
/-- a row of texts that a call makes -/
def TxOut (L : List (List UInt8)) (w : World) (e : Ending) (w' : World) : Prop := (∃ v O, e = .returned v ∧ w'.ownsRow w.heap.size 9 1 v O.length (txV O) ∧ txL O = L) ∧ w.grownBy w' none
def FldI (l : List UInt8) (j : Nat) (W : ByteArray) (O : List ByteArray) : Prop := if j ≤ l.length then (W.data.toList, txL O) = (l.take j).foldl fldS ([], []) else txL O = fldQ l
theorem fld_take {l : List UInt8} {j : Nat} {b : UInt8} (h : l[j]? = some b) : (l.take (j + 1)).foldl fldS ([], []) = fldS ((l.take j).foldl fldS ([], [])) b := by
  rw [List.take_add_one, h]; exact fld_snoc _ _
theorem FldI.blank {l : List UInt8} {j : Nat} {W : ByteArray} {O : List ByteArray} {b : UInt8} (h : FldI l j W O) (hb : l[j]? = some b) (hk : blkQ b = true) :
    FldI l (j + 1) ⟨#[]⟩ (if W.size = 0 then O else O ++ [W]) := by
  have hj := (List.getElem?_eq_some_iff.1 hb).1
  unfold FldI at h ⊢
  rw [if_pos (by omega)] at h ⊢
  rw [fld_take hb, ← h]
  unfold fldS
  rw [if_pos hk]
  by_cases hw : W.size = 0
  · have e : W.data.toList = [] := List.eq_nil_of_length_eq_zero (by simpa using hw)
    rw [if_pos hw, e]; rfl
  · have e : W.data.toList.isEmpty = false := by
      cases h2 : W.data.toList with
      | nil => exact (hw (by have := congrArg List.length h2; simpa using this)).elim
      | cons a r => rfl
    rw [if_neg hw, if_neg (by rw [e]; simp)]
    simp [txL]
theorem FldI.more {l : List UInt8} {j : Nat} {W : ByteArray} {O : List ByteArray} {b : UInt8} {t : ByteArray} (h : FldI l j W O) (hb : l[j]? = some b) (hk : blkQ b = false) (ht : t.data.toList = W.data.toList ++ [b]) : FldI l (j + 1) t O := by
  have hj := (List.getElem?_eq_some_iff.1 hb).1
  unfold FldI at h ⊢
  rw [if_pos (by omega)] at h ⊢
  rw [fld_take hb, ← h]
  unfold fldS
  rw [if_neg (by rw [hk]; simp), ht]
theorem FldI.last {l : List UInt8} {W : ByteArray} {O : List ByteArray} (h : FldI l l.length W O) : FldI l (l.length + 1) ⟨#[]⟩ (if W.size = 0 then O else O ++ [W]) := by
  unfold FldI at h ⊢
  rw [if_pos (Nat.le_refl _), List.take_length] at h
  rw [if_neg (by omega)]
  unfold fldQ flushQ
  rw [← h]
  by_cases hw : W.size = 0
  · have e : W.data.toList = [] := List.eq_nil_of_length_eq_zero (by simpa using hw)
    rw [if_pos hw, e]; rfl
  · have e : W.data.toList.isEmpty = false := by
      cases h2 : W.data.toList with
      | nil => exact (hw (by have := congrArg List.length h2; simpa using this)).elim
      | cons a r => rfl
    rw [if_neg hw]
    simp [txL, e]
end Go.Proofs.YtdganemgldocoaaGreatDoor

namespace Go.Proofs.YtdganemgldocoaaGreatDoor
open Go.RowKit

/-- the texts of a slice, as they lie in memory -/
def TxRow (w : World) (v : Value) (l : List ByteArray) : Prop :=
  ∃ a c, v = .slice a l.length c ∧ (l.length ≤ 9223372036854775807 ∧ (a = none → c = 0)) ∧
    (l ≠ [] → ∃ b off, a = some ⟨b, off, none⟩ ∧ b < w.heap.size ∧ ∀ j x, l[j]? = some x → w.cell? ⟨b, off + j, none⟩ = some (.string x))
theorem TxRow.later {w w' : World} {v : Value} {l : List ByteArray} (h : TxRow w v l) (hb : Below w.heap.size w w') : TxRow w' v l := by
  obtain ⟨a, c, e, hn, hr⟩ := h
  refine ⟨a, c, e, hn, fun hne => ?_⟩
  obtain ⟨b, off, ea, hlt, hc⟩ := hr hne
  exact ⟨b, off, ea, Nat.lt_of_lt_of_le hlt hb.size, fun j x hx => (hb.cell (p := ⟨b, off + j, none⟩) hlt).trans (hc j x hx)⟩
theorem tx_get (l : List ByteArray) (k : Nat) (h : k < l.length) : ∃ x, l[k]? = some x := ⟨l[k], List.getElem?_eq_getElem h⟩
theorem txL_inj : ∀ {a b : List ByteArray}, txL a = txL b → a = b
  | [], [], _ => rfl
  | [], _ :: _, h => by simp at h
  | _ :: _, [], h => by simp at h
  | x :: a, y :: b, h => by
    simp only [List.map_cons, List.cons.injEq] at h
    rw [txL_inj h.2, show x = y from by cases x; cases y; congr 1; exact Array.toList_inj.1 h.1]
/-- a row that a call made, as a reader sees it -/
theorem tx_row {w : World} {base n : Nat} {v : Value} {O : List ByteArray} (h : w.ownsRow base 9 1 v n (txV O)) (hn : n = O.length) (hm : n ≤ 9223372036854775807) : TxRow w v O := by
  subst hn
  obtain ⟨a, cap, rfl⟩ := tx_shape h
  refine ⟨a, cap, rfl, ⟨hm, ?_⟩, ?_⟩
  · rintro rfl
    rcases h.2 with ⟨e, -⟩ | ⟨g, cap', cur, e, -⟩
    · injection e
    · cases e
  · intro hne
    rcases h.2 with ⟨e, h0⟩ | ⟨g, cap', cur, e, -⟩
    · exact (hne (List.eq_nil_of_length_eq_zero h0)).elim
    · cases e
      refine ⟨g, 0, rfl, (h.lt g rfl).2, fun j x hx => ?_⟩
      have := h.cells (g := g) rfl j (.string x) (by rw [List.getElem?_map, hx]; rfl)
      rwa [Addr.add_lit] at this

theorem txV_one (l : List ByteArray) : ∀ u ∈ txV l, u.oneCell' = true := by
  intro u hu; obtain ⟨x, _, rfl⟩ := List.mem_map.1 hu; rfl
theorem txV_at {l : List ByteArray} {j : Nat} {u : Value} (h : (txV l)[j]? = some u) : ∃ x, l[j]? = some x ∧ u = .string x := by
  rw [List.getElem?_map] at h
  cases hx : l[j]? with
  | none => rw [hx] at h; cases h
  | some x => rw [hx] at h; exact ⟨x, rfl, (Option.some.inj h).symm⟩

def longQ (m n : Nat) (l : List ByteArray) : Bool := decide (m < l.length) || l.any fun x => decide (n < x.size)
theorem longQ_hit {m n : Nat} {l : List ByteArray} {k : Nat} {x : ByteArray} (h : l[k]? = some x) (hx : n < x.size) : longQ m n l = true := by
  unfold longQ
  rw [List.any_eq_true.2 ⟨x, List.mem_of_getElem? h, decide_eq_true hx⟩, Bool.or_true]
theorem longQ_not {m n : Nat} {l : List ByteArray} (h : l.length ≤ m) {k : Nat} (hk : l.length ≤ k) (ha : ∀ x ∈ l.take k, x.size ≤ n) : longQ m n l = false := by
  rw [List.take_of_length_le hk] at ha
  unfold longQ
  rw [decide_eq_false (by omega), Bool.false_or, List.any_eq_false]
  intro x hx
  have := ha x hx
  simp; omega
theorem longQ_short {m n : Nat} {l : List ByteArray} (h : longQ m n l = false) : l.length ≤ m ∧ ∀ x ∈ l, x.size ≤ n := by
  unfold longQ at h
  simp only [Bool.or_eq_false_iff, decide_eq_false_iff_not, List.any_eq_false] at h
  refine ⟨by omega, fun x hx => ?_⟩
  have := h.2 x hx
  simp only [decide_eq_true_eq] at this
  omega
theorem longQ_snoc {n : Nat} {l : List ByteArray} {k : Nat} {x : ByteArray} (h : l[k]? = some x) (hx : x.size ≤ n) (ha : ∀ x ∈ l.take k, x.size ≤ n) : ∀ x ∈ l.take (k + 1), x.size ≤ n := by
  intro y hy
  rw [List.take_add_one, h] at hy
  rcases List.mem_append.1 hy with hy | hy
  · exact ha y hy
  · simp at hy; subst hy; exact hx

def markT : List Value := [.string ⟨#[1]⟩, .string ⟨#[2]⟩, .string ⟨#[3]⟩]

/-- a copy of l with the three markT behind it -/
def MarkT (w : World) (base : Nat) (v : Value) (l : List ByteArray) : Prop :=
  ∃ g, v = .slice (some ⟨g, 0, none⟩) l.length (l.length + 3) ∧
    w.ownsRow base 9 1 (.slice (some ⟨g, 0, none⟩) (l.length + 3) (l.length + 3)) (l.length + 3) (txV l ++ markT)

theorem markT_at (w : World) {j : Nat} {u : Value} (h : markT[j]? = some u) : (w.alloc (.cells #[.string ⟨#[1]⟩, .string ⟨#[2]⟩, .string ⟨#[3]⟩] 9)).cell? ((⟨w.heap.size, 0, none⟩ : Addr).add j) = some u := by
  match j, h with
  | 0, h => simp [markT] at h; subst h; simp [Addr.add]
  | 1, h => simp [markT] at h; subst h; simp [Addr.add]
  | 2, h => simp [markT] at h; subst h; simp [Addr.add]
  | j + 3, h => simp [markT] at h

theorem MarkT.cell {w : World} {base : Nat} {v : Value} {l : List ByteArray} (h : MarkT w base v l) :
    ∃ g, v = .slice (some ⟨g, 0, none⟩) l.length (l.length + 3) ∧ g < w.heap.size ∧ (∀ j x, l[j]? = some x → w.cell? ⟨g, j, none⟩ = some (.string x)) ∧
      w.cell? ⟨g, l.length, none⟩ = some (.string ⟨#[1]⟩) ∧ w.cell? ⟨g, l.length + 1, none⟩ = some (.string ⟨#[2]⟩) ∧ w.cell? ⟨g, l.length + 2, none⟩ = some (.string ⟨#[3]⟩) := by
  obtain ⟨g, rfl, hown⟩ := h
  have hat := hown.cells (g := g) rfl
  have hl : (txV l).length = l.length := by simp
  refine ⟨g, rfl, (hown.lt g rfl).2, fun j x hx => ?_, ?_, ?_, ?_⟩
  · have hj : j < l.length := (List.getElem?_eq_some_iff.1 hx).1
    have := hat j (.string x) (by rw [List.getElem?_append_left (by omega)]; rw [List.getElem?_map, hx]; rfl)
    rwa [Addr.add_lit, Nat.zero_add] at this
  · have := hat l.length (.string ⟨#[1]⟩) (by rw [List.getElem?_append_right (by omega), hl]; simp [markT])
    rwa [Addr.add_lit, Nat.zero_add] at this
  · have := hat (l.length + 1) (.string ⟨#[2]⟩) (by rw [List.getElem?_append_right (by omega), hl]; simp [markT])
    rwa [Addr.add_lit, Nat.zero_add] at this
  · have := hat (l.length + 2) (.string ⟨#[3]⟩) (by rw [List.getElem?_append_right (by omega), hl]; simp [markT])
    rwa [Addr.add_lit, Nat.zero_add] at this

theorem MarkT.row {w : World} {base : Nat} {v : Value} {l : List ByteArray} (h : MarkT w base v l) (h40 : l.length ≤ 100) : TxRow w v l := by
  obtain ⟨g, rfl, hg, hc, -⟩ := h.cell
  exact ⟨_, _, rfl, ⟨by omega, fun e => by cases e⟩, fun _ => ⟨g, 0, rfl, hg, fun j x hx => by rw [Nat.zero_add]; exact hc j x hx⟩⟩

theorem MarkT.later {w w' : World} {base : Nat} {v : Value} {l : List ByteArray} (h : MarkT w base v l) (hb : Below w.heap.size w w') : MarkT w' base v l := by
  obtain ⟨g, rfl, hown⟩ := h
  have hlt := (hown.lt g rfl).2
  exact ⟨g, rfl, hown.kept (row := none) (World.grownBy.mk hb.os hb.tape hb.output hb.size (fun k hk _ => hb.block k hk)) (.inr (by simp [Value.ownBlock]))⟩

end Go.Proofs.YtdganemgldocoaaGreatDoor

namespace Go.Proofs.YtdganemgldocoaaGreatDoor
open Go.RowKit Go.ChangeShapes Go.WideShapes Go.ChangeAt

/-- a slice of texts that came in, as the walk is told of it -/
theorem tx_open {H : Type} {enc : TypeId × Value → H} {W : World} {a : Option Addr} {len cap : Nat} {d : DataW H} {p : List MemPlace}
    (hj : DataW.Trod enc Tryz.prog W 0 (fun _ => true) true 40 (.slice a len cap) d p) : ∃ l, TxRow W (.slice a len cap) l := by
  obtain ⟨fuel, hf⟩ := hj
  rcases open_strings Tryz.underlying40 Tryz.underlying9 (by kernel_rfl) hf with ⟨hcs, _⟩ | ⟨x, l, c, ss, hcs, _, hl, hm, hz, hx, hcell, hws⟩
  · simp [Value.cells] at hcs
    obtain ⟨rfl, rfl, rfl⟩ := hcs
    exact ⟨[], none, 0, rfl, ⟨by decide, fun _ => rfl⟩, fun h => absurd rfl h⟩
  · simp [Value.cells] at hcs
    obtain ⟨rfl, rfl, rfl⟩ := hcs
    have hlen : (ss.take len).length = len := by rw [List.length_take]; simp at hz; omega
    unfold maxLen at hm
    refine ⟨ss.take len, some x, cap, by rw [hlen], ⟨by omega, fun e => by cases e⟩, fun hne => ?_⟩
    have h0 : 0 < ss.length := by
      cases ss with
      | nil => simp at hne
      | cons y r => simp
    obtain ⟨b, off, spot⟩ := x
    have hc0 := hcell 0 h0
    have hspot : spot = none := by simpa [Addr.add] using World.cell?_spot hc0
    subst hspot
    refine ⟨b, off, rfl, ?_, fun j y hy => ?_⟩
    · have h1 := hc0
      rw [Addr.add_lit, Nat.add_zero] at h1
      exact cell_block h1
    · have hj : j < len := by have := (List.getElem?_eq_some_iff.1 hy).1; omega
      have hjs : j < ss.length := by rw [List.length_take] at hlen; omega
      have h1 := hcell j hjs
      rw [Addr.add_lit] at h1
      rw [List.getElem?_take_of_lt hj] at hy
      rw [h1, List.getD_eq_getElem?_getD, hy]; rfl
end Go.Proofs.YtdganemgldocoaaGreatDoor

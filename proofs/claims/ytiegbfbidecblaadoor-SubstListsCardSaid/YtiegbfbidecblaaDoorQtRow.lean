/- The document's own answers of layer 11 that are rows of texts: the parts between blanks. -/
import Derived.Test.YtiegbfbidecblaaDoorQtRef
import Derived.Test.YtiegbfbidecblaaDoorGrown
import Derived.Laws.Pointers
import Derived.Deep.AppendLies
import Derived.OneCell
import Derived.OwnWalk
namespace Go.Proofs.YtiegbfbidecblaaDoor
open Go.RowKit

theorem infoTx : (Tryd.prog.info? 9).map (fun i => (i.zero, i.size, i.bytes)) = some (some (.string ⟨#[]⟩), 1, 16) := by kernel_rfl
theorem tx_one (t : ByteArray) : ∀ u ∈ ([.string t] : List Value), u.oneCell' = true := by intro u hu; simp at hu; subst hu; rfl
theorem tx_new (w : World) (t : ByteArray) (T : TypeId) (m : Nat) (hm : m = w.heap.size) : ∀ j x, ([.string t] : List Value)[j]? = some x → (w.alloc (.cells #[.string t] T)).cell? ((⟨m, 0, none⟩ : Addr).add j) = some x := by
  subst hm
  exact World.news_of_block (cs := #[.string t]) (t := T) (fr := (0, 0)) (heap_alloc_new w _)
theorem tx_zero (w : World) (T : TypeId) (base : Nat) (hb : base ≤ w.heap.size) : (w.alloc (.cells #[] T)).ownsRow base T 1 (.slice (some ⟨w.heap.size, 0, none⟩) 0 0) 0 (([] : List ByteArray).map Value.string) :=
  ⟨rfl, .inr ⟨w.heap.size, 0, _, rfl, hb, heap_alloc_new w _, Nat.le_refl _, by decide, rfl, rfl⟩⟩
theorem tx_nil (w : World) (base : Nat) (T : TypeId) : w.ownsRow base T 1 (.slice none 0 0) 0 (([] : List ByteArray).map Value.string) := ⟨rfl, .inl ⟨rfl, rfl⟩⟩
theorem tx_shape {w : World} {base s n : Nat} {e : TypeId} {v : Value} {xs : List Value} (h : w.ownsRow base e s v n xs) : ∃ a cap, v = .slice a n cap := by
  rcases h.2 with ⟨rfl, h0⟩ | ⟨g, cap, cur, rfl, -⟩
  · exact ⟨none, 0, by rw [h0]⟩
  · exact ⟨_, cap, rfl⟩
/-- rows of two types lie apart -/
theorem tx_apart {w : World} {b b' n n' sz sz' : Nat} {e e' : TypeId} {v v' : Value} {xs xs' : List Value} (h : w.ownsRow b e sz v n xs) (h2 : w.ownsRow b' e' sz' v' n' xs') (he : e ≠ e') : v.ownBlock = none ∨ v.ownBlock ≠ v'.ownBlock := by
  rcases h.2 with ⟨rfl, -⟩ | ⟨g, cap, cur, rfl, -, hg, -⟩
  · exact .inl rfl
  · rcases h2.2 with ⟨rfl, -⟩ | ⟨g', cap', cur', rfl, -, hg', -⟩
    · right; simp [Value.ownBlock]
    · right
      simp only [Value.ownBlock, ne_eq, Option.some.injEq]
      intro e
      subst e
      rw [hg] at hg'
      simp at hg'
      exact he hg'.2
abbrev txV (O : List ByteArray) : List Value := O.map Value.string
abbrev txL (O : List ByteArray) : List (List UInt8) := O.map fun t => t.data.toList
/-- a row of texts that a call makes -/
def TxOut (L : List (List UInt8)) (w : World) (e : Ending) (w' : World) : Prop := (∃ v O, e = .returned v ∧ w'.ownsRow w.heap.size 9 1 v O.length (txV O) ∧ txL O = L) ∧ w.grownBy w' none
def FldI (l : List UInt8) (j : Nat) (W : ByteArray) (O : List ByteArray) : Prop := if j ≤ l.length then (W.data.toList, txL O) = (l.take j).foldl fldS ([], []) else txL O = fldQ l
theorem fld_take {l : List UInt8} {j : Nat} {b : UInt8} (h : l[j]? = some b) : (l.take (j + 1)).foldl fldS ([], []) = fldS ((l.take j).foldl fldS ([], [])) b := by
  rw [List.take_add_one, h]; exact fld_snoc _ _
theorem FldI.blank {l : List UInt8} {j : Nat} {W : ByteArray} {O : List ByteArray} {b : UInt8} (h : FldI l j W O) (hb : l[j]? = some b) (hk : blkQ b = true) :
    FldI l (j + 1) ⟨#[]⟩ (if W.size = 0 then O else O ++ [W]) := by
  have hj := (List.getElem?_eq_some_iff.1 hb).1
  unfold FldI at h ⊢
  rw [if_pos (by omega)] at h ⊢
  rw [fld_take hb, ← h]
  unfold fldS
  rw [if_pos hk]
  by_cases hw : W.size = 0
  · have e : W.data.toList = [] := List.eq_nil_of_length_eq_zero (by simpa using hw)
    rw [if_pos hw, e]; rfl
  · have e : W.data.toList.isEmpty = false := by
      cases h2 : W.data.toList with
      | nil => exact (hw (by have := congrArg List.length h2; simpa using this)).elim
      | cons a r => rfl
    rw [if_neg hw, if_neg (by rw [e]; simp)]
    simp [txL]
theorem FldI.more {l : List UInt8} {j : Nat} {W : ByteArray} {O : List ByteArray} {b : UInt8} {t : ByteArray} (h : FldI l j W O) (hb : l[j]? = some b) (hk : blkQ b = false) (ht : t.data.toList = W.data.toList ++ [b]) : FldI l (j + 1) t O := by
  have hj := (List.getElem?_eq_some_iff.1 hb).1
  unfold FldI at h ⊢
  rw [if_pos (by omega)] at h ⊢
  rw [fld_take hb, ← h]
  unfold fldS
  rw [if_neg (by rw [hk]; simp), ht]
theorem FldI.last {l : List UInt8} {W : ByteArray} {O : List ByteArray} (h : FldI l l.length W O) : FldI l (l.length + 1) ⟨#[]⟩ (if W.size = 0 then O else O ++ [W]) := by
  unfold FldI at h ⊢
  rw [if_pos (Nat.le_refl _), List.take_length] at h
  rw [if_neg (by omega)]
  unfold fldQ flushQ
  rw [← h]
  by_cases hw : W.size = 0
  · have e : W.data.toList = [] := List.eq_nil_of_length_eq_zero (by simpa using hw)
    rw [if_pos hw, e]; rfl
  · have e : W.data.toList.isEmpty = false := by
      cases h2 : W.data.toList with
      | nil => exact (hw (by have := congrArg List.length h2; simpa using this)).elim
      | cons a r => rfl
    rw [if_neg hw]
    simp [txL, e]
end Go.Proofs.YtiegbfbidecblaaDoor

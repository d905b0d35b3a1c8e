/- The rows of the document's Env against what the program's Env holds: names apart, how many, and that Set, Unset, Find go alike. -/
import Derived.Test.YtaihpgjimhifcaaDoorEvShow
import Derived.Test.YtaihpgjimhifcaaDoorEvUn
namespace Go.Proofs.YtaihpgjimhifcaaDoor
open Go.RowKit

theorem less_irr : ∀ a : List UInt8, Op.bytesLess a a = false
  | [] => rfl
  | b :: l => by unfold Op.bytesLess; simp [less_irr l]
theorem str_iff {a b : ByteArray} : (a.toList == b.toList) = true ↔ a = b :=
  ⟨fun h => Classical.byContradiction fun hn => (by rw [str_ne hn] at h; cases h), str_eq⟩
/-- names apart, and no more than there may be -/
def OkZ (Z : List Vz) : Prop := Z.Pairwise (fun x y => x.n ≠ y.n) ∧ Z.length ≤ 24
theorem vb_find (Z : List Vz) (s : ByteArray) : (vbL Z).find? (isB s) = (Z.find? fun x => decide (x.n = s)).map Vz.b := by
  induction Z with
  | nil => rfl
  | cons a Z ih =>
    by_cases h : a.n = s
    · have e1 : isB s a.b = true := isB_iff.2 h
      show (a.b :: vbL Z).find? (isB s) = _
      rw [List.find?_cons_of_pos e1, List.find?_cons_of_pos (by simp [h])]; rfl
    · have e1 : ¬isB s a.b = true := fun e => h (isB_iff.1 e)
      show (a.b :: vbL Z).find? (isB s) = _
      rw [List.find?_cons_of_neg e1, List.find?_cons_of_neg (by simp [h])]; exact ih
theorem vb_filterN (Z : List Vz) (q : ByteArray → Bool) : (vbL Z).filter (fun x => q x.n) = vbL (Z.filter fun x => q x.n) := by
  induction Z with
  | nil => rfl
  | cons a Z ih =>
    have e : a.b.n = a.n := rfl
    show List.filter _ (a.b :: vbL Z) = _
    cases h : q a.n
    · rw [List.filter_cons_of_neg (by simp [e, h]), List.filter_cons_of_neg (by simp [h]), ih]
    · rw [List.filter_cons_of_pos (by simp [e, h]), List.filter_cons_of_pos (by simp [h]), ih]; rfl
theorem vb_set (Z : List Vz) (x : Vz) : setB (vbL Z) x.b = vbL (setZ Z x) := by
  unfold setB setZ
  have h1 := vb_filterN Z (fun s => Op.bytesLess s.toList x.n.toList)
  have h2 := vb_filterN Z (fun s => !(Op.bytesLess s.toList x.n.toList || s.toList == x.n.toList))
  have e : x.b.n = x.n := rfl
  rw [e, h1, h2]
  unfold vbL
  rw [List.map_append, List.map_cons]
theorem vb_put (Z : List Vz) (x : Vz) : putB (vbL Z) x.b = ((putZ Z x).1, vbL (putZ Z x).2) := by
  unfold putB putZ
  have e : x.b.n = x.n := rfl
  split
  · rfl
  · rw [e, vb_find]
    cases Z.find? (fun y => decide (y.n = x.n)) with
    | none =>
      simp only [Option.map_none, List.length_map]
      split
      · rfl
      · rw [vb_set]
    | some y =>
      simp only [Option.map_some]
      have e2 : (x.b.lv < y.b.lv) ↔ x.lv < y.lv := Iff.rfl
      by_cases h : x.lv < y.lv
      · rw [if_pos (e2.2 h), if_pos h]
      · rw [if_neg (fun k => h (e2.1 k)), if_neg h, vb_set]
theorem set_ok {Z : List Vz} {x : Vz} (h : OkZ Z) (hr : (∃ y ∈ Z, y.n = x.n) ∨ Z.length < 24) : OkZ (setZ Z x) := by
  obtain ⟨hp, hl⟩ := h
  unfold setZ
  constructor
  · refine List.pairwise_append.2 ⟨hp.filter _, List.pairwise_cons.2 ⟨fun y hy => ?_, hp.filter _⟩, fun a ha b hb => ?_⟩
    · have := (List.mem_filter.1 hy).2
      intro e
      rw [e] at this
      simp at this
    · have h1 := (List.mem_filter.1 ha).2
      rcases List.mem_cons.1 hb with rfl | hb
      · intro e
        rw [e, less_irr] at h1; cases h1
      · have h2 := (List.mem_filter.1 hb).2
        intro e
        rw [e] at h1
        rw [h1] at h2; simp at h2
  · have key : ∀ l : List Vz, (l.filter (fun y => Op.bytesLess y.n.toList x.n.toList)).length + (l.filter (fun y => !(Op.bytesLess y.n.toList x.n.toList || y.n.toList == x.n.toList))).length ≤ l.length ∧ ((∃ y ∈ l, y.n = x.n) → (l.filter (fun y => Op.bytesLess y.n.toList x.n.toList)).length + (l.filter (fun y => !(Op.bytesLess y.n.toList x.n.toList || y.n.toList == x.n.toList))).length < l.length) := by
      intro l
      induction l with
      | nil => exact ⟨Nat.le_refl _, fun ⟨y, hy, _⟩ => by cases hy⟩
      | cons a l ih =>
        obtain ⟨i1, i2⟩ := ih
        cases hb : Op.bytesLess a.n.toList x.n.toList
        · cases he : (a.n.toList == x.n.toList)
          · rw [List.filter_cons_of_neg (by simp [hb]), List.filter_cons_of_pos (by simp [hb, he])]
            simp only [List.length_cons]
            refine ⟨by omega, fun ⟨y, hy, hn⟩ => ?_⟩
            rcases List.mem_cons.1 hy with rfl | hy
            · rw [str_eq hn] at he; cases he
            · have := i2 ⟨y, hy, hn⟩; omega
          · rw [List.filter_cons_of_neg (by simp [hb]), List.filter_cons_of_neg (by simp [he])]
            simp only [List.length_cons]
            exact ⟨by omega, fun _ => by omega⟩
        · rw [List.filter_cons_of_pos (by simp [hb]), List.filter_cons_of_neg (by simp [hb])]
          simp only [List.length_cons]
          refine ⟨by omega, fun ⟨y, hy, hn⟩ => ?_⟩
          rcases List.mem_cons.1 hy with rfl | hy
          · rw [hn, less_irr] at hb; cases hb
          · have := i2 ⟨y, hy, hn⟩; omega
    obtain ⟨k1, k2⟩ := key Z
    rw [List.length_append, List.length_cons]
    rcases hr with hr | hr
    · have := k2 hr; omega
    · omega
theorem put_ok {Z : List Vz} {x : Vz} (h : OkZ Z) : OkZ (putZ Z x).2 := by
  unfold putZ
  split
  · exact h
  · cases hf : Z.find? (fun y => decide (y.n = x.n)) with
    | none =>
      simp only
      split
      · exact h
      · exact set_ok h (.inr (by omega))
    | some y =>
      simp only
      split
      · exact h
      · refine set_ok h (.inl ⟨y, List.mem_of_find?_eq_some hf, ?_⟩)
        have := List.find?_some hf
        simpa using this
theorem un_ok {Z : List Vz} {s : ByteArray} (h : OkZ Z) : OkZ (unZ Z s) := by
  unfold unZ
  cases hi : idxZ Z s with
  | none => exact h
  | some k =>
    have hs : (Z.take k ++ Z.drop (k + 1)).Sublist Z := by rw [← List.eraseIdx_eq_take_drop_succ]; exact List.eraseIdx_sublist ..
    exact ⟨h.1.sublist hs, Nat.le_trans hs.length_le h.2⟩
theorem vb_un {Z : List Vz} {s : ByteArray} (h : OkZ Z) : delB (vbL Z) s = vbL (unZ Z s) := by
  have h1 : delB (vbL Z) s = vbL (Z.filter fun x => !decide (x.n = s)) := by
    unfold delB
    have := vb_filterN Z (fun t => !decide (t = s))
    exact this
  rw [h1]
  congr 1
  unfold unZ
  cases hi : idxZ Z s with
  | none =>
    have := hi
    unfold idxZ at this
    rw [List.findIdx?_eq_none_iff] at this
    rw [List.filter_eq_self.2 (fun x hx => by simpa using this x hx)]
  | some k =>
    obtain ⟨x, hx, hn⟩ := idx_is hi
    obtain ⟨hk, e⟩ := List.getElem?_eq_some_iff.1 hx
    have hp := h.1
    have hsplit : Z = Z.take k ++ x :: Z.drop (k + 1) := by rw [← e, ← List.drop_eq_getElem_cons hk, List.take_append_drop]
    rw [hsplit] at hp
    obtain ⟨-, p2, p3⟩ := List.pairwise_append.1 hp
    have p4 := (List.pairwise_cons.1 p2).1
    have e1 : (Z.take k).filter (fun x => !decide (x.n = s)) = Z.take k := List.filter_eq_self.2 (fun y hy => by
      have := p3 y hy x (by simp)
      simp only [Bool.not_eq_true', decide_eq_false_iff_not]
      intro e2; exact this (e2.trans hn.symm))
    have e2 : (Z.drop (k + 1)).filter (fun x => !decide (x.n = s)) = Z.drop (k + 1) := List.filter_eq_self.2 (fun y hy => by
      have := p4 y hy
      simp only [Bool.not_eq_true', decide_eq_false_iff_not]
      intro e2; exact this (hn.trans e2.symm))
    have e0 : Z.filter (fun x => !decide (x.n = s)) = (Z.take k ++ x :: Z.drop (k + 1)).filter (fun x => !decide (x.n = s)) := congrArg _ hsplit
    rw [e0, List.filter_append, List.filter_cons_of_neg (by simp [hn]), e1, e2]
theorem vb_is (Z : List Vz) (s : ByteArray) : ((vbL Z).find? (isB s)).isSome = (idxZ Z s).isSome := by
  rw [vb_find]
  rcases idx_find (l := Z) (s := s) with ⟨h1, h2⟩ | ⟨k, x, h1, -, -, h2⟩ <;> (rw [h1, h2]; rfl)
end Go.Proofs.YtaihpgjimhifcaaDoor

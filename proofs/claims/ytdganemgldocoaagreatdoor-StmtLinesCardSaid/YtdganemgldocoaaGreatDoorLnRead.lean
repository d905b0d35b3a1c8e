/- Lines, plainly, as the program reads them: a text cut at its line feeds; how many lines there are; a line in steps; what is left out at both ends. -/
import Derived.Test.YtdganemgldocoaaGreatDoorLnPlain
import Derived.Lib.SplitLaws
import Derived.Lib.SlTrimSet
namespace Go.Proofs.YtdganemgldocoaaGreatDoor

/-- the pieces between line feeds, the first one behind w -/
def pcs (w : List UInt8) : List UInt8 → List (List UInt8)
  | [] => [w]
  | b :: r => if b = 10 then w :: pcs [] r else pcs (w ++ [b]) r
theorem pcs_pre : ∀ r : List UInt8, ∃ x t, ∀ w, pcs w r = (w ++ x) :: t
  | [] => ⟨[], [], fun w => by simp [pcs]⟩
  | b :: r => by
    by_cases h : b = 10
    · exact ⟨[], pcs [] r, fun w => by rw [pcs, if_pos h]; simp⟩
    · obtain ⟨x, t, ih⟩ := pcs_pre r
      exact ⟨b :: x, t, fun w => by rw [pcs, if_neg h, ih]; simp⟩
theorem split_pcs : ∀ r : List UInt8, Lib.splitK [10] 0 (Lib.count r [10]) r = pcs [] r
  | [] => by rw [Lib.count_miss (by simp [Lib.index])]; rfl
  | b :: l => by
    by_cases h : b = 10
    · subst h
      rw [Lib.count_cons_eq, Nat.add_comm, Lib.splitK]
      have hix : Lib.index (10 :: l) [10] = ((0 : Nat) : Int) := by rw [Lib.index]; simp [List.isPrefixOf]
      rw [hix, if_neg (by simp)]
      have ih := split_pcs l
      simp only [pcs, if_pos]
      simpa using ih
    · have hix : Lib.index (b :: l) [10] = if Lib.index l [10] == -1 then -1 else Lib.index l [10] + 1 := by
        have hp : ([10] : List UInt8).isPrefixOf (b :: l) = false := by simp [List.isPrefixOf, Ne.symm h]
        rw [Lib.index, hp]; simp
      have ih := split_pcs l
      obtain ⟨x, t, hx⟩ := pcs_pre l
      have e0 := hx []
      rw [List.nil_append] at e0
      rw [pcs, if_neg h, List.nil_append, hx [b]]
      rw [e0] at ih
      rw [Lib.count_cons_ne b 10 l h]
      by_cases hm : Lib.index l [10] = -1
      · rw [Lib.count_miss hm, Lib.splitK] at ih
        rw [Lib.count_miss hm, Lib.splitK]
        cases ih; rfl
      · have hge := Lib.index_ge l [10]
        obtain ⟨j, hj⟩ : ∃ j : Nat, Lib.index l [10] = j := ⟨(Lib.index l [10]).toNat, by omega⟩
        rw [hj, if_neg (by simp)] at hix
        rw [Lib.count_hit (by simp) hj, Nat.add_comm, Lib.splitK, hj, if_neg (by simp)] at ih
        rw [Lib.count_hit (by simp) hj, Nat.add_comm, Lib.splitK, hix, if_neg (by simp; omega)]
        injection ih with i1 i2
        rw [show ((j : Int) + 1).toNat = j + 1 by omega]
        simp only [Int.toNat_natCast, List.length_singleton, Nat.add_zero] at i1 i2 ⊢
        rw [List.take_succ_cons, List.drop_succ_cons, i1, i2]; rfl
theorem linA_pcs : ∀ r w : List UInt8, linA w [] r = (pcs w r).take (linA w [] r).length
  | [], w => by
    rw [linA_nil, pcs]
    cases w <;> simp
  | b :: r, w => by
    by_cases h : b = 10
    · subst h
      rw [linA_feed, linA_out, pcs, if_pos rfl]
      have := linA_pcs r []
      simp only [List.nil_append, List.singleton_append, List.length_cons, List.take_succ_cons]
      rw [← this]
    · rw [linA_byte h, pcs, if_neg h]
      exact linA_pcs r (w ++ [b])
theorem linA_count : ∀ r w : List UInt8, (linA w [] r).length = r.count 10 + (if r = [] then (if w.isEmpty then 0 else 1) else if r.getLast? = some 10 then 0 else 1)
  | [], w => by rw [linA_nil]; cases w <;> simp
  | b :: r, w => by
    have hl : ∀ y, (b :: r).getLast? = some y ↔ (if r = [] then b = y else r.getLast? = some y) := by
      intro y
      cases r with
      | nil => simp
      | cons c r => simp
    by_cases h : b = 10
    · subst h
      rw [linA_feed, linA_out, List.length_append, linA_count r []]
      by_cases hr : r = []
      · subst hr; simp
      · have h1 := hl 10
        rw [if_neg hr] at h1
        simp only [hr, h1, if_false, List.count_cons_self]
        simp; omega
    · rw [linA_byte h, linA_count r (w ++ [b]), List.count_cons_of_ne (by simpa using h)]
      by_cases hr : r = []
      · subst hr; simp [h]
      · have h1 := hl 10
        rw [if_neg hr] at h1
        simp [hr, h1]
theorem linQ_count (l : List UInt8) : (linQ l).length = l.count 10 + if l = [] ∨ l.getLast? = some 10 then 0 else 1 := by
  unfold linQ
  rw [linA_count l []]
  by_cases h : l = []
  · simp [h]
  · simp [h]
/-- how much these lines hold, their line feeds counted -/
def totQ (r : List (List UInt8)) : Nat := (r.map (·.length + 1)).sum
theorem totQ_cons (s : List UInt8) (r : List (List UInt8)) : totQ (s :: r) = s.length + 1 + totQ r := by unfold totQ; simp
theorem linA_tot : ∀ r w : List UInt8, totQ (linA w [] r) ≤ w.length + r.length + 1
  | [], w => by rw [linA_nil]; cases w <;> simp [totQ]
  | b :: r, w => by
    by_cases h : b = 10
    · subst h
      have := linA_tot r []
      rw [linA_feed, linA_out, List.nil_append, List.singleton_append, totQ_cons]
      simp only [List.length_cons, List.length_nil] at this ⊢; omega
    · rw [linA_byte h]
      have := linA_tot r (w ++ [b])
      simp only [List.length_append, List.length_cons, List.length_nil] at this ⊢; omega
theorem linQ_tot (l : List UInt8) : totQ (linQ l) ≤ l.length + 1 := by have := linA_tot l []; simpa [linQ] using this
/-- what a line's reading leads to -/
def nxA (o k : Nat) (r : List (List UInt8)) (O : List Lq) : Option (List UInt8 × Bool) → Except (Nat × Nat) (List Lq)
  | none => .error (5, k + 1)
  | some (h2, true) => spA o h2 O (k + 1) r
  | some (h2, false) => if 400 < (trQ h2).length then .error (2, o) else spA 0 [] (O ++ [⟨trQ h2, o, false⟩]) (k + 1) r
theorem spA_nx {o : Nat} (ho : o ≠ 0) (h : List UInt8) (O : List Lq) (k : Nat) (s : List UInt8) (r : List (List UInt8)) : spA o h O k (s :: r) = nxA o k r O (rdQ (!r.isEmpty) false h s) := by
  rw [spA, if_neg (fun x => ho x.1)]
  simp only [if_neg ho]
  cases rdQ (!r.isEmpty) false h s with
  | none => rfl
  | some q => obtain ⟨h2, g⟩ := q; cases g <;> rfl
theorem spA_begin {s : List UInt8} (hs : recQ s = false) (h : List UInt8) (O : List Lq) (k : Nat) (r : List (List UInt8)) : spA 0 h O k (s :: r) = spA (k + 1) [] O k (s :: r) := by
  rw [spA_nx (Nat.succ_ne_zero k), spA, if_neg (fun x => by rw [hs] at x; cases x.2)]
  simp only [if_true]
  cases rdQ (!r.isEmpty) false [] s with
  | none => rfl
  | some q => obtain ⟨h2, g⟩ := q; cases g <;> rfl
theorem spA_recipe {s : List UInt8} (hs : recQ s = true) (h : List UInt8) (O : List Lq) (k : Nat) (r : List (List UInt8)) : spA 0 h O k (s :: r) = if 400 < s.length - 1 then .error (2, k + 1) else spA 0 [] (O ++ [⟨s.tail, k + 1, true⟩]) (k + 1) r := by
  rw [spA, if_pos ⟨rfl, hs⟩]
theorem tl_cons (b : UInt8) (l : List UInt8) : tlQ (b :: l) = if (tlQ l).isEmpty then (if btQ b then [] else [b]) else b :: tlQ l := by
  unfold tlQ
  rw [List.reverse_cons, List.dropWhile_append, List.isEmpty_reverse]
  split
  · cases h : btQ b <;> simp [List.dropWhile, h]
  · simp
theorem tl_dw : ∀ l : List UInt8, (tlQ l).dropWhile btQ = tlQ (l.dropWhile btQ)
  | [] => rfl
  | b :: l => by
    have ih := tl_dw l
    rw [tl_cons]
    cases hb : btQ b
    · rw [List.dropWhile_cons_of_neg (by simp [hb]), tl_cons]
      split
      · simp [hb]
      · rw [List.dropWhile_cons_of_neg (by simp [hb])]
    · rw [List.dropWhile_cons_of_pos hb, ← ih]
      split
      · rename_i he
        rw [List.isEmpty_iff.1 he]; simp
      · rw [List.dropWhile_cons_of_pos hb]
theorem trim_tr (l : List UInt8) : Lib.trimS l [32, 9] = trQ l := by
  have e : (fun b => ([32, 9] : List UInt8).contains b) = btQ := by
    funext b
    simp only [List.contains_cons, btQ]
    simp
  unfold Lib.trimS Lib.trimLeftS Lib.trimRightS
  rw [show (fun x => ([32, 9] : List UInt8).contains x) = btQ from e]
  exact tl_dw l
theorem rec_byte {b : UInt8} {r : List UInt8} : recQ (b :: r) = decide (0 ≤ Lib.indexByte [32, 9] b) := by
  unfold recQ btQ
  by_cases h1 : b = 32
  · subst h1; rfl
  · by_cases h2 : b = 9
    · subst h2; rfl
    · have e1 : (b == 32) = false := by simpa using h1
      have e2 : (b == 9) = false := by simpa using h2
      show (b == 32 || b == 9) = _
      rw [e1, e2]
      symm
      simp [Lib.indexByte, Ne.symm h1, Ne.symm h2]
end Go.Proofs.YtdganemgldocoaaGreatDoor

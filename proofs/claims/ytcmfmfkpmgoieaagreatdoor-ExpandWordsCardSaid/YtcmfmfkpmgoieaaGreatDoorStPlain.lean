/- Patterns with a stem, plainly: where the wild sign stands, which texts fit, a pattern with a stem. Words that are put, plainly: a word, a list of them, what fits a pattern and what doesn't, how many signs a pattern has. -/
import Derived.Lib.IndexAny
import Derived.Lib.Strings
namespace Go.Proofs.YtcmfmfkpmgoieaaGreatDoor

/-- a percent sign or an ampersand -/
def wldB (b : UInt8) : Bool := b == 37 || b == 38
/-- what stands ahead of the wild sign -/
def ahdS (l : List UInt8) : List UInt8 := l.takeWhile fun b => !wldB b
/-- the wild sign and what stands behind it -/
def bhdS (l : List UInt8) : List UInt8 := l.dropWhile fun b => !wldB b
/-- where the wild sign stands -/
def wldN (l : List UInt8) : Int := if l.any wldB then ((ahdS l).length : Int) else -1
/-- no point and no stroke -/
def nrwB (b : UInt8) : Bool := !(b == 46 || b == 47)
def nrwS (l : List UInt8) : Bool := l.all nrwB
/-- each sign is the stem -/
def filS (l s : List UInt8) : List UInt8 := l.flatMap fun b => if wldB b then s else [b]
/-- what a text has between these two -/
def btwS (a z s : List UInt8) : Option (List UInt8) :=
  if a.isPrefixOf s && z.isSuffixOf (s.drop a.length) then some ((s.drop a.length).take ((s.drop a.length).length - z.length)) else none
def fitS (c : UInt8) (t : List UInt8) : Option (List UInt8) := if c == 38 && !nrwS t then none else some t
/-- the stem of a text that fits -/
def mtcS (l s : List UInt8) : Option (List UInt8) :=
  match bhdS l with
  | [] => if s = l then some [] else none
  | c :: z => (btwS (ahdS l) z s).bind (fitS c)

theorem bhd_none : ∀ {l : List UInt8}, l.any wldB = false → ahdS l = l ∧ bhdS l = []
  | [], _ => ⟨rfl, rfl⟩
  | b :: l, h => by
    rw [List.any_cons, Bool.or_eq_false_iff] at h
    have := bhd_none h.2
    unfold ahdS bhdS at this ⊢
    rw [List.takeWhile_cons_of_pos (by rw [h.1]; rfl), List.dropWhile_cons_of_pos (by rw [h.1]; rfl), this.1, this.2]
    exact ⟨rfl, rfl⟩
theorem bhd_at : ∀ {a : List UInt8} {c : UInt8} {z : List UInt8}, a.any wldB = false → wldB c = true → ahdS (a ++ c :: z) = a ∧ bhdS (a ++ c :: z) = c :: z ∧ (a ++ c :: z).any wldB = true
  | [], c, z, _, hc => by
    unfold ahdS bhdS
    rw [List.nil_append, List.takeWhile_cons_of_neg (by rw [hc]; simp), List.dropWhile_cons_of_neg (by rw [hc]; simp), List.any_cons, hc]
    exact ⟨rfl, rfl, rfl⟩
  | b :: a, c, z, h, hc => by
    rw [List.any_cons, Bool.or_eq_false_iff] at h
    have := bhd_at (z := z) h.2 hc
    unfold ahdS bhdS at this ⊢
    rw [List.cons_append, List.takeWhile_cons_of_pos (by rw [h.1]; rfl), List.dropWhile_cons_of_pos (by rw [h.1]; rfl), List.any_cons, this.1, this.2.1, this.2.2, Bool.or_true]
    exact ⟨rfl, rfl, rfl⟩
/-- a text has no wild sign, or it is what stands ahead of it, the sign, and what stands behind it -/
theorem wld_cases (l : List UInt8) : l.any wldB = false ∨ ∃ a c z, l = a ++ c :: z ∧ a.any wldB = false ∧ wldB c = true := by
  induction l with
  | nil => exact .inl rfl
  | cons b l ih =>
    by_cases hb : wldB b = true
    · exact .inr ⟨[], b, l, rfl, rfl, hb⟩
    · have hb : wldB b = false := by simpa using hb
      rcases ih with h | ⟨a, c, z, rfl, ha, hc⟩
      · exact .inl (by rw [List.any_cons, hb, h]; rfl)
      · exact .inr ⟨b :: a, c, z, rfl, by rw [List.any_cons, hb, ha]; rfl, hc⟩
theorem wldN_none {l : List UInt8} (h : l.any wldB = false) : wldN l = -1 := by unfold wldN; rw [h]; rfl
theorem wldN_at {a z : List UInt8} {c : UInt8} (ha : a.any wldB = false) (hc : wldB c = true) : wldN (a ++ c :: z) = a.length := by
  obtain ⟨h1, -, h3⟩ := bhd_at (z := z) ha hc
  unfold wldN; rw [h3, if_pos rfl, h1]
theorem wldN_neg {l : List UInt8} : wldN l < 0 ↔ l.any wldB = false := by
  unfold wldN
  cases l.any wldB <;> simp
theorem fil_none : ∀ {l s : List UInt8}, l.any wldB = false → filS l s = l
  | [], _, _ => rfl
  | b :: l, s, h => by
    rw [List.any_cons, Bool.or_eq_false_iff] at h
    have := fil_none (s := s) h.2
    unfold filS at this ⊢
    rw [List.flatMap_cons, this, h.1]; rfl
theorem fil_at {a z s : List UInt8} {c : UInt8} (ha : a.any wldB = false) (hc : wldB c = true) : filS (a ++ c :: z) s = a ++ s ++ filS z s := by
  have := fil_none (s := s) ha
  unfold filS at this ⊢
  rw [List.flatMap_append, this, List.flatMap_cons, hc, if_pos rfl, List.append_assoc]
theorem fil_len : ∀ l s : List UInt8, (filS l s).length ≤ l.length * (s.length + 1)
  | [], _ => by simp [filS]
  | b :: l, s => by
    have h := fil_len l s
    unfold filS at h ⊢
    rw [List.flatMap_cons, List.length_append, List.length_cons, Nat.add_mul]
    split
    · omega
    · rw [List.length_singleton]; omega
theorem btw_some {a z s t : List UInt8} : btwS a z s = some t ↔ s = a ++ t ++ z := by
  unfold btwS
  constructor
  · intro h
    split at h
    · rename_i hp
      rw [Bool.and_eq_true, List.isPrefixOf_iff_prefix, List.isSuffixOf_iff_suffix] at hp
      obtain ⟨⟨r, rfl⟩, y, hy⟩ := hp
      rw [List.drop_left] at h hy
      subst hy
      rw [List.length_append, Nat.add_sub_cancel, List.take_left] at h
      cases h
      rw [List.append_assoc]
    · cases h
  · rintro rfl
    rw [List.append_assoc, List.drop_left, if_pos, List.length_append, Nat.add_sub_cancel, List.take_left]
    rw [Bool.and_eq_true, List.isPrefixOf_iff_prefix, List.isSuffixOf_iff_suffix]
    exact ⟨⟨_, rfl⟩, _, rfl⟩
theorem btw_none {a z s : List UInt8} : btwS a z s = none ↔ ∀ t, s ≠ a ++ t ++ z := by
  cases h : btwS a z s with
  | none =>
    refine ⟨fun _ t e => ?_, fun _ => rfl⟩
    rw [btw_some.2 e] at h; cases h
  | some t => exact ⟨fun e => (by cases e), fun e => (e t (btw_some.1 h)).elim⟩
theorem mtc_none {l s : List UInt8} (h : l.any wldB = false) : mtcS l s = if s = l then some [] else none := by
  unfold mtcS; rw [(bhd_none h).2]
theorem mtc_at {a z s : List UInt8} {c : UInt8} (ha : a.any wldB = false) (hc : wldB c = true) : mtcS (a ++ c :: z) s = (btwS a z s).bind (fitS c) := by
  unfold mtcS; rw [(bhd_at ha hc).2.1, (bhd_at ha hc).1]
/-- what fits is the pattern with its stem in the place of its wild sign -/
theorem mtc_back {a z s t : List UInt8} {c : UInt8} (ha : a.any wldB = false) (hc : wldB c = true) (h : mtcS (a ++ c :: z) s = some t) : s = a ++ t ++ z := by
  rw [mtc_at ha hc, Option.bind_eq_some_iff] at h
  obtain ⟨u, h1, h2⟩ := h
  unfold fitS at h2
  split at h2
  · cases h2
  · cases h2; exact btw_some.1 h1
theorem mtc_fits {a z t : List UInt8} {c : UInt8} (ha : a.any wldB = false) (hc : wldB c = true) : mtcS (a ++ c :: z) (a ++ t ++ z) = fitS c t := by
  rw [mtc_at ha hc, btw_some.2 rfl]; rfl
/-- strings.IndexAny with the two signs -/
theorem ixany_wld (l : List UInt8) : Lib.indexAny l [37, 38] = wldN l := by
  have hw : ∀ b : UInt8, ([37, 38] : List UInt8).contains b = wldB b := fun b => by unfold wldB; rw [Bool.eq_iff_iff]; simp
  rcases wld_cases l with h | ⟨a, c, z, rfl, ha, hc⟩
  · rw [wldN_none h, Lib.indexAny_none]
    intro j b _ hb
    rw [hw]
    have := List.any_eq_false.1 h b (List.mem_of_getElem? hb)
    simpa using this
  · rw [wldN_at ha hc, Lib.indexAny_hit (x := c) (i := a.length)]
    · intro j b hj hb
      rw [List.getElem?_append_left hj] at hb
      rw [hw]
      have := List.any_eq_false.1 ha b (List.mem_of_getElem? hb)
      simpa using this
    · rw [List.getElem?_append_right (Nat.le_refl _), Nat.sub_self]; rfl
    · rw [hw]; exact hc
theorem cany_nrw (l : List UInt8) : decide (0 ≤ Lib.indexAny l [46, 47]) = !nrwS l := by
  have hw : ∀ b : UInt8, ([46, 47] : List UInt8).contains b = !nrwB b := fun b => by unfold nrwB; rw [Bool.eq_iff_iff]; simp
  have key : ∀ m : List UInt8, (∃ a c z, m = a ++ c :: z ∧ a.all nrwB = true ∧ nrwB c = false) ∨ m.all nrwB = true := by
    intro m
    induction m with
    | nil => exact .inr rfl
    | cons b m ih =>
      cases hb : nrwB b with
      | false => exact .inl ⟨[], b, m, rfl, rfl, hb⟩
      | true =>
        rcases ih with ⟨a, c, z, rfl, ha, hc⟩ | h
        · exact .inl ⟨b :: a, c, z, rfl, by rw [List.all_cons, hb, ha]; rfl, hc⟩
        · exact .inr (by rw [List.all_cons, hb, h]; rfl)
  rcases key l with ⟨a, c, z, rfl, ha, hc⟩ | h
  · have e : nrwS (a ++ c :: z) = false := by unfold nrwS; rw [List.all_append, List.all_cons, hc, Bool.false_and, Bool.and_false]
    rw [e, Lib.indexAny_hit (x := c) (i := a.length)]
    · simp
    · intro j b hj hb
      rw [List.getElem?_append_left hj] at hb
      rw [hw, List.all_eq_true.1 ha b (List.mem_of_getElem? hb)]; rfl
    · rw [List.getElem?_append_right (Nat.le_refl _), Nat.sub_self]; rfl
    · rw [hw, hc]; rfl
  · have e : nrwS l = true := h
    rw [e, Lib.indexAny_none]
    · rfl
    intro j b _ hb
    rw [hw, List.all_eq_true.1 h b (List.mem_of_getElem? hb)]; rfl

/-- from place j on: where the first sign stands -/
def wldA (l : List UInt8) (j : Nat) : Int := if (l.drop j).any wldB then ((j + (ahdS (l.drop j)).length : Nat) : Int) else -1
theorem wldA_zero (l : List UInt8) : wldA l 0 = wldN l := by unfold wldA wldN; rw [List.drop_zero, Nat.zero_add]
theorem wldA_end {l : List UInt8} {j : Nat} (h : l.length ≤ j) : wldA l j = -1 := by unfold wldA; rw [List.drop_of_length_le h]; rfl
theorem drop_st {l : List UInt8} {k : Nat} {b : UInt8} (h : l[k]? = some b) : l.drop k = b :: l.drop (k + 1) := by
  obtain ⟨hk, rfl⟩ := List.getElem?_eq_some_iff.1 h
  exact List.drop_eq_getElem_cons hk
theorem wldA_hit {l : List UInt8} {j : Nat} {b : UInt8} (h : l[j]? = some b) (hb : wldB b = true) : wldA l j = j := by
  unfold wldA ahdS
  rw [drop_st h, List.any_cons, hb, Bool.true_or, if_pos rfl, List.takeWhile_cons_of_neg (by rw [hb]; simp)]; rfl
theorem wldA_miss {l : List UInt8} {j : Nat} {b : UInt8} (h : l[j]? = some b) (hb : wldB b = false) : wldA l j = wldA l (j + 1) := by
  unfold wldA ahdS
  rw [drop_st h, List.any_cons, hb, Bool.false_or, List.takeWhile_cons_of_pos (by rw [hb]; rfl), List.length_cons]
  have e : ((j + ((List.takeWhile (fun b => !wldB b) (l.drop (j + 1))).length + 1) : Nat) : Int) = ((j + 1 + (List.takeWhile (fun b => !wldB b) (l.drop (j + 1))).length : Nat) : Int) := by omega
  rw [e]
/-- the document's way: long enough, begins so, ends so -/
theorem btw_doc {a z s : List UInt8} (h1 : a.length + z.length ≤ s.length) (h2 : s.take a.length = a) (h3 : s.drop (s.length - z.length) = z) : btwS a z s = some ((s.take (s.length - z.length)).drop a.length) := by
  rw [btw_some]
  have e1 : s.take (s.length - z.length) ++ z = s := by
    have := List.take_append_drop (s.length - z.length) s
    rwa [h3] at this
  have e2 : a ++ (s.take (s.length - z.length)).drop a.length = s.take (s.length - z.length) := by
    have := List.take_append_drop a.length (s.take (s.length - z.length))
    rwa [List.take_take, Nat.min_eq_left (by omega), h2] at this
  rw [e2, e1]
theorem btw_not {a z s : List UInt8} (h : s.length < a.length + z.length ∨ s.take a.length ≠ a ∨ s.drop (s.length - z.length) ≠ z) : btwS a z s = none := by
  rw [btw_none]
  rintro t rfl
  rcases h with h | h | h
  · simp at h; omega
  · apply h; rw [List.append_assoc, List.take_left]
  · apply h
    have e : (a ++ t ++ z).length - z.length = (a ++ t).length := by rw [List.length_append (bs := z), Nat.add_sub_cancel]
    rw [e, List.drop_left]
/-- the program's way: without its beginning, then without its end -/
theorem btw_cut (a z s : List UInt8) : btwS a z s = if Lib.hasPrefix s a = true then (if Lib.hasSuffix (Lib.trimPrefix s a) z = true then some (Lib.trimSuffix (Lib.trimPrefix s a) z) else none) else none := by
  unfold btwS Lib.trimSuffix Lib.trimPrefix Lib.hasSuffix Lib.hasPrefix
  by_cases h1 : a.isPrefixOf s = true
  · rw [if_pos h1, if_pos h1, h1, Bool.true_and]
    by_cases h2 : z.isSuffixOf (s.drop a.length) = true
    · rw [if_pos h2, if_pos h2, if_pos h2]
    · rw [if_neg h2, if_neg h2]
  · rw [if_neg h1]
    have h1 : a.isPrefixOf s = false := Bool.eq_false_iff.2 h1
    rw [h1]; rfl
theorem nrw_hit {l : List UInt8} {j : Nat} {b : UInt8} (h : l[j]? = some b) (hb : nrwB b = false) : nrwS l = false := by
  unfold nrwS; rw [List.all_eq_false]; exact ⟨b, List.mem_of_getElem? h, by rw [hb]; simp⟩
theorem nrw_take {l : List UInt8} {j : Nat} {b : UInt8} (h : l[j]? = some b) : nrwS (l.take (j + 1)) = (nrwS (l.take j) && nrwB b) := by
  unfold nrwS; rw [List.take_add_one, h, List.all_append]; simp
end Go.Proofs.YtcmfmfkpmgoieaaGreatDoor

namespace Go.Proofs.YtcmfmfkpmgoieaaGreatDoor

/-- a word that is put -/
def putS (fr tu w : List UInt8) : List UInt8 := match mtcS fr w with | some t => filS tu t | none => w
def putB (fr tu : List UInt8) (x : ByteArray) : ByteArray := ⟨(putS fr tu x.data.toList).toArray⟩
def putT (fr tu : List UInt8) (l : List ByteArray) : List ByteArray := l.map (putB fr tu)
/-- is a word too long once it is put? -/
def ovrB (fr tu : List UInt8) (x : ByteArray) : Bool := decide (120 < (putS fr tu x.data.toList).length)
/-- does a word fit? -/
def fitB (p : List UInt8) (x : ByteArray) : Bool := (mtcS p x.data.toList).isSome
/-- those that fit, or those that don't -/
def thoT (p : List UInt8) (k : Bool) (l : List ByteArray) : List ByteArray := l.filter fun x => fitB p x == k
/-- how many signs a pattern has -/
def cntS (l : List UInt8) : Nat := l.countP wldB

theorem putB_st (fr tu : List UInt8) (x : ByteArray) : (putB fr tu x).data.toList = putS fr tu x.data.toList := by unfold putB; simp
theorem putT_take {fr tu : List UInt8} {l : List ByteArray} {j : Nat} {x : ByteArray} (h : l[j]? = some x) : putT fr tu (l.take (j + 1)) = putT fr tu (l.take j) ++ [putB fr tu x] := by
  unfold putT; rw [List.take_add_one, h, List.map_append]; rfl
theorem ovr_take {fr tu : List UInt8} {l : List ByteArray} {j : Nat} {x : ByteArray} (h : l[j]? = some x) : (l.take (j + 1)).any (ovrB fr tu) = ((l.take j).any (ovrB fr tu) || ovrB fr tu x) := by
  rw [List.take_add_one, h, List.any_append]; simp
theorem ovr_hit {fr tu : List UInt8} {l : List ByteArray} {j : Nat} {x : ByteArray} (h : l[j]? = some x) (hx : ovrB fr tu x = true) : l.any (ovrB fr tu) = true :=
  List.any_eq_true.2 ⟨x, List.mem_of_getElem? h, hx⟩
theorem tho_take {p : List UInt8} {k : Bool} {l : List ByteArray} {j : Nat} {x : ByteArray} (h : l[j]? = some x) : thoT p k (l.take (j + 1)) = thoT p k (l.take j) ++ (if fitB p x == k then [x] else []) := by
  unfold thoT; rw [List.take_add_one, h, List.filter_append]
  congr 1
  show List.filter _ [x] = _
  rw [List.filter_cons]; rfl
theorem tho_yes {p : List UInt8} {k : Bool} {l : List ByteArray} {j : Nat} {x : ByteArray} (h : l[j]? = some x) (hx : fitB p x = k) : thoT p k (l.take (j + 1)) = thoT p k (l.take j) ++ [x] := by
  rw [tho_take h, hx, beq_self_eq_true, if_pos rfl]
theorem tho_no {p : List UInt8} {k : Bool} {l : List ByteArray} {j : Nat} {x : ByteArray} (h : l[j]? = some x) (hx : fitB p x = !k) : thoT p k (l.take (j + 1)) = thoT p k (l.take j) := by
  rw [tho_take h, hx]; cases k <;> simp
theorem tho_len (p : List UInt8) (k : Bool) (l : List ByteArray) (j : Nat) : (thoT p k (l.take j)).length ≤ j := by
  unfold thoT
  have h1 := List.length_filter_le (fun x => fitB p x == k) (l.take j)
  rw [List.length_take] at h1
  omega
/-- where the next of those stands in their row -/
theorem tho_at {p : List UInt8} {k : Bool} {l : List ByteArray} {j : Nat} {x : ByteArray} (h : l[j]? = some x) (hx : fitB p x = k) : (thoT p k l)[(thoT p k (l.take j)).length]? = some x := by
  have e : l = l.take (j + 1) ++ l.drop (j + 1) := (List.take_append_drop _ _).symm
  have e2 : thoT p k l = thoT p k (l.take j) ++ ([x] ++ thoT p k (l.drop (j + 1))) := by
    conv => lhs; rw [e]
    unfold thoT
    rw [List.filter_append]
    have := tho_yes h hx
    unfold thoT at this
    rw [this, List.append_assoc]
  rw [e2, List.getElem?_append_right (Nat.le_refl _), Nat.sub_self]
  rfl
theorem cntS_none {l : List UInt8} : cntS l = 0 ↔ l.any wldB = false := by
  unfold cntS
  rw [List.countP_eq_zero, ← Bool.not_eq_true, List.any_eq_true]
  constructor
  · rintro h ⟨b, hb, hw⟩; exact h b hb hw
  · intro h b hb hw; exact h ⟨b, hb, hw⟩
theorem cntS_at {a z : List UInt8} {c : UInt8} (ha : a.any wldB = false) (hc : wldB c = true) : cntS (a ++ c :: z) = 1 + cntS z := by
  have := cntS_none.2 ha
  unfold cntS at this ⊢
  rw [List.countP_append, this, List.countP_cons_of_pos hc]; omega
theorem cntS_take {l : List UInt8} {j : Nat} {b : UInt8} (h : l[j]? = some b) : cntS (l.take (j + 1)) = cntS (l.take j) + (if wldB b then 1 else 0) := by
  unfold cntS
  rw [List.take_add_one, h, List.countP_append]
  show _ + List.countP wldB [b] = _
  rw [List.countP_singleton]
theorem cntS_le (l : List UInt8) : cntS l ≤ l.length := List.countP_le_length
/-- how long a filled pattern is -/
theorem fil_size : ∀ l s : List UInt8, (filS l s).length + cntS l = l.length + cntS l * s.length
  | [], _ => by simp [filS, cntS]
  | b :: l, s => by
    have h := fil_size l s
    unfold filS cntS at h ⊢
    rw [List.flatMap_cons, List.length_append, List.countP_cons, List.length_cons]
    split
    · rw [Nat.add_mul]; omega
    · rw [List.length_singleton, Nat.add_zero]; omega
theorem fil_bare (l s : List UInt8) : (filS l []).length + (l.length - (filS l []).length) * s.length = (filS l s).length ∧ (filS l []).length ≤ l.length := by
  have h1 := fil_size l []
  have h2 := fil_size l s
  have h3 := cntS_le l
  rw [List.length_nil, Nat.mul_zero, Nat.add_zero] at h1
  rw [show l.length - (filS l []).length = cntS l by omega]
  omega
theorem mtc_len {p s t : List UInt8} (h : mtcS p s = some t) : p.length ≤ s.length + 1 ∧ t.length ≤ s.length := by
  rcases wld_cases p with hp | ⟨a, c, z, rfl, ha, hc⟩
  · rw [mtc_none hp] at h
    split at h
    · rename_i e; cases h; subst e; simp
    · cases h
  · have := mtc_back ha hc h
    subst this
    simp only [List.length_append, List.length_cons]
    omega
theorem mtc_short {p s : List UInt8} (h : s.length + 1 < p.length) : mtcS p s = none := by
  cases e : mtcS p s with
  | none => rfl
  | some t => have := (mtc_len e).1; omega
theorem put_some {fr tu w t : List UInt8} (h : mtcS fr w = some t) : putS fr tu w = filS tu t := by unfold putS; rw [h]
theorem put_none {fr tu w : List UInt8} (h : mtcS fr w = none) : putS fr tu w = w := by unfold putS; rw [h]
/-- promise 16.2: patterns that are the same and have at most one sign leave each word as it is -/
theorem put_same {p w : List UInt8} (h : cntS p ≤ 1) : putS p p w = w := by
  cases e : mtcS p w with
  | none => exact put_none e
  | some t =>
    rw [put_some e]
    rcases wld_cases p with hp | ⟨a, c, z, rfl, ha, hc⟩
    · rw [mtc_none hp] at e
      split at e
      · rename_i e2; rw [fil_none hp, e2]
      · cases e
    · rw [cntS_at ha hc] at h
      have hz := cntS_none.1 (show cntS z = 0 by omega)
      rw [fil_at ha hc, fil_none hz, ← mtc_back ha hc e]
end Go.Proofs.YtcmfmfkpmgoieaaGreatDoor

/- Words that are put, plainly: a word, a list of them, what fits a pattern and what doesn't, how many signs a pattern has. -/
import Derived.Test.YtiegbfbidecblaaDoorStPlain
namespace Go.Proofs.YtiegbfbidecblaaDoor

/-- a word that is put -/
def putS (fr tu w : List UInt8) : List UInt8 := match mtcS fr w with | some t => filS tu t | none => w
def putB (fr tu : List UInt8) (x : ByteArray) : ByteArray := ⟨(putS fr tu x.data.toList).toArray⟩
def putT (fr tu : List UInt8) (l : List ByteArray) : List ByteArray := l.map (putB fr tu)
/-- is a word too long once it is put? -/
def ovrB (fr tu : List UInt8) (x : ByteArray) : Bool := decide (120 < (putS fr tu x.data.toList).length)
/-- does a word fit? -/
def fitB (p : List UInt8) (x : ByteArray) : Bool := (mtcS p x.data.toList).isSome
/-- those that fit, or those that don't -/
def thoT (p : List UInt8) (k : Bool) (l : List ByteArray) : List ByteArray := l.filter fun x => fitB p x == k
/-- how many signs a pattern has -/
def cntS (l : List UInt8) : Nat := l.countP wldB

theorem putB_st (fr tu : List UInt8) (x : ByteArray) : (putB fr tu x).data.toList = putS fr tu x.data.toList := by unfold putB; simp
theorem putT_take {fr tu : List UInt8} {l : List ByteArray} {j : Nat} {x : ByteArray} (h : l[j]? = some x) : putT fr tu (l.take (j + 1)) = putT fr tu (l.take j) ++ [putB fr tu x] := by
  unfold putT; rw [List.take_add_one, h, List.map_append]; rfl
theorem ovr_take {fr tu : List UInt8} {l : List ByteArray} {j : Nat} {x : ByteArray} (h : l[j]? = some x) : (l.take (j + 1)).any (ovrB fr tu) = ((l.take j).any (ovrB fr tu) || ovrB fr tu x) := by
  rw [List.take_add_one, h, List.any_append]; simp
theorem ovr_hit {fr tu : List UInt8} {l : List ByteArray} {j : Nat} {x : ByteArray} (h : l[j]? = some x) (hx : ovrB fr tu x = true) : l.any (ovrB fr tu) = true :=
  List.any_eq_true.2 ⟨x, List.mem_of_getElem? h, hx⟩
theorem tho_take {p : List UInt8} {k : Bool} {l : List ByteArray} {j : Nat} {x : ByteArray} (h : l[j]? = some x) : thoT p k (l.take (j + 1)) = thoT p k (l.take j) ++ (if fitB p x == k then [x] else []) := by
  unfold thoT; rw [List.take_add_one, h, List.filter_append]
  congr 1
  show List.filter _ [x] = _
  rw [List.filter_cons]; rfl
theorem tho_yes {p : List UInt8} {k : Bool} {l : List ByteArray} {j : Nat} {x : ByteArray} (h : l[j]? = some x) (hx : fitB p x = k) : thoT p k (l.take (j + 1)) = thoT p k (l.take j) ++ [x] := by
  rw [tho_take h, hx, beq_self_eq_true, if_pos rfl]
theorem tho_no {p : List UInt8} {k : Bool} {l : List ByteArray} {j : Nat} {x : ByteArray} (h : l[j]? = some x) (hx : fitB p x = !k) : thoT p k (l.take (j + 1)) = thoT p k (l.take j) := by
  rw [tho_take h, hx]; cases k <;> simp
theorem tho_len (p : List UInt8) (k : Bool) (l : List ByteArray) (j : Nat) : (thoT p k (l.take j)).length ≤ j := by
  unfold thoT
  have h1 := List.length_filter_le (fun x => fitB p x == k) (l.take j)
  rw [List.length_take] at h1
  omega
/-- where the next of those stands in their row -/
theorem tho_at {p : List UInt8} {k : Bool} {l : List ByteArray} {j : Nat} {x : ByteArray} (h : l[j]? = some x) (hx : fitB p x = k) : (thoT p k l)[(thoT p k (l.take j)).length]? = some x := by
  have e : l = l.take (j + 1) ++ l.drop (j + 1) := (List.take_append_drop _ _).symm
  have e2 : thoT p k l = thoT p k (l.take j) ++ ([x] ++ thoT p k (l.drop (j + 1))) := by
    conv => lhs; rw [e]
    unfold thoT
    rw [List.filter_append]
    have := tho_yes h hx
    unfold thoT at this
    rw [this, List.append_assoc]
  rw [e2, List.getElem?_append_right (Nat.le_refl _), Nat.sub_self]
  rfl
theorem cntS_none {l : List UInt8} : cntS l = 0 ↔ l.any wldB = false := by
  unfold cntS
  rw [List.countP_eq_zero, ← Bool.not_eq_true, List.any_eq_true]
  constructor
  · rintro h ⟨b, hb, hw⟩; exact h b hb hw
  · intro h b hb hw; exact h ⟨b, hb, hw⟩
theorem cntS_at {a z : List UInt8} {c : UInt8} (ha : a.any wldB = false) (hc : wldB c = true) : cntS (a ++ c :: z) = 1 + cntS z := by
  have := cntS_none.2 ha
  unfold cntS at this ⊢
  rw [List.countP_append, this, List.countP_cons_of_pos hc]; omega
theorem cntS_take {l : List UInt8} {j : Nat} {b : UInt8} (h : l[j]? = some b) : cntS (l.take (j + 1)) = cntS (l.take j) + (if wldB b then 1 else 0) := by
  unfold cntS
  rw [List.take_add_one, h, List.countP_append]
  show _ + List.countP wldB [b] = _
  rw [List.countP_singleton]
theorem cntS_le (l : List UInt8) : cntS l ≤ l.length := List.countP_le_length
/-- how long a filled pattern is -/
theorem fil_size : ∀ l s : List UInt8, (filS l s).length + cntS l = l.length + cntS l * s.length
  | [], _ => by simp [filS, cntS]
  | b :: l, s => by
    have h := fil_size l s
    unfold filS cntS at h ⊢
    rw [List.flatMap_cons, List.length_append, List.countP_cons, List.length_cons]
    split
    · rw [Nat.add_mul]; omega
    · rw [List.length_singleton, Nat.add_zero]; omega
theorem fil_bare (l s : List UInt8) : (filS l []).length + (l.length - (filS l []).length) * s.length = (filS l s).length ∧ (filS l []).length ≤ l.length := by
  have h1 := fil_size l []
  have h2 := fil_size l s
  have h3 := cntS_le l
  rw [List.length_nil, Nat.mul_zero, Nat.add_zero] at h1
  rw [show l.length - (filS l []).length = cntS l by omega]
  omega
theorem mtc_len {p s t : List UInt8} (h : mtcS p s = some t) : p.length ≤ s.length + 1 ∧ t.length ≤ s.length := by
  rcases wld_cases p with hp | ⟨a, c, z, rfl, ha, hc⟩
  · rw [mtc_none hp] at h
    split at h
    · rename_i e; cases h; subst e; simp
    · cases h
  · have := mtc_back ha hc h
    subst this
    simp only [List.length_append, List.length_cons]
    omega
theorem mtc_short {p s : List UInt8} (h : s.length + 1 < p.length) : mtcS p s = none := by
  cases e : mtcS p s with
  | none => rfl
  | some t => have := (mtc_len e).1; omega
theorem put_some {fr tu w t : List UInt8} (h : mtcS fr w = some t) : putS fr tu w = filS tu t := by unfold putS; rw [h]
theorem put_none {fr tu w : List UInt8} (h : mtcS fr w = none) : putS fr tu w = w := by unfold putS; rw [h]
/-- promise 16.2: patterns that are the same and have at most one sign leave each word as it is -/
theorem put_same {p w : List UInt8} (h : cntS p ≤ 1) : putS p p w = w := by
  cases e : mtcS p w with
  | none => exact put_none e
  | some t =>
    rw [put_some e]
    rcases wld_cases p with hp | ⟨a, c, z, rfl, ha, hc⟩
    · rw [mtc_none hp] at e
      split at e
      · rename_i e2; rw [fil_none hp, e2]
      · cases e
    · rw [cntS_at ha hc] at h
      have hz := cntS_none.1 (show cntS z = 0 by omega)
      rw [fil_at ha hc, fil_none hz, ← mtc_back ha hc e]
end Go.Proofs.YtiegbfbidecblaaDoor

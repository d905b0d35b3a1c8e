/- What nodes span, plainly: places between, the kids' spans from each to the next; bounds; Kleene's rules; the bytes with which a span may begin. -/
import Derived.Test.YtlkjejmmoalliaaGreatDoorPkPlain
import Derived.Test.YtlkjejmmoalliaaGreatDoorClsPlainB
namespace Go.Proofs.YtlkjejmmoalliaaGreatDoor

/-- any number of steps -/
inductive RT (R : Nat → Nat → Prop) : Nat → Nat → Prop
  | nil (i) : RT R i i
  | cons {i k j} (h : R i k) (t : RT R k j) : RT R i j
theorem RT.one {R : Nat → Nat → Prop} {i j : Nat} (h : R i j) : RT R i j := .cons h (.nil _)
theorem RT.trans {R : Nat → Nat → Prop} {i k j : Nat} (h : RT R i k) (t : RT R k j) : RT R i j := by
  induction h with
  | nil => exact t
  | cons h _ ih => exact .cons h (ih t)
theorem RT.mono {R S : Nat → Nat → Prop} (hRS : ∀ i j, R i j → S i j) {i j : Nat} (h : RT R i j) : RT S i j := by
  induction h with
  | nil => exact .nil _
  | cons h _ ih => exact .cons (hRS _ _ h) ih
theorem RT.bind {R S : Nat → Nat → Prop} (hRS : ∀ i j, R i j → RT S i j) {i j : Nat} (h : RT R i j) : RT S i j := by
  induction h with
  | nil => exact .nil _
  | cons h _ ih => exact (hRS _ _ h).trans ih
theorem RT.same {R S : Nat → Nat → Prop} (hRS : ∀ i j, R i j ↔ S i j) (i j : Nat) : RT R i j ↔ RT S i j := ⟨RT.mono fun i j => (hRS i j).1, RT.mono fun i j => (hRS i j).2⟩
/-- from the other end -/
theorem RT.snoc {R : Nat → Nat → Prop} {i j : Nat} (h : RT R i j) : i = j ∨ ∃ k, RT R i k ∧ R k j := by
  induction h with
  | nil => exact .inl rfl
  | @cons i k j h t ih =>
    rcases ih with rfl | ⟨m, h1, h2⟩
    · exact .inr ⟨i, .nil _, h⟩
    · exact .inr ⟨m, .cons h h1, h2⟩
/-- steps that stay or go on, within a bound -/
def Goes (m : Nat) (R : Nat → Nat → Prop) : Prop := ∀ i j, i ≤ m → R i j → i ≤ j ∧ j ≤ m
theorem RT.goes {m : Nat} {R : Nat → Nat → Prop} (hR : Goes m R) : Goes m (RT R) := by
  intro i j hi h
  induction h with
  | nil => exact ⟨Nat.le_refl _, hi⟩
  | cons h _ ih => have h1 := hR _ _ hi h; have h2 := ih h1.2; omega
/-- some steps, each by a place at least -/
inductive Mny (R : Nat → Nat → Prop) : Nat → Nat → Prop
  | one {i j} (hi : i < j) (h : R i j) : Mny R i j
  | cons {i k j} (hi : i < k) (h : R i k) (t : Mny R k j) : Mny R i j
theorem Mny.lt {R : Nat → Nat → Prop} {i j : Nat} (h : Mny R i j) : i < j := by
  induction h with
  | one hi _ => exact hi
  | cons hi _ _ ih => omega
theorem Mny.rt {R : Nat → Nat → Prop} {i j : Nat} (h : Mny R i j) : RT R i j := by
  induction h with
  | one _ h => exact .one h
  | cons _ h _ ih => exact .cons h ih
theorem RT.mny {m : Nat} {R : Nat → Nat → Prop} (hR : Goes m R) {i j : Nat} (hi : i ≤ m) (h : RT R i j) : i = j ∨ Mny R i j := by
  induction h with
  | nil => exact .inl rfl
  | @cons i k j h t ih =>
    have h1 := hR _ _ hi h
    rcases Nat.lt_or_eq_of_le h1.1 with hk | hk
    · rcases ih h1.2 with rfl | ht
      · exact .inr (.one hk h)
      · exact .inr (.cons hk h ht)
    · subst hk; exact ih hi
theorem rt_mny {m : Nat} {R : Nat → Nat → Prop} (hR : Goes m R) {i j : Nat} (hi : i ≤ m) : RT R i j ↔ i = j ∨ Mny R i j :=
  ⟨RT.mny hR hi, fun h => h.elim (fun e => e ▸ RT.nil _) Mny.rt⟩
/-- as the document looks for it -/
theorem mny_eq {R : Nat → Nat → Prop} (i j : Nat) : Mny R i j ↔ ∃ k, i < k ∧ k ≤ j ∧ R i k ∧ (k = j ∨ Mny R k j) := by
  constructor
  · intro h
    cases h with
    | one hi h => exact ⟨j, hi, Nat.le_refl _, h, .inl rfl⟩
    | @cons _ k _ hi h t => exact ⟨k, hi, Nat.le_of_lt t.lt, h, .inr t⟩
  · rintro ⟨k, hi, _, h, rfl | t⟩
    · exact .one hi h
    · exact .cons hi h t

mutual
/-- a node spans a text from a place to another one -/
def SpN (s : ByteArray) : Ni → Nat → Nat → Prop
  | .mk k _ c l, i, j =>
    if k = 0 then i = j
    else if k = 1 then j = i + 1 ∧ byt9 s i c = true
    else if k = 2 then SpR s l i j
    else if k = 3 then SpA s l i j
    else if k = 4 then RT (fun a b => SpA s l a b) i j
    else if k = 5 then ∃ m, SpA s l i m ∧ RT (fun a b => SpA s l a b) m j
    else if k = 6 then i = j ∨ SpA s l i j
    else if k = 7 then SpA s l i j
    else if k = 8 then i = j ∧ i = 0
    else i = j ∧ i = s.size
/-- kids, one behind the other -/
def SpR (s : ByteArray) : List Ni → Nat → Nat → Prop
  | [], i, j => i = j
  | n :: l, i, j => ∃ m, SpN s n i m ∧ SpR s l m j
/-- one of the kids -/
def SpA (s : ByteArray) : List Ni → Nat → Nat → Prop
  | [], _, _ => False
  | n :: l, i, j => SpN s n i j ∨ SpA s l i j
end
theorem sp_eq (s : ByteArray) (n : Ni) (i j : Nat) : SpN s n i j ↔
    if n.kind = 0 then i = j
    else if n.kind = 1 then j = i + 1 ∧ byt9 s i n.set = true
    else if n.kind = 2 then SpR s n.kids i j
    else if n.kind = 3 then SpA s n.kids i j
    else if n.kind = 4 then RT (SpA s n.kids) i j
    else if n.kind = 5 then ∃ m, SpA s n.kids i m ∧ RT (SpA s n.kids) m j
    else if n.kind = 6 then i = j ∨ SpA s n.kids i j
    else if n.kind = 7 then SpA s n.kids i j
    else if n.kind = 8 then i = j ∧ i = 0
    else i = j ∧ i = s.size := by cases n; rw [SpN]; exact Iff.rfl
theorem spA_one (s : ByteArray) (n : Ni) (i j : Nat) : SpA s [n] i j ↔ SpN s n i j := by rw [SpA, SpA]; simp
theorem spA_mem (s : ByteArray) : ∀ (l : List Ni) (i j : Nat), SpA s l i j ↔ ∃ n ∈ l, SpN s n i j
  | [], i, j => by rw [SpA]; simp
  | n :: l, i, j => by rw [SpA, spA_mem s l]; simp
theorem spR_one (s : ByteArray) (n : Ni) (i j : Nat) : SpR s [n] i j ↔ SpN s n i j := by
  rw [SpR]; simp only [SpR]; exact ⟨fun ⟨m, h, e⟩ => e ▸ h, fun h => ⟨j, h, rfl⟩⟩
theorem spR_append (s : ByteArray) : ∀ (l r : List Ni) (i j : Nat), SpR s (l ++ r) i j ↔ ∃ m, SpR s l i m ∧ SpR s r m j
  | [], r, i, j => by simp [SpR]
  | n :: l, r, i, j => by
    rw [List.cons_append, SpR]; simp only [SpR, spR_append s l r]
    exact ⟨fun ⟨m, h, k, h1, h2⟩ => ⟨k, ⟨m, h, h1⟩, h2⟩, fun ⟨k, ⟨m, h, h1⟩, h2⟩ => ⟨m, h, k, h1, h2⟩⟩
mutual
theorem sp_goes (s : ByteArray) : ∀ n : Ni, Goes s.size (SpN s n)
  | .mk k x c l => by
    have hR := spR_goes s l
    have hA := spA_goes s l
    intro i j hi h
    rw [SpN] at h
    split at h
    · omega
    split at h
    · obtain ⟨rfl, h⟩ := h
      unfold byt9 at h
      split at h
      · omega
      · cases h
    split at h
    · exact hR i j hi h
    split at h
    · exact hA i j hi h
    split at h
    · exact RT.goes hA i j hi h
    split at h
    · obtain ⟨m, h1, h2⟩ := h
      have a1 := hA i m hi h1; have a2 := RT.goes hA m j a1.2 h2; omega
    split at h
    · rcases h with rfl | h
      · omega
      · exact hA i j hi h
    split at h
    · exact hA i j hi h
    split at h <;> omega
theorem spR_goes (s : ByteArray) : ∀ l : List Ni, Goes s.size (SpR s l)
  | [] => by intro i j hi h; rw [SpR] at h; omega
  | n :: l => by
    intro i j hi h
    rw [SpR] at h
    obtain ⟨m, h1, h2⟩ := h
    have a1 := sp_goes s n i m hi h1; have a2 := spR_goes s l m j a1.2 h2; omega
theorem spA_goes (s : ByteArray) : ∀ l : List Ni, Goes s.size (SpA s l)
  | [] => by intro i j hi h; rw [SpA] at h; exact h.elim
  | n :: l => by
    intro i j hi h
    rw [SpA] at h
    rcases h with h | h
    · exact sp_goes s n i j hi h
    · exact spA_goes s l i j hi h
end

/-! Kleene's rules -/
abbrev starI (n : Ni) : Ni := .mk 4 0 emp [n]
abbrev catI (l : List Ni) : Ni := .mk 2 0 emp l
abbrev altI (l : List Ni) : Ni := .mk 3 0 emp l
abbrev plusI (n : Ni) : Ni := .mk 5 0 emp [n]
abbrev maybeI (n : Ni) : Ni := .mk 6 0 emp [n]
abbrev noneI : Ni := .mk 0 0 emp []
theorem spA_one' (s : ByteArray) (n : Ni) : SpA s [n] = SpN s n := funext fun i => funext fun j => propext (spA_one s n i j)
theorem sp_star (s : ByteArray) (n : Ni) (i j : Nat) : SpN s (starI n) i j ↔ RT (SpN s n) i j := by rw [sp_eq]; simp only [starI, Ni.kind, Ni.kids, spA_one']; simp
theorem sp_plus (s : ByteArray) (n : Ni) (i j : Nat) : SpN s (plusI n) i j ↔ ∃ m, SpN s n i m ∧ RT (SpN s n) m j := by rw [sp_eq]; simp only [plusI, Ni.kind, Ni.kids, spA_one']; simp
theorem sp_maybe (s : ByteArray) (n : Ni) (i j : Nat) : SpN s (maybeI n) i j ↔ i = j ∨ SpN s n i j := by rw [sp_eq]; simp only [maybeI, Ni.kind, Ni.kids, spA_one']; simp
theorem sp_none (s : ByteArray) (i j : Nat) : SpN s noneI i j ↔ i = j := by rw [sp_eq]; simp [Ni.kind]
theorem sp_cat2 (s : ByteArray) (a b : Ni) (i j : Nat) : SpN s (catI [a, b]) i j ↔ ∃ m, SpN s a i m ∧ SpN s b m j := by
  rw [sp_eq]; simp only [catI, Ni.kind, Ni.kids, SpR]
  simp only [show ((2 : Int) = 0) = False from by simp, show ((2 : Int) = 1) = False from by simp, if_false, if_true]
  exact ⟨fun ⟨m, h, k, h1, e⟩ => ⟨m, h, e ▸ h1⟩, fun ⟨m, h, h1⟩ => ⟨m, h, j, h1, rfl⟩⟩
theorem sp_alt2 (s : ByteArray) (a b : Ni) (i j : Nat) : SpN s (altI [a, b]) i j ↔ SpN s a i j ∨ SpN s b i j := by
  rw [sp_eq]; simp only [altI, Ni.kind, Ni.kids, SpA]; simp
/-- two nodes span the same -/
def SameI (s : ByteArray) (a b : Ni) : Prop := ∀ i j, SpN s a i j ↔ SpN s b i j
theorem kle1 (s : ByteArray) (a b : Ni) : SameI s (starI (altI [a, b])) (starI (catI [starI a, starI b])) := by
  intro i j
  rw [sp_star, sp_star]
  constructor
  · refine RT.mono fun i j h => ?_
    rw [sp_alt2] at h
    rw [sp_cat2]
    rcases h with h | h
    · exact ⟨j, (sp_star ..).2 (.one h), (sp_star ..).2 (.nil _)⟩
    · exact ⟨i, (sp_star ..).2 (.nil _), (sp_star ..).2 (.one h)⟩
  · refine RT.bind fun i j h => ?_
    rw [sp_cat2] at h
    obtain ⟨m, h1, h2⟩ := h
    rw [sp_star] at h1 h2
    exact (h1.mono fun _ _ h => (sp_alt2 ..).2 (.inl h)).trans (h2.mono fun _ _ h => (sp_alt2 ..).2 (.inr h))
theorem kle2 (s : ByteArray) (a : Ni) : SameI s (starI a) (altI [noneI, catI [a, starI a]]) := by
  intro i j
  rw [sp_star, sp_alt2, sp_none, sp_cat2]
  constructor
  · intro h
    cases h with
    | nil => exact .inl rfl
    | cons h t => exact .inr ⟨_, h, (sp_star ..).2 t⟩
  · rintro (rfl | ⟨m, h, t⟩)
    · exact .nil _
    · exact .cons h ((sp_star ..).1 t)
theorem kle3 (s : ByteArray) (a : Ni) : SameI s (plusI a) (catI [a, starI a]) := by
  intro i j
  rw [sp_plus, sp_cat2]
  exact ⟨fun ⟨m, h, t⟩ => ⟨m, h, (sp_star ..).2 t⟩, fun ⟨m, h, t⟩ => ⟨m, h, (sp_star ..).1 t⟩⟩
theorem kle4 (s : ByteArray) (a : Ni) : SameI s (maybeI a) (altI [noneI, a]) := by
  intro i j
  rw [sp_maybe, sp_alt2, sp_none]
theorem kle5 (s : ByteArray) (a : Ni) : SameI s (starI (starI a)) (starI a) := by
  intro i j
  rw [sp_star, sp_star]
  exact ⟨RT.bind fun i j h => (sp_star ..).1 h, fun h => .one ((sp_star ..).2 h)⟩
theorem kle6 (s : ByteArray) (a b : Ni) : SameI s (catI [a, starI (catI [b, a])]) (catI [starI (catI [a, b]), a]) := by
  intro i j
  rw [sp_cat2, sp_cat2]
  constructor
  · rintro ⟨m, h, t⟩
    rw [sp_star] at t
    have : ∀ {m j}, RT (SpN s (catI [b, a])) m j → ∀ i, SpN s a i m → ∃ k, RT (SpN s (catI [a, b])) i k ∧ SpN s a k j := by
      intro m j t
      induction t with
      | nil => intro i h; exact ⟨i, .nil _, h⟩
      | cons h1 _ ih =>
        intro i h
        rw [sp_cat2] at h1
        obtain ⟨q, g1, g2⟩ := h1
        obtain ⟨k, t1, t2⟩ := ih q g2
        exact ⟨k, .cons ((sp_cat2 ..).2 ⟨_, h, g1⟩) t1, t2⟩
    obtain ⟨k, t1, t2⟩ := this t i h
    exact ⟨k, (sp_star ..).2 t1, t2⟩
  · rintro ⟨k, t, h⟩
    rw [sp_star] at t
    induction t with
    | nil => exact ⟨j, h, (sp_star ..).2 (.nil _)⟩
    | cons h1 _ ih =>
      rw [sp_cat2] at h1
      obtain ⟨q, g1, g2⟩ := h1
      obtain ⟨m, e1, e2⟩ := ih h
      exact ⟨q, g1, (sp_star ..).2 (.cons ((sp_cat2 ..).2 ⟨_, g2, e1⟩) ((sp_star ..).1 e2))⟩
theorem kle7 (s : ByteArray) (a b : Ni) : SameI s (altI [a, b]) (altI [b, a]) := by
  intro i j
  rw [sp_alt2, sp_alt2]; exact Or.comm
theorem kle8 (s : ByteArray) (a : Ni) : SameI s (catI [starI a, starI a]) (starI a) := by
  intro i j
  rw [sp_cat2, sp_star]
  constructor
  · rintro ⟨m, h, t⟩; rw [sp_star] at h t; exact h.trans t
  · intro h; exact ⟨i, (sp_star ..).2 (.nil _), (sp_star ..).2 h⟩

/-! how a span may begin -/
mutual
/-- a node may span nothing, somewhere -/
def skN : Ni → Bool
  | .mk k _ _ l => decide (k ≠ 1) && ((decide (k ≠ 2) && decide (k ≠ 5) && decide (k ≠ 7)) || skAll l) && (decide (k ≠ 3) || skAny l)
def skAll : List Ni → Bool | [] => true | n :: l => skN n && skAll l
def skAny : List Ni → Bool | [] => false | n :: l => skN n || skAny l
end
mutual
/-- the bytes with which it may begin -/
def firN : Ni → BitVec 256
  | .mk k _ c l => if k = 1 then c else if k = 2 then firC l else firA l
def firC : List Ni → BitVec 256 | [] => emp | n :: l => un (firN n) (if skN n then firC l else emp)
def firA : List Ni → BitVec 256 | [] => emp | n :: l => un (firN n) (firA l)
end
theorem skAll_all : ∀ l : List Ni, skAll l = l.all skN
  | [] => by rw [skAll]; rfl
  | n :: l => by rw [skAll, skAll_all l]; rfl
theorem skAny_any : ∀ l : List Ni, skAny l = l.any skN
  | [] => by rw [skAny]; rfl
  | n :: l => by rw [skAny, skAny_any l]; rfl
mutual
theorem sp_skip (s : ByteArray) : ∀ (n : Ni) (i : Nat), rgtN n = true → i ≤ s.size → SpN s n i i → skN n = true
  | .mk k x c l, i, hr, hi, h => by
    rw [rgtN] at hr
    simp only [Bool.and_eq_true] at hr
    obtain ⟨⟨⟨hk, _⟩, _⟩, hl⟩ := hr
    have hR := spR_skip s l i hl hi
    have hA := spA_skip s l i hl hi
    rw [SpN] at h
    rw [skN]
    by_cases h1 : k = 1
    · subst h1; simp at h
    by_cases h2 : k = 2
    · subst h2; simp at h; simp [hR h]
    by_cases h3 : k = 3
    · subst h3; simp at h; simp [hA h]
    by_cases h5 : k = 5
    · subst h5; simp at h
      obtain ⟨m, e1, e2⟩ := h
      have a1 := spA_goes s l i m hi e1
      have a2 := RT.goes (spA_goes s l) m i a1.2 e2
      obtain rfl : m = i := by omega
      have hk1 := kids_single hk (by omega)
      obtain ⟨n, rfl⟩ := List.length_eq_one_iff.1 hk1
      have := hA e1
      rw [skAny, skAny, Bool.or_false] at this
      simp [skAll, this]
    by_cases h7 : k = 7
    · subst h7; simp at h
      have hk1 := kids_single hk (by omega)
      obtain ⟨n, rfl⟩ := List.length_eq_one_iff.1 hk1
      have := hA h
      rw [skAny, skAny, Bool.or_false] at this
      simp [skAll, this]
    simp [h1, h2, h3, h5, h7]
theorem spR_skip (s : ByteArray) : ∀ (l : List Ni) (i : Nat), rgtL l = true → i ≤ s.size → SpR s l i i → skAll l = true
  | [], _, _, _, _ => by rw [skAll]
  | n :: l, i, hr, hi, h => by
    rw [rgtL, Bool.and_eq_true] at hr
    rw [SpR] at h
    obtain ⟨m, h1, h2⟩ := h
    have a1 := sp_goes s n i m hi h1
    have a2 := spR_goes s l m i a1.2 h2
    obtain rfl : m = i := by omega
    rw [skAll, sp_skip s n m hr.1 hi h1, spR_skip s l m hr.2 hi h2]; rfl
theorem spA_skip (s : ByteArray) : ∀ (l : List Ni) (i : Nat), rgtL l = true → i ≤ s.size → SpA s l i i → skAny l = true
  | [], _, _, _, h => by rw [SpA] at h; exact h.elim
  | n :: l, i, hr, hi, h => by
    rw [rgtL, Bool.and_eq_true] at hr
    rw [SpA] at h
    rw [skAny]
    rcases h with h | h
    · rw [sp_skip s n i hr.1 hi h]; rfl
    · rw [spA_skip s l i hr.2 hi h, Bool.or_true]
end
/-- the byte at a place is one of a set -/
theorem byt_un (s : ByteArray) (i : Nat) (a b : BitVec 256) : byt9 s i (un a b) = (byt9 s i a || byt9 s i b) := by
  unfold byt9; split
  · exact inn_un _ _ _
  · rfl
theorem rt_first {m : Nat} {R : Nat → Nat → Prop} (hR : Goes m R) {P : Nat → Prop} (hP : ∀ i j, i ≤ m → i < j → R i j → P i) {i j : Nat} (hi : i ≤ m) (hij : i < j) (h : RT R i j) : P i := by
  rcases RT.mny hR hi h with rfl | h
  · omega
  · cases h with
    | one h1 h => exact hP _ _ hi h1 h
    | cons h1 h _ => exact hP _ _ hi h1 h
mutual
theorem sp_first (s : ByteArray) : ∀ (n : Ni) (i j : Nat), rgtN n = true → i ≤ s.size → i < j → SpN s n i j → byt9 s i (firN n) = true
  | .mk k x c l, i, j, hr, hi, hij, h => by
    rw [rgtN] at hr
    simp only [Bool.and_eq_true] at hr
    obtain ⟨⟨⟨hk, _⟩, _⟩, hl⟩ := hr
    have hR := fun i j => spR_first s l i j hl
    have hA := fun i j => spA_first s l i j hl
    rw [SpN] at h
    rw [firN]
    split at h
    · omega
    rename_i h0
    split at h
    · rename_i h1; rw [if_pos h1]; exact h.2
    rename_i h1
    rw [if_neg h1]
    split at h
    · rename_i h2; rw [if_pos h2]; exact hR i j hi hij h
    rename_i h2
    rw [if_neg h2]
    split at h
    · exact hA i j hi hij h
    split at h
    · exact rt_first (spA_goes s l) (P := fun i => byt9 s i (firA l) = true) hA hi hij h
    split at h
    · obtain ⟨m, e1, e2⟩ := h
      exact rt_first (spA_goes s l) (P := fun i => byt9 s i (firA l) = true) hA hi hij (.cons e1 e2)
    split at h
    · rcases h with h | h
      · omega
      · exact hA i j hi hij h
    split at h
    · exact hA i j hi hij h
    split at h <;> omega
theorem spR_first (s : ByteArray) : ∀ (l : List Ni) (i j : Nat), rgtL l = true → i ≤ s.size → i < j → SpR s l i j → byt9 s i (firC l) = true
  | [], i, j, _, _, hij, h => by rw [SpR] at h; omega
  | n :: l, i, j, hr, hi, hij, h => by
    rw [rgtL, Bool.and_eq_true] at hr
    rw [SpR] at h
    obtain ⟨m, h1, h2⟩ := h
    have a1 := sp_goes s n i m hi h1
    rw [firC, byt_un, Bool.or_eq_true]
    rcases Nat.lt_or_eq_of_le a1.1 with hm | hm
    · exact .inl (sp_first s n i m hr.1 hi hm h1)
    · subst hm
      rw [if_pos (sp_skip s n i hr.1 hi h1)]
      exact .inr (spR_first s l i j hr.2 hi hij h2)
theorem spA_first (s : ByteArray) : ∀ (l : List Ni) (i j : Nat), rgtL l = true → i ≤ s.size → i < j → SpA s l i j → byt9 s i (firA l) = true
  | [], i, j, _, _, _, h => by rw [SpA] at h; exact h.elim
  | n :: l, i, j, hr, hi, hij, h => by
    rw [rgtL, Bool.and_eq_true] at hr
    rw [SpA] at h
    rw [firA, byt_un, Bool.or_eq_true]
    rcases h with h | h
    · exact .inl (sp_first s n i j hr.1 hi hij h)
    · exact .inr (spA_first s l i j hr.2 hi hij h)
end
/-- whether it is so -/
noncomputable def dB (p : Prop) : Bool := @decide p (Classical.propDecidable p)
theorem dB_iff (p : Prop) : dB p = true ↔ p := by unfold dB; simp
theorem dB_yes {p : Prop} (h : p) : dB p = true := (dB_iff p).2 h
theorem dB_no {p : Prop} (h : ¬p) : dB p = false := by cases e : dB p; rfl; exact (h ((dB_iff p).1 e)).elim
theorem dB_same {p q : Prop} (h : p ↔ q) : dB p = dB q := by
  cases e : dB q
  · exact dB_no fun hp => by have := dB_yes (h.1 hp); rw [e] at this; cases this
  · exact dB_yes (h.2 ((dB_iff q).1 e))
theorem dB_no' {p : Prop} (h : dB p = false) : ¬p := fun hp => by rw [dB_yes hp] at h; cases h
theorem fir_eq (n : Ni) : firN n = if n.kind = 1 then n.set else if n.kind = 2 then firC n.kids else firA n.kids := by cases n; rw [firN]; rfl
theorem sk_eq (n : Ni) : skN n = (decide (n.kind ≠ 1) && ((decide (n.kind ≠ 2) && decide (n.kind ≠ 5) && decide (n.kind ≠ 7)) || skAll n.kids) && (decide (n.kind ≠ 3) || skAny n.kids)) := by cases n; rw [skN]; rfl
theorem un_assoc (a b c : BitVec 256) : un (un a b) c = un a (un b c) := by unfold un; exact BitVec.or_assoc ..
theorem un_none (a : BitVec 256) : un a emp = a := by unfold un emp; simp
theorem none_un (a : BitVec 256) : un emp a = a := by unfold un emp; simp
end Go.Proofs.YtlkjejmmoalliaaGreatDoor

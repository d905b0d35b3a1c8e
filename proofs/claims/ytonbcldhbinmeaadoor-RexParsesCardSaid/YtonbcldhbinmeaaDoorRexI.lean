/- What is left to do at a place of a text: the machine of signs over what follows (plain). -/
import Derived.Test.YtonbcldhbinmeaaDoorRexG
namespace Go.Proofs.YtonbcldhbinmeaaDoor
open Go.RowKit

def finM : Mc → Option Nd
  | ⟨[], al, it, _⟩ => some (altN (al ++ [catN it]))
  | _ => none
def fin (s : ByteArray) (i : Nat) (q : Mc) : Option Nd := (sgn s i).bind fun l => (runM l q).bind finM
theorem resE_fin (l : List Sg) (c : Nat) : resE l c = (runM l ⟨[], [], [], c⟩).bind finM := by
  unfold resE
  cases runM l ⟨[], [], [], c⟩ with
  | none => rfl
  | some q =>
    obtain ⟨st, al, it, c'⟩ := q
    cases st <;> rfl
theorem fin_start (s : ByteArray) : fin s 0 ⟨[], [], [], 0⟩ = (sgn s 0).bind fun l => resE l 0 := by
  unfold fin
  congr 1; funext l
  rw [resE_fin]
theorem fin_end {s : ByteArray} {i : Nat} (h : ¬ i < s.size) (q : Mc) : fin s i q = finM q := by
  unfold fin; rw [sgn_end h]; rfl
theorem fin_step {s : ByteArray} {i j : Nat} {x : Sg} (h : sgn s i = (sgn s j).map (x :: ·)) (q : Mc) : fin s i q = (stepM x q).bind (fin s j) := by
  unfold fin
  rw [h]
  cases sgn s j with
  | none => cases stepM x q <;> rfl
  | some l =>
    show ((stepM x q).bind (runM l)).bind finM = _
    cases stepM x q <;> rfl
theorem fin_none {s : ByteArray} {i : Nat} (h : sgn s i = none) (q : Mc) : fin s i q = none := by unfold fin; rw [h]; rfl
theorem fin_set {s : ByteArray} {i j : Nat} {t : BitVec 256} (h : sgn s i = (sgn s j).map (⟨0, t⟩ :: ·)) (st : List (List Nd × List Nd × Nat)) (al it : List Nd) (c : Nat) : fin s i ⟨st, al, it, c⟩ = fin s j ⟨st, al, it ++ [.mk 1 0 t []], c⟩ := by
  rw [fin_step h]; unfold stepM; simp
theorem fin_hat {s : ByteArray} {i : Nat} (h : nxt s i 94 = true) (st : List (List Nd × List Nd × Nat)) (al it : List Nd) (c : Nat) : fin s i ⟨st, al, it, c⟩ = fin s (i + 1) ⟨st, al, it ++ [.mk 8 0 emp []], c⟩ := by
  obtain ⟨hi, h⟩ := nxt_yes h
  rw [fin_step (sgn_mark hi (by omega)), h]; unfold stepM; simp
theorem fin_dollar {s : ByteArray} {i : Nat} (h : nxt s i 36 = true) (st : List (List Nd × List Nd × Nat)) (al it : List Nd) (c : Nat) : fin s i ⟨st, al, it, c⟩ = fin s (i + 1) ⟨st, al, it ++ [.mk 9 0 emp []], c⟩ := by
  obtain ⟨hi, h⟩ := nxt_yes h
  rw [fin_step (sgn_mark hi (by omega)), h]; unfold stepM; simp
theorem fin_bar {s : ByteArray} {i : Nat} (h : nxt s i 124 = true) (st : List (List Nd × List Nd × Nat)) (al it : List Nd) (c : Nat) : fin s i ⟨st, al, it, c⟩ = fin s (i + 1) ⟨st, al ++ [catN it], [], c⟩ := by
  obtain ⟨hi, h⟩ := nxt_yes h
  rw [fin_step (sgn_mark hi (by omega)), h]; unfold stepM; simp
theorem fin_open {s : ByteArray} {i : Nat} (h : nxt s i 40 = true) (st : List (List Nd × List Nd × Nat)) (al it : List Nd) (c : Nat) : fin s i ⟨st, al, it, c⟩ = fin s (i + 1) ⟨(al, it, c + 1) :: st, [], [], c + 1⟩ := by
  obtain ⟨hi, h⟩ := nxt_yes h
  rw [fin_step (sgn_mark hi (by omega)), h]; unfold stepM; simp
theorem fin_close {s : ByteArray} {i : Nat} (h : nxt s i 41 = true) (st : List (List Nd × List Nd × Nat)) (al it al' it' : List Nd) (k c : Nat) : fin s i ⟨(al', it', k) :: st, al, it, c⟩ = fin s (i + 1) ⟨st, al', it' ++ [.mk 7 k emp [altN (al ++ [catN it])]], c⟩ := by
  obtain ⟨hi, h⟩ := nxt_yes h
  rw [fin_step (sgn_mark hi (by omega)), h]; unfold stepM; simp
theorem fin_close0 {s : ByteArray} {i : Nat} (h : nxt s i 41 = true) (al it : List Nd) (c : Nat) : fin s i ⟨[], al, it, c⟩ = none := by
  obtain ⟨hi, h⟩ := nxt_yes h
  rw [fin_step (sgn_mark hi (by omega)), h]; unfold stepM; simp
def isRep (s : ByteArray) (i : Nat) : Bool := nxt s i 42 || nxt s i 43 || nxt s i 63
theorem rep_yes {s : ByteArray} {i : Nat} (h : isRep s i = true) : ∃ hi : i < s.size, s[i].toNat = 42 ∨ s[i].toNat = 43 ∨ s[i].toNat = 63 := by
  unfold isRep at h
  simp only [Bool.or_eq_true] at h
  rcases h with (h | h) | h <;> (obtain ⟨hi, h⟩ := nxt_yes h; exact ⟨hi, by omega⟩)
theorem fin_rep0 {s : ByteArray} {i : Nat} (h : isRep s i = true) (st : List (List Nd × List Nd × Nat)) (al : List Nd) (c : Nat) : fin s i ⟨st, al, [], c⟩ = none := by
  obtain ⟨hi, h⟩ := rep_yes h
  rw [fin_step (sgn_mark hi (by omega))]
  unfold stepM
  rcases h with h | h | h <;> simp [h]
theorem fin_rep {s : ByteArray} {i c1 k : Nat} (h : nxt s i c1 = true) (hk : (c1 = 42 ∧ k = 4) ∨ (c1 = 43 ∧ k = 5) ∨ (c1 = 63 ∧ k = 6)) (st : List (List Nd × List Nd × Nat)) (al it : List Nd) (n : Nd) (c : Nat) :
    fin s i ⟨st, al, it ++ [n], c⟩ = fin s (i + 1) ⟨st, al, it ++ [.mk k 0 emp [n]], c⟩ := by
  obtain ⟨hi, h⟩ := nxt_yes h
  rw [fin_step (sgn_mark hi (by omega))]
  unfold stepM
  rcases hk with ⟨rfl, rfl⟩ | ⟨rfl, rfl⟩ | ⟨rfl, rfl⟩ <;> simp [h]

/-- what an atom, an item, a branch, an expression that is read at a place says of the machine -/
def AtomP (s : ByteArray) (i c : Nat) : Option (Nd × Nat × Nat) → Prop
  | none => ∀ st al it, (it = [] ∨ isRep s i = false) → fin s i ⟨st, al, it, c⟩ = none
  | some (n, j, c2) => i < j ∧ ∀ st al it, fin s i ⟨st, al, it, c⟩ = fin s j ⟨st, al, it ++ [n], c2⟩
def ItemP (s : ByteArray) (i c : Nat) : Option (Nd × Nat × Nat) → Prop
  | none => ∀ st al it, (it = [] ∨ isRep s i = false) → fin s i ⟨st, al, it, c⟩ = none
  | some (n, j, c2) => i < j ∧ isRep s j = false ∧ ∀ st al it, fin s i ⟨st, al, it, c⟩ = fin s j ⟨st, al, it ++ [n], c2⟩
def BrP (s : ByteArray) (i c : Nat) : Option (Nd × Nat × Nat) → Prop
  | none => ∀ st al, fin s i ⟨st, al, [], c⟩ = none
  | some (n, j, c2) => i ≤ j ∧ (j < s.size → nxt s j 41 = true ∨ nxt s j 124 = true) ∧ ∃ l, n = catN l ∧ ∀ st al, fin s i ⟨st, al, [], c⟩ = fin s j ⟨st, al, l, c2⟩
def ExP (s : ByteArray) (i c : Nat) : Option (Nd × Nat × Nat) → Prop
  | none => ∀ st, fin s i ⟨st, [], [], c⟩ = none
  | some (n, j, c2) => i ≤ j ∧ (j < s.size → nxt s j 41 = true) ∧ ∃ al l, n = altN (al ++ [catN l]) ∧ ∀ st, fin s i ⟨st, [], [], c⟩ = fin s j ⟨st, al, l, c2⟩
theorem atom_set {s : ByteArray} {i j : Nat} {t : BitVec 256} (c : Nat) (h : sgn s i = (sgn s j).map (⟨0, t⟩ :: ·)) (hj : i < j) : AtomP s i c (some (.mk 1 0 t [], j, c)) := ⟨hj, fun st al it => fin_set h st al it c⟩
theorem atom_bad {s : ByteArray} {i : Nat} (c : Nat) (h : sgn s i = none) : AtomP s i c none := fun _ _ _ _ => fin_none h _
theorem atom_hat {s : ByteArray} {i : Nat} (c : Nat) (h : nxt s i 94 = true) : AtomP s i c (some (.mk 8 0 emp [], i + 1, c)) := ⟨Nat.lt_succ_self _, fun st al it => fin_hat h st al it c⟩
theorem atom_dollar {s : ByteArray} {i : Nat} (c : Nat) (h : nxt s i 36 = true) : AtomP s i c (some (.mk 9 0 emp [], i + 1, c)) := ⟨Nat.lt_succ_self _, fun st al it => fin_dollar h st al it c⟩
theorem atom_rep {s : ByteArray} {i : Nat} (c : Nat) (h : isRep s i = true) : AtomP s i c none := by
  intro st al it hit
  rcases hit with rfl | hn
  · exact fin_rep0 h st al c
  · rw [h] at hn; cases hn
/-- a group of an expression -/
theorem atom_group {s : ByteArray} {i j c c2 : Nat} {n : Nd} (h : nxt s i 40 = true) (he : ExP s (i + 1) (c + 1) (some (n, j, c2))) (hj : nxt s j 41 = true) : AtomP s i c (some (.mk 7 (c + 1) emp [n], j + 1, c2)) := by
  obtain ⟨h1, -, al', l, rfl, h2⟩ := he
  refine ⟨by omega, fun st al it => ?_⟩
  rw [fin_open h, h2, fin_close hj]
theorem atom_group_bad {s : ByteArray} {i c : Nat} (h : nxt s i 40 = true) (he : ExP s (i + 1) (c + 1) none) : AtomP s i c none := by
  intro st al it _
  rw [fin_open h]; exact he _
theorem atom_group_open {s : ByteArray} {i j c c2 : Nat} {n : Nd} (h : nxt s i 40 = true) (he : ExP s (i + 1) (c + 1) (some (n, j, c2))) (hj : nxt s j 41 = false) : AtomP s i c none := by
  obtain ⟨h1, h3, al', l, rfl, h2⟩ := he
  intro st al it _
  rw [fin_open h, h2, fin_end (by intro hlt; have := h3 hlt; rw [hj] at this; cases this)]; rfl
theorem item_atom {s : ByteArray} {i c j c2 : Nat} {n : Nd} (h : AtomP s i c (some (n, j, c2))) (hr : isRep s j = false) : ItemP s i c (some (n, j, c2)) := ⟨h.1, hr, h.2⟩
theorem atom_more {s : ByteArray} {i c j c2 c1 k : Nat} {n : Nd} (h : AtomP s i c (some (n, j, c2))) (hr : nxt s j c1 = true) (hk : (c1 = 42 ∧ k = 4) ∨ (c1 = 43 ∧ k = 5) ∨ (c1 = 63 ∧ k = 6)) : AtomP s i c (some (.mk k 0 emp [n], j + 1, c2)) :=
  ⟨by have := h.1; omega, fun st al it => by rw [h.2, fin_rep hr hk]⟩

/-- a branch's items so far -/
def BrI (s : ByteArray) (i c : Nat) (L : List Nd) (j c2 : Nat) : Prop := i + L.length ≤ j ∧ (L = [] ∨ isRep s j = false) ∧ ∀ st al, fin s i ⟨st, al, [], c⟩ = fin s j ⟨st, al, L, c2⟩
def BrM (s : ByteArray) (i c : Nat) (L : List Nd) (j c2 : Nat) : Prop := BrI s i c L j c2 ∧ j < s.size ∧ nxt s j 41 = false ∧ nxt s j 124 = false
def BrD (s : ByteArray) (i c : Nat) (L : List Nd) (j c2 : Nat) : Prop := BrI s i c L j c2 ∧ (j < s.size → nxt s j 41 = true ∨ nxt s j 124 = true)
theorem br_start (s : ByteArray) (i c : Nat) : BrI s i c [] i c := ⟨by simp, .inl rfl, fun _ _ => rfl⟩
theorem br_bad {s : ByteArray} {i c j c2 : Nat} {L : List Nd} (h : BrM s i c L j c2) (hp : ItemP s j c2 none) : BrP s i c none := fun st al => by rw [h.1.2.2]; exact hp _ _ _ h.1.2.1
theorem br_on {s : ByteArray} {i c j c2 j' c' : Nat} {L : List Nd} {n : Nd} (h : BrM s i c L j c2) (hp : ItemP s j c2 (some (n, j', c'))) : BrI s i c (L ++ [n]) j' c' := by
  obtain ⟨h1, h2, h3⟩ := hp
  refine ⟨?_, .inr h2, fun st al => by rw [h.1.2.2, h3]⟩
  have := h.1.1
  simp; omega
theorem br_end {s : ByteArray} {i c j c2 : Nat} {L : List Nd} (h : BrD s i c L j c2) : BrP s i c (some (oneN 2 L, j, c2)) := ⟨by have := h.1.1; omega, h.2, L, rfl, h.1.2.2⟩
/-- an expression's branches so far -/
def ExI (s : ByteArray) (i c : Nat) (L : List Nd) (j c2 : Nat) : Prop := (L = [] ∧ j = i ∧ c2 = c) ∨ ∃ al l, L = al ++ [catN l] ∧ i + al.length ≤ j ∧ (j < s.size → nxt s j 41 = true ∨ nxt s j 124 = true) ∧ ∀ st, fin s i ⟨st, [], [], c⟩ = fin s j ⟨st, al, l, c2⟩
def ExM (s : ByteArray) (i c : Nat) (L : List Nd) (j c2 : Nat) : Prop := i + L.length ≤ j ∧ ∀ st, fin s i ⟨st, [], [], c⟩ = fin s j ⟨st, L, [], c2⟩
def ExD (s : ByteArray) (i c : Nat) (L : List Nd) (j c2 : Nat) : Prop := ∃ al l, L = al ++ [catN l] ∧ i + al.length ≤ j ∧ (j < s.size → nxt s j 41 = true) ∧ ∀ st, fin s i ⟨st, [], [], c⟩ = fin s j ⟨st, al, l, c2⟩
theorem ex_start (s : ByteArray) (i c : Nat) : ExI s i c [] i c := .inl ⟨rfl, rfl, rfl⟩
theorem ex_first {s : ByteArray} {i c j c2 : Nat} (h : ExI s i c [] j c2) : ExM s i c [] j c2 := by
  rcases h with ⟨-, rfl, rfl⟩ | ⟨al, l, e, -⟩
  · exact ⟨by simp, fun _ => rfl⟩
  · simp at e
theorem ex_bar {s : ByteArray} {i c j c2 : Nat} {L : List Nd} (h : ExI s i c L j c2) (hL : L ≠ []) (hb : nxt s j 124 = true) : ExM s i c L (j + 1) c2 := by
  rcases h with ⟨e, -⟩ | ⟨al, l, rfl, h1, -, h3⟩
  · exact absurd e hL
  · exact ⟨by simp; omega, fun st => by rw [h3, fin_bar hb]⟩
theorem ex_stop {s : ByteArray} {i c j c2 : Nat} {L : List Nd} (h : ExI s i c L j c2) (hL : L ≠ []) (hb : nxt s j 124 = false) : ExD s i c L j c2 := by
  rcases h with ⟨e, -⟩ | ⟨al, l, rfl, h1, h2, h3⟩
  · exact absurd e hL
  · have h4 : j < s.size → nxt s j 41 = true := by
      intro hj
      rcases h2 hj with h | h
      · exact h
      · rw [hb] at h; cases h
    exact ⟨al, l, rfl, h1, h4, h3⟩
theorem ex_bad {s : ByteArray} {i c j c2 : Nat} {L : List Nd} (h : ExM s i c L j c2) (hp : BrP s j c2 none) : ExP s i c none := fun st => by rw [h.2]; exact hp _ _
theorem ex_on {s : ByteArray} {i c j c2 j' c' : Nat} {L : List Nd} {n : Nd} (h : ExM s i c L j c2) (hp : BrP s j c2 (some (n, j', c'))) : ExI s i c (L ++ [n]) j' c' := by
  obtain ⟨h1, h2, l, rfl, h3⟩ := hp
  exact .inr ⟨L, l, rfl, by have := h.1; omega, h2, fun st => by rw [h.2, h3]⟩
theorem ex_end {s : ByteArray} {i c j c2 : Nat} {L : List Nd} (h : ExD s i c L j c2) : ExP s i c (some (oneN 3 L, j, c2)) := by
  obtain ⟨al, l, rfl, h1, h2, h3⟩ := h
  exact ⟨by omega, h2, al, l, rfl, h3⟩
/-- at the end of the text -/
theorem whole_bad {s : ByteArray} (h : ExP s 0 0 none) : fin s 0 ⟨[], [], [], 0⟩ = none := h []
theorem whole_rest {s : ByteArray} {n : Nd} {j c2 : Nat} (h : ExP s 0 0 (some (n, j, c2))) (hj : j < s.size) : fin s 0 ⟨[], [], [], 0⟩ = none := by
  obtain ⟨-, h2, al, l, -, h3⟩ := h
  rw [h3, fin_close0 (h2 hj)]
theorem whole_all {s : ByteArray} {n : Nd} {j c2 : Nat} (h : ExP s 0 0 (some (n, j, c2))) (hj : ¬ j < s.size) : fin s 0 ⟨[], [], [], 0⟩ = some n := by
  obtain ⟨-, -, al, l, rfl, h3⟩ := h
  rw [h3, fin_end hj]; rfl
end Go.Proofs.YtonbcldhbinmeaaDoor

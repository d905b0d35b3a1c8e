/- Pieces as words, plainly: what a piece gives, a word's list as the document goes and as the program goes, all words' lists; P17.2. How great the words of a text are, plainly; a text without signs gives its own fields (P17.2). -/
import Derived.Test.YtcmfmfkpmgoieaaGreatDoorLxRow
import Derived.Test.YtcmfmfkpmgoieaaGreatDoorStPlain
import Derived.Test.YtcmfmfkpmgoieaaGreatDoorQtRow
namespace Go.Proofs.YtcmfmfkpmgoieaaGreatDoor

/-- what a command told -/
structure Ot where
  c : ByteArray
  t : ByteArray
def fndO (O : List Ot) (s : ByteArray) : Option ByteArray := (O.find? fun x => decide (x.c = s)).map (·.t)
/-- words, or an error's number -/
abbrev Rs := Except Nat (List (List UInt8))
def exN : Rs → Nat
  | .ok _ => 0
  | .error k => k
def exL : Rs → List (List UInt8)
  | .ok l => l
  | .error _ => []
/-- a piece's words; V: the words of a name -/
def pcE (V : ByteArray → List ByteArray) (O : List Ot) (p : Pb) : Rs :=
  if p.k = 0 ∨ p.k = 1 then .ok [p.t.data.toList]
  else if p.k = 2 then .ok (txL (V p.t))
  else if p.k = 3 then (if (V p.t).any (ovrB p.f.data.toList p.o.data.toList) then .error 2 else .ok (txL (putT p.f.data.toList p.o.data.toList (V p.t))))
  else if p.k = 4 then (match fndO O p.t with | none => .error 8 | some s => .ok (fldQ s.data.toList))
  else .error 17
theorem pcE_text {V : ByteArray → List ByteArray} {O : List Ot} {p : Pb} (h : p.k = 0 ∨ p.k = 1) : pcE V O p = .ok [p.t.data.toList] := if_pos h
theorem pcE_var {V : ByteArray → List ByteArray} {O : List Ot} {p : Pb} (h : p.k = 2) : pcE V O p = .ok (txL (V p.t)) := by unfold pcE; rw [if_neg (by omega), if_pos h]
theorem pcE_over {V : ByteArray → List ByteArray} {O : List Ot} {p : Pb} (h : p.k = 3) (ho : (V p.t).any (ovrB p.f.data.toList p.o.data.toList) = true) : pcE V O p = .error 2 := by
  unfold pcE; rw [if_neg (by omega), if_neg (by omega), if_pos h, if_pos ho]
theorem pcE_sub {V : ByteArray → List ByteArray} {O : List Ot} {p : Pb} (h : p.k = 3) (ho : (V p.t).any (ovrB p.f.data.toList p.o.data.toList) = false) : pcE V O p = .ok (txL (putT p.f.data.toList p.o.data.toList (V p.t))) := by
  unfold pcE; rw [if_neg (by omega), if_neg (by omega), if_pos h, if_neg (by simp [ho])]
theorem pcE_none {V : ByteArray → List ByteArray} {O : List Ot} {p : Pb} (h : p.k = 4) (ho : fndO O p.t = none) : pcE V O p = .error 8 := by
  unfold pcE; rw [if_neg (by omega), if_neg (by omega), if_neg (by omega), if_pos h, ho]
theorem pcE_back {V : ByteArray → List ByteArray} {O : List Ot} {p : Pb} {s : ByteArray} (h : p.k = 4) (ho : fndO O p.t = some s) : pcE V O p = .ok (fldQ s.data.toList) := by
  unfold pcE; rw [if_neg (by omega), if_neg (by omega), if_neg (by omega), if_pos h, ho]
theorem pcE_kind {V : ByteArray → List ByteArray} {O : List Ot} {p : Pb} (h : p.k ≠ 0 ∧ p.k ≠ 1 ∧ p.k ≠ 2 ∧ p.k ≠ 3 ∧ p.k ≠ 4) : pcE V O p = .error 17 := by
  unfold pcE; rw [if_neg (by omega), if_neg (by omega), if_neg (by omega), if_neg (by omega)]
abbrev Op := List (List UInt8) × List UInt8
/-- one more word of a piece: the words that are done, the open one -/
def stpS (i : Bool) (t : Op) (x : List UInt8) : Op := if i then (t.1 ++ [t.2], x) else (t.1, t.2 ++ x)
def goD (t : Op) : List (List UInt8) → Op
  | [] => t
  | x :: r => r.foldl (stpS true) (stpS false t x)
def stE (V : ByteArray → List ByteArray) (O : List Ot) (x : Except Nat (Op × Bool)) (p : Pb) : Except Nat (Op × Bool) :=
  match x with
  | .error e => .error e
  | .ok s => match pcE V O p with
    | .error e => .error e
    | .ok l => .ok (goD s.1 l, s.2 || decide (p.k = 1))
def wdS (V : ByteArray → List ByteArray) (O : List Ot) (w : List Pb) : Except Nat (Op × Bool) := w.foldl (stE V O) (.ok (([], []), false))
def bigE (x : List UInt8) : Bool := decide (120 < x.length)
def endE (s : Op × Bool) : Rs :=
  if s.1.1.isEmpty && s.1.2.isEmpty && !s.2 then .ok []
  else if 40 < s.1.1.length + 1 then .error 10
  else if (s.1.1 ++ [s.1.2]).any bigE then .error 2
  else .ok (s.1.1 ++ [s.1.2])
def wordE (V : ByteArray → List ByteArray) (O : List Ot) (w : List Pb) : Rs :=
  match wdS V O w with
  | .error e => .error e
  | .ok s => endE s
def alE (V : ByteArray → List ByteArray) (O : List Ot) (x : Rs) (w : List Pb) : Rs :=
  match x with
  | .error e => .error e
  | .ok a => match wordE V O w with
    | .error e => .error e
    | .ok l => .ok (a ++ l)
def allE (V : ByteArray → List ByteArray) (O : List Ot) (L : List (List Pb)) : Rs := L.foldl (alE V O) (.ok [])
def wordsE (V : ByteArray → List ByteArray) (O : List Ot) (L : List (List Pb)) : Rs :=
  match allE V O L with
  | .error e => .error e
  | .ok a => if 40 < a.length then .error 10 else .ok a

theorem go_take {t : Op} {l : List (List UInt8)} {j : Nat} {x : List UInt8} (h : l[j]? = some x) : goD t (l.take (j + 1)) = stpS (decide (0 < j)) (goD t (l.take j)) x := by
  cases l with
  | nil => simp at h
  | cons y r =>
    cases j with
    | zero => simp at h; subst h; simp [goD]
    | succ j =>
      rw [List.getElem?_cons_succ] at h
      simp only [List.take_succ_cons, goD]
      rw [List.take_add_one, h, Option.toList_some, List.foldl_append]
      simp
theorem st_err (V : ByteArray → List ByteArray) (O : List Ot) (e : Nat) : ∀ r : List Pb, r.foldl (stE V O) (.error e) = .error e
  | [] => rfl
  | _ :: r => st_err V O e r
theorem al_err (V : ByteArray → List ByteArray) (O : List Ot) (e : Nat) : ∀ r : List (List Pb), r.foldl (alE V O) (.error e) = .error e
  | [] => rfl
  | _ :: r => al_err V O e r
theorem wdS_take {V : ByteArray → List ByteArray} {O : List Ot} {w : List Pb} {j : Nat} {p : Pb} (h : w[j]? = some p) : wdS V O (w.take (j + 1)) = stE V O (wdS V O (w.take j)) p := by
  unfold wdS
  rw [List.take_add_one, h, Option.toList_some, List.foldl_append]; rfl
theorem wdS_bad {V : ByteArray → List ByteArray} {O : List Ot} {w : List Pb} {j : Nat} {p : Pb} {s : Op × Bool} {e : Nat} (h : w[j]? = some p) (hs : wdS V O (w.take j) = .ok s) (hp : pcE V O p = .error e) : wordE V O w = .error e := by
  have h1 : wdS V O (w.take (j + 1)) = .error e := by rw [wdS_take h, hs]; unfold stE; simp only [hp]
  have h2 : wdS V O w = .error e := by
    conv => lhs; rw [← List.take_append_drop (j + 1) w]
    unfold wdS at h1 ⊢
    rw [List.foldl_append, h1, st_err]
  unfold wordE; rw [h2]
theorem wdS_go {V : ByteArray → List ByteArray} {O : List Ot} {w : List Pb} {j : Nat} {p : Pb} {s : Op × Bool} {l : List (List UInt8)} (h : w[j]? = some p) (hs : wdS V O (w.take j) = .ok s) (hp : pcE V O p = .ok l) :
    wdS V O (w.take (j + 1)) = .ok (goD s.1 l, s.2 || decide (p.k = 1)) := by rw [wdS_take h, hs]; unfold stE; simp only [hp]
theorem allE_take {V : ByteArray → List ByteArray} {O : List Ot} {L : List (List Pb)} {j : Nat} {p : List Pb} (h : L[j]? = some p) : allE V O (L.take (j + 1)) = alE V O (allE V O (L.take j)) p := by
  unfold allE
  rw [List.take_add_one, h, Option.toList_some, List.foldl_append]; rfl
theorem allE_bad {V : ByteArray → List ByteArray} {O : List Ot} {L : List (List Pb)} {j : Nat} {p : List Pb} {s : List (List UInt8)} {e : Nat} (h : L[j]? = some p) (hs : allE V O (L.take j) = .ok s) (hp : wordE V O p = .error e) : wordsE V O L = .error e := by
  have h1 : allE V O (L.take (j + 1)) = .error e := by rw [allE_take h, hs]; unfold alE; simp only [hp]
  have h2 : allE V O L = .error e := by
    conv => lhs; rw [← List.take_append_drop (j + 1) L]
    unfold allE at h1 ⊢
    rw [List.foldl_append, h1, al_err]
  unfold wordsE; rw [h2]
theorem allE_go {V : ByteArray → List ByteArray} {O : List Ot} {L : List (List Pb)} {j : Nat} {p : List Pb} {s l : List (List UInt8)} (h : L[j]? = some p) (hs : allE V O (L.take j) = .ok s) (hp : wordE V O p = .ok l) :
    allE V O (L.take (j + 1)) = .ok (s ++ l) := by rw [allE_take h, hs]; unfold alE; simp only [hp]

/-- the program's row: words, the last one open; whether a word would be too long -/
abbrev Rp := List (List UInt8) × Bool
def putP (s : Rp) (x : List UInt8) : Rp :=
  if 120 < (s.1.getLastD []).length + x.length then (s.1, true) else (s.1.dropLast ++ [s.1.getLastD [] ++ x], s.2)
def stpP (i : Bool) (s : Rp) (x : List UInt8) : Rp := if 40 < s.1.length then s else putP (if i then (s.1 ++ [[]], s.2) else s) x
def addP (s : Rp) : List (List UInt8) → Rp
  | [] => s
  | x :: r => r.foldl (stpP true) (stpP false s x)
def endP (s : Rp) (q : Bool) : Rs :=
  if 40 < s.1.length then .error 10
  else if s.2 then .error 2
  else if s.1 = [[]] && !q then .ok []
  else .ok s.1
theorem add_take {t : Rp} {l : List (List UInt8)} {j : Nat} {x : List UInt8} (h : l[j]? = some x) : addP t (l.take (j + 1)) = stpP (decide (0 < j)) (addP t (l.take j)) x := by
  cases l with
  | nil => simp at h
  | cons y r =>
    cases j with
    | zero => simp at h; subst h; simp [addP]
    | succ j =>
      rw [List.getElem?_cons_succ] at h
      simp only [List.take_succ_cons, addP]
      rw [List.take_add_one, h, Option.toList_some, List.foldl_append]
      simp
theorem stp_full {s : Rp} (h : 40 < s.1.length) (i : Bool) (x : List UInt8) : stpP i s x = s := by unfold stpP; rw [if_pos h]
theorem fold_full {s : Rp} (h : 40 < s.1.length) : ∀ r : List (List UInt8), r.foldl (stpP true) s = s
  | [] => rfl
  | x :: r => by rw [List.foldl_cons, stp_full h]; exact fold_full h r
/-- once it is full, it stays -/
theorem add_full {s : Rp} {l : List (List UInt8)} {j : Nat} (h : 40 < (addP s (l.take j)).1.length) : addP s l = addP s (l.take j) := by
  cases l with
  | nil => rw [List.take_nil]
  | cons y r =>
    cases j with
    | zero =>
      simp only [List.take_zero, addP] at h ⊢
      rw [stp_full h, fold_full h]
    | succ j =>
      simp only [List.take_succ_cons, addP] at h ⊢
      conv => lhs; rw [← List.take_append_drop j r]
      rw [List.foldl_append, fold_full h]
def OkP (s : Rp) : Prop := s.1 ≠ [] ∧ s.1.length ≤ 41 ∧ ∀ x ∈ s.1, x.length ≤ 120
theorem ok_put {s : Rp} (h : OkP s) (x : List UInt8) : OkP (putP s x) := by
  obtain ⟨h1, h2, h3⟩ := h
  unfold putP
  split
  · exact ⟨h1, h2, h3⟩
  · rename_i hle
    have hp := List.length_pos_iff.2 h1
    refine ⟨by simp, by simp [List.length_dropLast]; omega, fun y hy => ?_⟩
    rw [List.mem_append] at hy
    rcases hy with hy | hy
    · exact h3 y (List.dropLast_subset _ hy)
    · simp only [List.mem_singleton] at hy; subst hy; rw [List.length_append]; omega
theorem ok_step {s : Rp} (h : OkP s) (i : Bool) (x : List UInt8) : OkP (stpP i s x) := by
  unfold stpP
  split
  · exact h
  · rename_i hle
    refine ok_put ?_ x
    obtain ⟨h1, h2, h3⟩ := h
    cases i with
    | false => exact ⟨h1, h2, h3⟩
    | true =>
      refine ⟨by simp, by simp; omega, fun y hy => ?_⟩
      simp only [if_true, List.mem_append, List.mem_singleton] at hy
      rcases hy with hy | rfl
      · exact h3 y hy
      · simp
theorem ok_add {s : Rp} (h : OkP s) (l : List (List UInt8)) : OkP (addP s l) := by
  cases l with
  | nil => exact h
  | cons x r =>
    have h1 := ok_step h false x
    show OkP (r.foldl (stpP true) (stpP false s x))
    generalize stpP false s x = t at h1
    clear h
    induction r generalizing t with
    | nil => exact h1
    | cons y r ih => rw [List.foldl_cons]; exact ih _ (ok_step h1 true y)
/-- the program's row and the document's words say the same -/
def RelP (s : Rp) (t : Op) : Prop :=
  (40 < s.1.length ∧ 40 ≤ t.1.length) ∨ (t.1.length < 40 ∧
    ((s.2 = false ∧ s.1 = t.1 ++ [t.2] ∧ ∀ x ∈ s.1, x.length ≤ 120) ∨ (s.2 = true ∧ s.1.length = t.1.length + 1 ∧ ∃ x ∈ t.1 ++ [t.2], 120 < x.length)))
theorem put_len (s : Rp) (h : s.1 ≠ []) (x : List UInt8) : (putP s x).1.length = s.1.length := by
  unfold putP
  have := List.length_pos_iff.2 h
  split
  · rfl
  · simp [List.length_dropLast]; omega
theorem put_long (s : Rp) (h : s.2 = true) (x : List UInt8) : (putP s x).2 = true := by unfold putP; split <;> simp [h]
theorem put_at (d : List (List UInt8)) (o x : List UInt8) (b : Bool) : putP (d ++ [o], b) x = if 120 < o.length + x.length then (d ++ [o], true) else (d ++ [o ++ x], b) := by
  unfold putP; simp
theorem rel_step {s : Rp} {t : Op} (h : RelP s t) (i : Bool) (x : List UInt8) : RelP (stpP i s x) (stpS i t x) := by
  obtain ⟨d, o⟩ := t
  obtain ⟨P, lg⟩ := s
  rcases h with ⟨h1, h2⟩ | ⟨h0, ⟨h1, h2, h3⟩ | ⟨h1, h2, y, hy, hy2⟩⟩
  · simp only at h1 h2
    rw [stp_full h1]
    left
    refine ⟨h1, ?_⟩
    unfold stpS; cases i <;> simp <;> omega
  · simp only at h0 h1 h2 h3
    subst h1 h2
    have hn : ¬ 40 < ((d ++ [o], false) : Rp).1.length := by simp; omega
    unfold stpP
    rw [if_neg hn]
    cases i with
    | false =>
      simp only [stpS, Bool.false_eq_true, if_false]
      rw [put_at]
      by_cases hb : 120 < o.length + x.length
      · rw [if_pos hb]
        exact .inr ⟨h0, .inr ⟨rfl, by simp, o ++ x, by simp, by rw [List.length_append]; omega⟩⟩
      · rw [if_neg hb]
        refine .inr ⟨h0, .inl ⟨rfl, rfl, fun z hz => ?_⟩⟩
        simp only [List.mem_append, List.mem_singleton] at hz
        rcases hz with hz | rfl
        · exact h3 z (by simp [hz])
        · rw [List.length_append]; omega
    | true =>
      simp only [stpS, if_true]
      rw [put_at]
      by_cases hf : d.length + 1 < 40
      · by_cases hb : 120 < ([] : List UInt8).length + x.length
        · rw [if_pos hb]
          exact .inr ⟨by simp; omega, .inr ⟨rfl, by simp, x, by simp, by simpa using hb⟩⟩
        · rw [if_neg hb]
          refine .inr ⟨by simp; omega, .inl ⟨rfl, by simp, fun z hz => ?_⟩⟩
          simp only [List.nil_append] at hz
          rw [List.mem_append, List.mem_singleton] at hz
          rcases hz with hz | rfl
          · exact h3 z hz
          · simp only [List.length_nil] at hb; omega
      · left
        refine ⟨?_, by simp; omega⟩
        split <;> simp <;> omega
  · simp only at h0 h1 h2 hy
    subst h1
    have hn : ¬ 40 < ((P, true) : Rp).1.length := by simp; omega
    have hP : P ≠ [] := by rintro rfl; simp at h2
    unfold stpP
    rw [if_neg hn]
    cases i with
    | false =>
      simp only [stpS, Bool.false_eq_true, if_false]
      refine .inr ⟨h0, .inr ⟨put_long _ rfl _, by rw [put_len _ hP]; exact h2, ?_⟩⟩
      simp only [List.mem_append, List.mem_singleton] at hy
      rcases hy with hy | rfl
      · exact ⟨y, by simp [hy], hy2⟩
      · exact ⟨y ++ x, by simp, by rw [List.length_append]; omega⟩
    | true =>
      simp only [stpS, if_true]
      have hl : (putP (P ++ [[]], true) x).1.length = P.length + 1 := by rw [put_len _ (by simp)]; simp
      by_cases hf : d.length + 1 < 40
      · exact .inr ⟨by simp; omega, .inr ⟨put_long _ rfl _, by rw [hl]; simp; omega, y, by rw [List.mem_append]; exact .inl hy, hy2⟩⟩
      · exact .inl ⟨by rw [hl]; omega, by simp; omega⟩
theorem rel_add {s : Rp} {t : Op} (h : RelP s t) (l : List (List UInt8)) : RelP (addP s l) (goD t l) := by
  cases l with
  | nil => exact h
  | cons x r =>
    have h1 := rel_step h false x
    show RelP (r.foldl (stpP true) (stpP false s x)) (r.foldl (stpS true) (stpS false t x))
    generalize stpP false s x = s at h1
    generalize stpS false t x = t at h1
    clear h
    induction r generalizing s t with
    | nil => exact h1
    | cons y r ih => rw [List.foldl_cons, List.foldl_cons]; exact ih _ _ (rel_step h1 true y)
theorem rel_start : RelP ([[]], false) ([], []) := .inr ⟨by decide, .inl ⟨rfl, rfl, by simp⟩⟩
theorem ok_start : OkP ([[]], false) := ⟨by simp, by simp, by simp⟩
theorem rel_end {s : Rp} {t : Op} (h : RelP s t) (q : Bool) : endP s q = endE (t, q) := by
  obtain ⟨d, o⟩ := t
  obtain ⟨P, lg⟩ := s
  unfold endP endE
  rcases h with ⟨h1, h2⟩ | ⟨h0, ⟨h1, h2, h3⟩ | ⟨h1, h2, y, hy, hy2⟩⟩
  · simp only at h1 h2 ⊢
    have hd : d.isEmpty = false := by cases d with | nil => simp at h2 | cons => rfl
    rw [if_pos h1, hd]
    simp only [Bool.false_and, Bool.false_eq_true, if_false]
    rw [if_pos (by omega)]
  · simp only at h0 h1 h2 h3 ⊢
    subst h1 h2
    have ha : (d ++ [o]).any bigE = false := by
      rw [List.any_eq_false]; intro z hz; have := h3 z hz; unfold bigE; simp; omega
    rw [if_neg (by simp; omega), if_neg (by simp)]
    by_cases hd : d = [] ∧ o = []
    · obtain ⟨rfl, rfl⟩ := hd
      cases q <;> simp [bigE]
    · have e1 : (decide (d ++ [o] = [[]]) && !q) = false := by
        have : d ++ [o] ≠ [[]] := by
          intro e
          cases d with
          | nil => simp at e; exact hd ⟨rfl, e⟩
          | cons z zs => simp at e
        simp [this]
      have e2 : (d.isEmpty && o.isEmpty && !q) = false := by
        cases hq : (d.isEmpty && o.isEmpty) with
        | false => rfl
        | true =>
          rw [Bool.and_eq_true, List.isEmpty_iff, List.isEmpty_iff] at hq
          exact (hd hq).elim
      rw [e1, e2, ha]
      simp only [Bool.false_eq_true, if_false]
      rw [if_neg (by omega)]
  · simp only at h0 h1 h2 hy ⊢
    subst h1
    have ha : (d ++ [o]).any bigE = true := List.any_eq_true.2 ⟨y, hy, by unfold bigE; simpa using hy2⟩
    have e2 : (d.isEmpty && o.isEmpty && !q) = false := by
      cases hq : (d.isEmpty && o.isEmpty) with
      | false => rfl
      | true =>
        rw [Bool.and_eq_true, List.isEmpty_iff, List.isEmpty_iff] at hq
        obtain ⟨rfl, rfl⟩ := hq
        simp at hy; subst hy; simp at hy2
    rw [if_neg (by omega), if_pos rfl, e2, ha]
    simp only [Bool.false_eq_true, if_false, if_true]
    rw [if_neg (by omega)]
theorem end_le {s : Op × Bool} {l : List (List UInt8)} (h : endE s = .ok l) : l.length ≤ 40 ∧ ∀ x ∈ l, x.length ≤ 120 := by
  unfold endE at h
  split at h
  · cases h; simp
  · split at h
    · cases h
    · split at h
      · cases h
      · rename_i h1 h2 h3
        cases h
        refine ⟨by simp; omega, fun x hx => ?_⟩
        rw [Bool.not_eq_true, List.any_eq_false] at h3
        have := h3 x hx
        unfold bigE at this
        simpa using this
theorem word_le {V : ByteArray → List ByteArray} {O : List Ot} {w : List Pb} {l : List (List UInt8)} (h : wordE V O w = .ok l) : l.length ≤ 40 ∧ ∀ x ∈ l, x.length ≤ 120 := by
  unfold wordE at h
  split at h
  · cases h
  · exact end_le h
theorem pc_num {V : ByteArray → List ByteArray} {O : List Ot} {p : Pb} {e : Nat} (h : pcE V O p = .error e) : e = 2 ∨ e = 8 ∨ e = 17 := by
  unfold pcE at h
  split at h
  · cases h
  · split at h
    · cases h
    · split at h
      · split at h
        · cases h; exact .inl rfl
        · cases h
      · split at h
        · split at h
          · cases h; exact .inr (.inl rfl)
          · cases h
        · cases h; exact .inr (.inr rfl)
theorem fldS_le : ∀ (l W : List UInt8) (O : List (List UInt8)) (n : Nat), W.length + l.length ≤ n → (∀ x ∈ O, x.length ≤ n) → ∀ x ∈ flushQ (l.foldl fldS (W, O)), x.length ≤ n
  | [], W, O, n, h1, h2, x, hx => by
    unfold flushQ at hx
    cases W with
    | nil => exact h2 x (by simpa using hx)
    | cons a W =>
      simp at hx h1
      rcases hx with hx | rfl
      · exact h2 x hx
      · simp; omega
  | b :: l, W, O, n, h1, h2, x, hx => by
    rw [List.foldl_cons] at hx
    simp only [List.length_cons] at h1
    cases hb : blkQ b with
    | false =>
      rw [show fldS (W, O) b = (W ++ [b], O) by unfold fldS; simp [hb]] at hx
      exact fldS_le l _ _ n (by simp; omega) h2 x hx
    | true =>
      cases W with
      | nil =>
        rw [show fldS ([], O) b = ([], O) by unfold fldS; simp [hb]] at hx
        exact fldS_le l _ _ n (by simp at h1 ⊢; omega) h2 x hx
      | cons a W =>
        rw [show fldS (a :: W, O) b = ([], O ++ [a :: W]) by unfold fldS; simp [hb]] at hx
        refine fldS_le l _ _ n (by simp at h1 ⊢; omega) (fun y hy => ?_) x hx
        rw [List.mem_append, List.mem_singleton] at hy
        rcases hy with hy | rfl
        · exact h2 y hy
        · omega
theorem fldQ_le (l : List UInt8) : ∀ x ∈ fldQ l, x.length ≤ l.length := fldS_le l [] [] l.length (by simp) (by simp)
theorem wdS_num {V : ByteArray → List ByteArray} {O : List Ot} : ∀ (w : List Pb) (s : Op × Bool) {e : Nat}, w.foldl (stE V O) (.ok s) = .error e → e = 2 ∨ e = 8 ∨ e = 17
  | [], s, e, h => by cases h
  | p :: w, s, e, h => by
    rw [List.foldl_cons] at h
    unfold stE at h
    cases hp : pcE V O p with
    | error k =>
      simp only [hp] at h
      have := st_err V O k w
      unfold stE at this
      rw [this] at h
      cases h
      exact pc_num hp
    | ok l =>
      simp only [hp] at h
      exact wdS_num w _ h
theorem wordE_num {V : ByteArray → List ByteArray} {O : List Ot} {w : List Pb} {e : Nat} (h : wordE V O w = .error e) : e = 2 ∨ e = 8 ∨ e = 10 ∨ e = 17 := by
  unfold wordE at h
  cases hw : wdS V O w with
  | error k =>
    rw [hw] at h; cases h
    unfold wdS at hw
    have := wdS_num w _ hw
    omega
  | ok s =>
    rw [hw] at h
    simp only at h
    unfold endE at h
    split at h
    · cases h
    · split at h
      · cases h; omega
      · split at h
        · cases h; omega
        · cases h
theorem fldS_len : ∀ (l W : List UInt8) (O : List (List UInt8)), (flushQ (l.foldl fldS (W, O))).length ≤ O.length + l.length + 1
  | [], W, O => by unfold flushQ; cases W <;> simp
  | b :: l, W, O => by
    rw [List.foldl_cons]
    cases hb : blkQ b with
    | false =>
      rw [show fldS (W, O) b = (W ++ [b], O) by unfold fldS; simp [hb]]
      have := fldS_len l (W ++ [b]) O
      simp; omega
    | true =>
      cases W with
      | nil =>
        rw [show fldS ([], O) b = ([], O) by unfold fldS; simp [hb]]
        have := fldS_len l [] O
        simp; omega
      | cons a W =>
        rw [show fldS (a :: W, O) b = ([], O ++ [a :: W]) by unfold fldS; simp [hb]]
        have := fldS_len l [] (O ++ [a :: W])
        simp at this ⊢; omega
/-- a piece's words are not too many, none too long -/
theorem pc_le {V : ByteArray → List ByteArray} {O : List Ot} {p : Pb} {L : List (List UInt8)} (hV : (V p.t).length ≤ 60 ∧ ∀ t ∈ V p.t, t.size ≤ 200) (hO : ∀ x ∈ O, x.t.size ≤ 5000) (ht : p.t.size ≤ 5000) (h : pcE V O p = .ok L) : L.length ≤ 5001 ∧ ∀ x ∈ L, x.length ≤ 5000 := by
  unfold pcE at h
  split at h
  · cases h
    refine ⟨by simp, fun x hx => ?_⟩
    rw [List.mem_singleton] at hx
    subst hx; simpa using ht
  · split at h
    · cases h
      refine ⟨by simp; omega, fun x hx => ?_⟩
      obtain ⟨t, ht, rfl⟩ := List.mem_map.1 hx
      have := hV.2 t ht
      simp; omega
    · split at h
      · split at h
        · cases h
        · rename_i ho
          cases h
          refine ⟨by simp [putT]; omega, fun x hx => ?_⟩
          obtain ⟨t, ht, rfl⟩ := List.mem_map.1 hx
          obtain ⟨u, hu, rfl⟩ := List.mem_map.1 ht
          rw [Bool.not_eq_true, List.any_eq_false] at ho
          have := ho u hu
          unfold ovrB at this
          rw [putB_st]
          simp at this
          omega
      · split at h
        · cases hf : fndO O p.t with
          | none => rw [hf] at h; cases h
          | some s =>
            rw [hf] at h
            cases h
            have hs : s.size ≤ 5000 := by
              unfold fndO at hf
              rw [Option.map_eq_some_iff] at hf
              obtain ⟨x, hx, rfl⟩ := hf
              exact hO x (List.mem_of_find?_eq_some hx)
            have h1 := fldS_len s.data.toList [] []
            refine ⟨by unfold fldQ; simp at h1 ⊢; omega, fun x hx => ?_⟩
            have := fldQ_le _ x hx
            simp at this; omega
        · cases h
end Go.Proofs.YtcmfmfkpmgoieaaGreatDoor

namespace Go.Proofs.YtcmfmfkpmgoieaaGreatDoor

theorem tw_le {p : UInt8 → Bool} (l : List UInt8) : (l.takeWhile p).length ≤ l.length := (List.takeWhile_sublist p).length_le
theorem two_ge : ∀ l : List UInt8, l.length ≤ (twoQ l).length
  | [] => Nat.zero_le _
  | b :: l => by
    have := two_ge l
    unfold twoQ at this ⊢
    rw [List.flatMap_cons, List.length_append, List.length_cons]
    by_cases hb : b = 39
    · rw [if_pos hb, List.length_cons, List.length_cons]; omega
    · rw [if_neg hb, List.length_cons]; omega
theorem on_sz {l : List UInt8} {x : Pq × List UInt8} (h : onQ l = .ok x) : x.1.t.length ≤ l.length ∧ x.1.f.length ≤ l.length ∧ x.1.o.length ≤ l.length := by
  cases l with
  | nil => cases h
  | cons b r =>
    rw [onQ] at h
    split at h
    · cases hq : qtQ r with
      | none => rw [hq] at h; cases h
      | some y =>
        rw [hq] at h
        cases h
        obtain ⟨t, r'⟩ := y
        have h1 := qt_len hq
        have h2 := two_ge t
        simp; omega
    · split at h
      · unfold bkQ at h
        cases h1 : eatQ 123 r with
        | none => rw [h1] at h; cases h
        | some r2 =>
          rw [h1] at h
          simp only at h
          cases h2 : eatQ 125 (r2.dropWhile bckQ) with
          | none => rw [h2] at h; cases h
          | some r3 =>
            rw [h2] at h
            cases h
            have := eat_len h1
            have := tw_le (p := bckQ) r2
            simp; omega
      · split at h
        · unfold dlQ at h
          cases h1 : eatQ 123 r with
          | none =>
            rw [h1] at h
            simp only at h
            split at h
            · cases h
              have := tw_le (p := ltrQ) r
              simp; omega
            · cases h
          | some r2 =>
            rw [h1] at h
            simp only at h
            have e1 := eat_len h1
            have e2 := tw_le (p := ltrQ) r2
            have e3 := dw_le (p := ltrQ) r2
            split at h
            · unfold crQ at h
              cases h2 : eatQ 58 (r2.dropWhile ltrQ) with
              | none =>
                rw [h2] at h
                simp only at h
                cases h3 : eatQ 125 (r2.dropWhile ltrQ) with
                | none => rw [h3] at h; cases h
                | some r3 => rw [h3] at h; cases h; simp; omega
              | some r3 =>
                rw [h2] at h
                simp only at h
                have e4 := eat_len h2
                have e5 := tw_le (p := patQ) r3
                have e6 := dw_le (p := patQ) r3
                cases h3 : eatQ 61 (r3.dropWhile patQ) with
                | none => rw [h3] at h; cases h
                | some r5 =>
                  rw [h3] at h
                  simp only at h
                  have e7 := eat_len h3
                  have e8 := tw_le (p := patQ) r5
                  cases h4 : eatQ 125 (r5.dropWhile patQ) with
                  | none => rw [h4] at h; cases h
                  | some r6 => rw [h4] at h; cases h; simp; omega
            · cases h
        · cases h
          have := tw_le (p := plcQ) (b :: r)
          simp at this ⊢; omega
/-- a word's pieces: not too many, none too long -/
def GrW (N : Nat) (w : List Pq) : Prop := w.length ≤ N ∧ ∀ p ∈ w, p.t.length ≤ N ∧ p.f.length ≤ N ∧ p.o.length ≤ N
theorem flW_gr {N : Nat} {W : List Pq} {O : List (List Pq)} (hW : GrW N W) (hO : ∀ w ∈ O, GrW N w) : ∀ w ∈ flW W O, GrW N w := by
  unfold flW
  split
  · exact hO
  · intro w hw
    rw [List.mem_append, List.mem_singleton] at hw
    rcases hw with hw | rfl
    · exact hO w hw
    · exact hW
theorem flW_len (W : List Pq) (O : List (List Pq)) : (flW W O).length = O.length + if W.isEmpty then 0 else 1 := by
  unfold flW
  split <;> simp
theorem wd_gr (N : Nat) : ∀ (n : Nat) (l : List UInt8) (W : List Pq) (O L : List (List Pq)), l.length ≤ n → wdQ W O l = .ok L → l.length + W.length ≤ N → O.length + (if W.isEmpty then 0 else 1) + l.length ≤ N → GrW N W → (∀ w ∈ O, GrW N w) →
    L.length ≤ N ∧ ∀ w ∈ L, GrW N w := by
  intro n
  induction n with
  | zero =>
    intro l W O L hl h h1 h2 hW hO
    have : l = [] := List.length_eq_zero_iff.1 (by omega)
    subst this
    rw [wdQ] at h
    cases h
    exact ⟨by rw [flW_len]; simpa using h2, flW_gr hW hO⟩
  | succ n ih =>
    intro l W O L hl h h1 h2 hW hO
    cases l with
    | nil =>
      rw [wdQ] at h
      cases h
      exact ⟨by rw [flW_len]; simpa using h2, flW_gr hW hO⟩
    | cons b r =>
      rw [wdQ] at h
      simp only [List.length_cons] at hl h1 h2
      split at h
      · exact ih r [] _ L (by omega) h (by simp; omega) (by rw [flW_len, show ([] : List Pq).isEmpty = true from rfl]; simp only [if_true]; omega) ⟨Nat.zero_le _, by simp⟩ (flW_gr hW hO)
      · cases hq : onQ (b :: r) with
        | error e => rw [hq] at h; cases h
        | ok x =>
          rw [hq] at h
          simp only at h
          split at h
          · rename_i hlt
            have hs := on_sz hq
            simp only [List.length_cons] at hs
            refine ih x.2 (W ++ [x.1]) O L (by omega) h (by simp; omega) ?_ ⟨by simp; omega, fun p hp => ?_⟩ hO
            · have : (W ++ [x.1]).isEmpty = false := by cases W <;> rfl
              rw [this]
              simp only [Bool.false_eq_true, if_false]
              split at h2 <;> omega
            · rw [List.mem_append, List.mem_singleton] at hp
              rcases hp with hp | rfl
              · exact hW.2 p hp
              · exact ⟨by omega, by omega, by omega⟩
          · cases h
theorem wd_great {s : List UInt8} {L : List (List Pq)} (h : wdQ [] [] s = .ok L) : L.length ≤ s.length ∧ ∀ w ∈ L, GrW s.length w :=
  wd_gr s.length s.length s [] [] L (Nat.le_refl _) h (by simp) (by simp) ⟨Nat.zero_le _, by simp⟩ (by simp)

/-- a word of one Plain -/
def wd1 (f : List UInt8) : List Pq := [⟨0, f, [], []⟩]
/-- signs: quotes, backquotes, dollars -/
def sgnQ (b : UInt8) : Bool := b == 39 || b == 96 || b == 36
theorem plc_sgn {b : UInt8} (h : sgnQ b = false) : plcQ b = !blkQ b := by
  unfold sgnQ at h
  unfold plcQ
  simp only [Bool.or_eq_false_iff] at h
  rw [h.1.1, h.1.2, h.2]; simp
theorem on_plain {b : UInt8} {r : List UInt8} (h : sgnQ b = false) : onQ (b :: r) = .ok (⟨0, (b :: r).takeWhile plcQ, [], []⟩, (b :: r).dropWhile plcQ) := by
  have h2 := h
  unfold sgnQ at h
  simp only [Bool.or_eq_false_iff, beq_eq_false_iff_ne] at h
  rw [onQ, if_neg h.1.1, if_neg h.1.2, if_neg h.2]
theorem tw_blk {l : List UInt8} (h : l.any sgnQ = false) : l.takeWhile plcQ = l.takeWhile (fun b => !blkQ b) ∧ l.dropWhile plcQ = l.dropWhile (fun b => !blkQ b) := by
  induction l with
  | nil => exact ⟨rfl, rfl⟩
  | cons b l ih =>
    rw [List.any_cons, Bool.or_eq_false_iff] at h
    obtain ⟨i1, i2⟩ := ih h.2
    rw [List.takeWhile_cons, List.takeWhile_cons, List.dropWhile_cons, List.dropWhile_cons, plc_sgn h.1, i1, i2]
    exact ⟨rfl, rfl⟩
theorem any_drop {l : List UInt8} {p q : UInt8 → Bool} (h : l.any p = false) : (l.dropWhile q).any p = false := by
  rw [List.any_eq_false] at h ⊢
  exact fun x hx => h x (List.dropWhile_subset _ hx)
/-- the fields, from a place between words on -/
theorem fld_word : ∀ (w r W : List UInt8) (O : List (List UInt8)), w.all (fun b => !blkQ b) = true → (w ++ r).foldl fldS (W, O) = r.foldl fldS (W ++ w, O)
  | [], r, W, O, _ => by simp
  | b :: w, r, W, O, h => by
    rw [List.all_cons, Bool.and_eq_true] at h
    have hb : blkQ b = false := by simpa using h.1
    rw [List.cons_append, List.foldl_cons, show fldS (W, O) b = (W ++ [b], O) by unfold fldS; simp [hb], fld_word w r _ O h.2]
    simp
theorem wd_plain : ∀ (n : Nat) (l : List UInt8) (O : List (List UInt8)), l.length ≤ n → l.any sgnQ = false → wdQ [] (O.map wd1) l = .ok ((flushQ (l.foldl fldS ([], O))).map wd1) := by
  intro n
  induction n with
  | zero =>
    intro l O hl h
    have : l = [] := List.length_eq_zero_iff.1 (by omega)
    subst this
    rw [wdQ]; rfl
  | succ n ih =>
    intro l O hl h
    cases l with
    | nil => rw [wdQ]; rfl
    | cons b r =>
      have hs : sgnQ b = false ∧ r.any sgnQ = false := by rw [List.any_cons, Bool.or_eq_false_iff] at h; exact h
      cases hb : blkQ b with
      | true =>
        rw [wdQ, if_pos hb, List.foldl_cons, show fldS ([], O) b = ([], O) by unfold fldS; simp [hb]]
        exact ih r O (by simpa using hl) hs.2
      | false =>
        obtain ⟨t1, t2⟩ := tw_blk h
        have hp : (fun b => !blkQ b) b = true := by simp [hb]
        obtain ⟨w, hw⟩ : ∃ w, (b :: r).takeWhile (fun b => !blkQ b) = w := ⟨_, rfl⟩
        obtain ⟨d, hd⟩ : ∃ d, (b :: r).dropWhile (fun b => !blkQ b) = d := ⟨_, rfl⟩
        have hw0 : w = b :: r.takeWhile (fun b => !blkQ b) := by rw [← hw, List.takeWhile_cons, if_pos hp]
        have hdl : d.length ≤ r.length := by rw [← hd, List.dropWhile_cons, if_pos hp]; exact dw_le _
        have hcat : w ++ d = b :: r := by rw [← hw, ← hd]; exact List.takeWhile_append_dropWhile
        have hall : w.all (fun b => !blkQ b) = true := by rw [← hw]; exact tw_mem _
        have hdn : d.any sgnQ = false := by rw [← hd]; exact any_drop h
        have hdh : ∀ c, d.head? = some c → blkQ c = true := fun c hc => by
          rw [← hd] at hc
          simpa using dw_head hc
        rw [wdQ, if_neg (by simp [hb]), on_plain hs.1, t1, t2, hw, hd]
        simp only
        rw [if_pos (by omega), ← hcat, fld_word w d [] O hall, List.nil_append, List.nil_append]
        cases d with
        | nil =>
          rw [wdQ, List.foldl_nil]
          unfold flW flushQ
          rw [hw0]
          simp [wd1]
        | cons c d =>
          have hc := hdh c rfl
          rw [wdQ, if_pos hc, List.foldl_cons]
          have e1 : fldS (w, O) c = ([], O ++ [w]) := by unfold fldS; rw [hw0]; simp [hc]
          have e2 : flW [(⟨0, w, [], []⟩ : Pq)] (O.map wd1) = (O ++ [w]).map wd1 := by unfold flW; simp [wd1]
          rw [e1, e2]
          exact ih d (O ++ [w]) (by simp only [List.length_cons] at hl hdl; omega) (by rw [List.any_cons, Bool.or_eq_false_iff] at hdn; exact hdn.2)
theorem lex_plain {l : List UInt8} (h : l.any sgnQ = false) : wdQ [] [] l = .ok ((fldQ l).map wd1) := wd_plain l.length l [] (Nat.le_refl _) h
theorem fld_ne : ∀ (l W : List UInt8) (O : List (List UInt8)), (∀ x ∈ O, x ≠ []) → ∀ x ∈ flushQ (l.foldl fldS (W, O)), x ≠ []
  | [], W, O, h, x, hx => by
    unfold flushQ at hx
    cases W with
    | nil => exact h x (by simpa using hx)
    | cons a W =>
      simp at hx
      rcases hx with hx | rfl
      · exact h x hx
      · simp
  | b :: l, W, O, h, x, hx => by
    rw [List.foldl_cons] at hx
    cases hb : blkQ b with
    | false =>
      rw [show fldS (W, O) b = (W ++ [b], O) by unfold fldS; simp [hb]] at hx
      exact fld_ne l _ _ h x hx
    | true =>
      cases W with
      | nil =>
        rw [show fldS ([], O) b = ([], O) by unfold fldS; simp [hb]] at hx
        exact fld_ne l _ _ h x hx
      | cons a W =>
        rw [show fldS (a :: W, O) b = ([], O ++ [a :: W]) by unfold fldS; simp [hb]] at hx
        refine fld_ne l _ _ (fun y hy => ?_) x hx
        rw [List.mem_append, List.mem_singleton] at hy
        rcases hy with hy | rfl
        · exact h y hy
        · simp
/-- a word of one Plain gives that -/
theorem word_plain (V : ByteArray → List ByteArray) (O : List Ot) {p : Pb} (hp : p.k = 0) (h0 : p.t.data.toList ≠ []) (hl : p.t.size ≤ 120) : wordE V O [p] = .ok [p.t.data.toList] := by
  have h1 : wdS V O [p] = .ok ((([], p.t.data.toList)), false) := by
    unfold wdS
    rw [List.foldl_cons, List.foldl_nil]
    unfold stE
    rw [pcE_text (.inl hp)]
    simp [goD, stpS, hp]
  unfold wordE
  rw [h1]
  unfold endE
  have h2 : p.t.data.toList.isEmpty = false := by simpa using h0
  have h3 : bigE p.t.data.toList = false := by unfold bigE; simp; omega
  simp [h2, h3]
theorem all_plain (V : ByteArray → List ByteArray) (O : List Ot) : ∀ (L : List (List Pb)) (F : List (List UInt8)) (A : List (List UInt8)), pcLL L = F.map wd1 → (∀ f ∈ F, f ≠ [] ∧ f.length ≤ 120) → L.foldl (alE V O) (.ok A) = .ok (A ++ F)
  | [], F, A, h, _ => by
    cases F with
    | nil => simp
    | cons f F => simp [pcLL] at h
  | w :: L, F, A, h, hF => by
    cases F with
    | nil => simp [pcLL] at h
    | cons f F =>
      have h' : pcL w = wd1 f ∧ pcLL L = F.map wd1 := by
        have h2 : pcL w :: pcLL L = wd1 f :: F.map wd1 := h
        exact List.cons.inj h2
      have hw : ∃ p, w = [p] ∧ p.q = ⟨0, f, [], []⟩ := by
        have h3 := h'.1
        cases w with
        | nil => simp [pcL, wd1] at h3
        | cons p r =>
          cases r with
          | nil => exact ⟨p, rfl, by simpa [pcL, wd1] using h3⟩
          | cons p2 r => simp [pcL, wd1] at h3
      obtain ⟨p, rfl, hq⟩ := hw
      have hk : p.k = 0 := congrArg Pq.k hq
      have ht : p.t.data.toList = f := congrArg Pq.t hq
      have hf := hF f (by simp)
      have hsz : p.t.size ≤ 120 := by have : p.t.data.toList.length = p.t.size := by simp
                                      rw [ht] at this; omega
      rw [List.foldl_cons]
      have h5 : alE V O (.ok A) [p] = .ok (A ++ [f]) := by
        unfold alE
        simp only
        rw [word_plain V O hk (by rw [ht]; exact hf.1) hsz, ht]
      rw [h5, all_plain V O L F (A ++ [f]) h'.2 (fun g hg => hF g (by simp [hg]))]
      simp
/-- P17.2, plainly -/
theorem text_plain (V : ByteArray → List ByteArray) (O : List Ot) {s : List UInt8} (h : s.any sgnQ = false) {L : List (List Pq)} (hL : wdQ [] [] s = .ok L) {LB : List (List Pb)} (hB : pcLL LB = L) (h40 : (fldQ s).length ≤ 40) (h120 : ∀ f ∈ fldQ s, f.length ≤ 120) :
    wordsE V O LB = .ok (fldQ s) := by
  rw [lex_plain h] at hL
  cases hL
  have hne : ∀ f ∈ fldQ s, f ≠ [] := fld_ne s [] [] (by simp)
  have h1 := all_plain V O LB (fldQ s) [] hB (fun f hf => ⟨hne f hf, h120 f hf⟩)
  unfold wordsE allE
  rw [h1, List.nil_append]
  simp only
  rw [if_neg (by omega)]
end Go.Proofs.YtcmfmfkpmgoieaaGreatDoor

/- Words with quotes, plainly: which texts are plain, a text with quotes, the words of a text byte by byte with a state; what is joined is split as it was. -/
import Derived.KernelRfl
namespace Go.Proofs.YtiegbfbidecblaaDoor

/-- a blank; a byte that wants no quotes -/
def blkQ (b : UInt8) : Bool := b == 32 || b == 9 || b == 10
def badQ : List UInt8 := [39, 32, 9, 10, 35, 36, 96, 58, 61, 60, 92, 59, 38, 124, 40, 41, 123, 125, 91, 93, 42, 63, 94, 126]
def plnQ (b : UInt8) : Bool := !badQ.contains b
def plainQ (l : List UInt8) : Bool := !l.isEmpty && l.all plnQ
/-- each quote twice -/
def twoQ (l : List UInt8) : List UInt8 := l.flatMap fun b => if b = 39 then [39, 39] else [b]
def quoQ (l : List UInt8) : List UInt8 := if plainQ l then l else 39 :: (twoQ l ++ [39])
/-- quoted, with a blank between -/
def joinQ : List (List UInt8) → List UInt8
  | [] => []
  | [x] => quoQ x
  | x :: y :: l => quoQ x ++ 32 :: joinQ (y :: l)
/-- the words' state: 0 between words, 1 in a word, 2 in a quoted part, 3 behind a quote within one; the word so far; the words ahead of it -/
structure Sq where
  st : Nat
  w : List UInt8
  out : List (List UInt8)
/-- a byte that stands in no quoted part -/
def stpO (q : Sq) (b : UInt8) : Sq :=
  if blkQ b then (if q.st = 1 then ⟨0, [], q.out ++ [q.w]⟩ else ⟨0, q.w, q.out⟩)
  else if b = 39 then ⟨2, q.w, q.out⟩ else ⟨1, q.w ++ [b], q.out⟩
def stpQ (q : Sq) (b : UInt8) : Sq :=
  if q.st = 3 then (if b = 39 then ⟨2, q.w ++ [39], q.out⟩ else stpO ⟨1, q.w, q.out⟩ b)
  else if q.st = 2 then (if b = 39 then ⟨3, q.w, q.out⟩ else ⟨2, q.w ++ [b], q.out⟩)
  else stpO q b
def runQ (q : Sq) (l : List UInt8) : Sq := l.foldl stpQ q
def endQ (q : Sq) : Option (List (List UInt8)) := if q.st = 2 then none else if q.st = 0 then some q.out else some (q.out ++ [q.w])
/-- the words of a text -/
def splQ (l : List UInt8) : Option (List (List UInt8)) := endQ (runQ ⟨0, [], []⟩ l)
theorem runQ_app (q : Sq) (l r : List UInt8) : runQ q (l ++ r) = runQ (runQ q l) r := List.foldl_append ..
theorem runQ_cons (q : Sq) (b : UInt8) (l : List UInt8) : runQ q (b :: l) = runQ (stpQ q b) l := rfl
theorem runQ_nil (q : Sq) : runQ q [] = q := rfl
theorem pln_no {b : UInt8} (h : plnQ b = true) : blkQ b = false ∧ b ≠ 39 := by
  have h1 : ∀ c ∈ badQ, b ≠ c := fun c hc e => by
    subst e
    unfold plnQ at h
    simp at h
    exact h hc
  refine ⟨?_, h1 39 (by decide)⟩
  unfold blkQ
  have a := h1 32 (by decide); have c := h1 9 (by decide); have d := h1 10 (by decide)
  simp [a, c, d]
theorem run_plain : ∀ (l w : List UInt8) (out : List (List UInt8)) (st : Nat), (st = 0 ∨ st = 1) → l.all plnQ = true → l ≠ [] → runQ ⟨st, w, out⟩ l = ⟨1, w ++ l, out⟩
  | [], _, _, _, _, _, h => absurd rfl h
  | b :: l, w, out, st, hs, h, _ => by
    rw [List.all_cons, Bool.and_eq_true] at h
    obtain ⟨h1, h2⟩ := pln_no h.1
    have e : stpQ ⟨st, w, out⟩ b = ⟨1, w ++ [b], out⟩ := by
      unfold stpQ stpO
      rw [if_neg (by show ¬st = 3; omega), if_neg (by show ¬st = 2; omega), if_neg (by simp [h1]), if_neg h2]
    rw [runQ_cons, e]
    cases l with
    | nil => rfl
    | cons c l => rw [run_plain (c :: l) (w ++ [b]) out 1 (.inr rfl) h.2 (by simp)]; simp
theorem run_two : ∀ (l w : List UInt8) (out : List (List UInt8)), runQ ⟨2, w, out⟩ (twoQ l) = ⟨2, w ++ l, out⟩
  | [], w, out => by simp [twoQ, runQ_nil]
  | b :: l, w, out => by
    have e : twoQ (b :: l) = (if b = 39 then [39, 39] else [b]) ++ twoQ l := rfl
    rw [e, runQ_app]
    have e2 : runQ ⟨2, w, out⟩ (if b = 39 then [39, 39] else [b]) = ⟨2, w ++ [b], out⟩ := by
      by_cases h : b = 39
      · subst h; rw [if_pos rfl]; simp [runQ_cons, runQ_nil, stpQ]
      · rw [if_neg h]; simp [runQ_cons, runQ_nil, stpQ, h]
    rw [e2, run_two l (w ++ [b]) out]; simp
theorem run_quo (l : List UInt8) (out : List (List UInt8)) : ∃ st, (st = 1 ∨ st = 3) ∧ runQ ⟨0, [], out⟩ (quoQ l) = ⟨st, l, out⟩ := by
  unfold quoQ
  by_cases h : plainQ l = true
  · rw [if_pos h]
    unfold plainQ at h
    rw [Bool.and_eq_true] at h
    exact ⟨1, .inl rfl, run_plain l [] out 0 (.inl rfl) h.2 (by simpa using h.1)⟩
  · rw [if_neg h]
    refine ⟨3, .inr rfl, ?_⟩
    have e : stpQ ⟨0, [], out⟩ 39 = ⟨2, [], out⟩ := by simp [stpQ, stpO, blkQ]
    rw [runQ_cons, e, runQ_app, run_two]
    simp [runQ_cons, runQ_nil, stpQ]
theorem run_join : ∀ (l : List (List UInt8)) (out : List (List UInt8)), endQ (runQ ⟨0, [], out⟩ (joinQ l)) = some (out ++ l)
  | [], out => by simp [joinQ, runQ_nil, endQ]
  | [x], out => by
    obtain ⟨st, hs, e⟩ := run_quo x out
    rw [joinQ, e]
    unfold endQ
    rw [if_neg (by show ¬st = 2; omega), if_neg (by show ¬st = 0; omega)]
  | x :: y :: l, out => by
    obtain ⟨st, hs, e⟩ := run_quo x out
    rw [joinQ, runQ_app, e, runQ_cons]
    have e2 : stpQ ⟨st, x, out⟩ 32 = ⟨0, [], out ++ [x]⟩ := by
      rcases hs with rfl | rfl <;> simp [stpQ, stpO, blkQ]
    rw [e2, run_join (y :: l) (out ++ [x])]; simp
/-- what is joined is split as it was -/
theorem split_join (l : List (List UInt8)) : splQ (joinQ l) = some l := by unfold splQ; rw [run_join]; simp
/-- the parts between blanks: the part so far, the parts ahead of it -/
def fldS (q : List UInt8 × List (List UInt8)) (b : UInt8) : List UInt8 × List (List UInt8) :=
  if blkQ b then (if q.1.isEmpty then q else ([], q.2 ++ [q.1])) else (q.1 ++ [b], q.2)
def flushQ (q : List UInt8 × List (List UInt8)) : List (List UInt8) := if q.1.isEmpty then q.2 else q.2 ++ [q.1]
def fldQ (l : List UInt8) : List (List UInt8) := flushQ (l.foldl fldS ([], []))
/-- behind which place a quoted part ends whose quote stands ahead of these bytes, the first of which is at i -/
def endF : List UInt8 → Nat → Option Nat
  | [], _ => none
  | [b], i => if b = 39 then some (i + 1) else none
  | b :: c :: l, i => if b = 39 then (if c = 39 then endF l (i + 2) else some (i + 1)) else endF (c :: l) (i + 1)
def endAt (l : List UInt8) (k : Int) : Int :=
  if 0 ≤ k ∧ k < l.length ∧ l[k.toNat]? = some 39 then (match endF (l.drop (k.toNat + 1)) (k.toNat + 1) with | some e => e | none => -1) else -1
theorem fld_snoc (l : List UInt8) (b : UInt8) : (l ++ [b]).foldl fldS ([], []) = fldS (l.foldl fldS ([], [])) b := by rw [List.foldl_append]; rfl
theorem endF_le : ∀ (l : List UInt8) (i e : Nat), endF l i = some e → i < e ∧ e ≤ i + l.length
  | [], i, e, h => by simp [endF] at h
  | [b], i, e, h => by
    rw [endF] at h
    split at h
    · cases h; simp
    · cases h
  | b :: c :: l, i, e, h => by
    rw [endF] at h
    split at h
    · split at h
      · have := endF_le l (i + 2) e h; simp; omega
      · cases h; simp
    · have := endF_le (c :: l) (i + 1) e h; simp at this ⊢; omega
/-- a word is no longer than its text; there are no more words than bytes, and one more -/
theorem runQ_size : ∀ (l : List UInt8) (q : Sq), (runQ q l).w.length ≤ q.w.length + l.length ∧ (runQ q l).out.length ≤ q.out.length + l.length
  | [], q => by simp [runQ_nil]
  | b :: l, q => by
    rw [runQ_cons]
    have h := runQ_size l (stpQ q b)
    have h2 : (stpQ q b).w.length ≤ q.w.length + 1 ∧ (stpQ q b).out.length ≤ q.out.length + 1 := by
      unfold stpQ stpO
      repeat' split
      all_goals simp
    simp; omega
end Go.Proofs.YtiegbfbidecblaaDoor

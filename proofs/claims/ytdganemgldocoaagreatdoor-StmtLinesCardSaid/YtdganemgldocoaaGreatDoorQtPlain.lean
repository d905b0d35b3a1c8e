/- Words with quotes, plainly: which texts are plain, a text with quotes, the words of a text byte by byte with a state; what is joined is split as it was. Words with quotes, plainly, as the program goes through them: what ReplaceAll makes of quotes; a word's parts one behind the other; the parts between blanks one behind the other. -/
import Derived.KernelRfl
import Derived.Lib.Replace
namespace Go.Proofs.YtdganemgldocoaaGreatDoor

/-- a blank; a byte that wants no quotes -/
def blkQ (b : UInt8) : Bool := b == 32 || b == 9 || b == 10
def badQ : List UInt8 := [39, 32, 9, 10, 35, 36, 96, 58, 61, 60, 92, 59, 38, 124, 40, 41, 123, 125, 91, 93, 42, 63, 94, 126]
def plnQ (b : UInt8) : Bool := !badQ.contains b
def plainQ (l : List UInt8) : Bool := !l.isEmpty && l.all plnQ
/-- each quote twice -/
def twoQ (l : List UInt8) : List UInt8 := l.flatMap fun b => if b = 39 then [39, 39] else [b]
def quoQ (l : List UInt8) : List UInt8 := if plainQ l then l else 39 :: (twoQ l ++ [39])
/-- quoted, with a blank between -/
def joinQ : List (List UInt8) → List UInt8
  | [] => []
  | [x] => quoQ x
  | x :: y :: l => quoQ x ++ 32 :: joinQ (y :: l)
/-- the words' state: 0 between words, 1 in a word, 2 in a quoted part, 3 behind a quote within one; the word so far; the words ahead of it -/
structure Sq where
  st : Nat
  w : List UInt8
  out : List (List UInt8)
/-- a byte that stands in no quoted part -/
def stpO (q : Sq) (b : UInt8) : Sq :=
  if blkQ b then (if q.st = 1 then ⟨0, [], q.out ++ [q.w]⟩ else ⟨0, q.w, q.out⟩)
  else if b = 39 then ⟨2, q.w, q.out⟩ else ⟨1, q.w ++ [b], q.out⟩
def stpQ (q : Sq) (b : UInt8) : Sq :=
  if q.st = 3 then (if b = 39 then ⟨2, q.w ++ [39], q.out⟩ else stpO ⟨1, q.w, q.out⟩ b)
  else if q.st = 2 then (if b = 39 then ⟨3, q.w, q.out⟩ else ⟨2, q.w ++ [b], q.out⟩)
  else stpO q b
def runQ (q : Sq) (l : List UInt8) : Sq := l.foldl stpQ q
def endQ (q : Sq) : Option (List (List UInt8)) := if q.st = 2 then none else if q.st = 0 then some q.out else some (q.out ++ [q.w])
/-- the words of a text -/
def splQ (l : List UInt8) : Option (List (List UInt8)) := endQ (runQ ⟨0, [], []⟩ l)
theorem runQ_app (q : Sq) (l r : List UInt8) : runQ q (l ++ r) = runQ (runQ q l) r := List.foldl_append ..
theorem runQ_cons (q : Sq) (b : UInt8) (l : List UInt8) : runQ q (b :: l) = runQ (stpQ q b) l := rfl
theorem runQ_nil (q : Sq) : runQ q [] = q := rfl
theorem pln_no {b : UInt8} (h : plnQ b = true) : blkQ b = false ∧ b ≠ 39 := by
  have h1 : ∀ c ∈ badQ, b ≠ c := fun c hc e => by
    subst e
    unfold plnQ at h
    simp at h
    exact h hc
  refine ⟨?_, h1 39 (by decide)⟩
  unfold blkQ
  have a := h1 32 (by decide); have c := h1 9 (by decide); have d := h1 10 (by decide)
  simp [a, c, d]
theorem run_plain : ∀ (l w : List UInt8) (out : List (List UInt8)) (st : Nat), (st = 0 ∨ st = 1) → l.all plnQ = true → l ≠ [] → runQ ⟨st, w, out⟩ l = ⟨1, w ++ l, out⟩
  | [], _, _, _, _, _, h => absurd rfl h
  | b :: l, w, out, st, hs, h, _ => by
    rw [List.all_cons, Bool.and_eq_true] at h
    obtain ⟨h1, h2⟩ := pln_no h.1
    have e : stpQ ⟨st, w, out⟩ b = ⟨1, w ++ [b], out⟩ := by
      unfold stpQ stpO
      rw [if_neg (by show ¬st = 3; omega), if_neg (by show ¬st = 2; omega), if_neg (by simp [h1]), if_neg h2]
    rw [runQ_cons, e]
    cases l with
    | nil => rfl
    | cons c l => rw [run_plain (c :: l) (w ++ [b]) out 1 (.inr rfl) h.2 (by simp)]; simp
theorem run_two : ∀ (l w : List UInt8) (out : List (List UInt8)), runQ ⟨2, w, out⟩ (twoQ l) = ⟨2, w ++ l, out⟩
  | [], w, out => by simp [twoQ, runQ_nil]
  | b :: l, w, out => by
    have e : twoQ (b :: l) = (if b = 39 then [39, 39] else [b]) ++ twoQ l := rfl
    rw [e, runQ_app]
    have e2 : runQ ⟨2, w, out⟩ (if b = 39 then [39, 39] else [b]) = ⟨2, w ++ [b], out⟩ := by
      by_cases h : b = 39
      · subst h; rw [if_pos rfl]; simp [runQ_cons, runQ_nil, stpQ]
      · rw [if_neg h]; simp [runQ_cons, runQ_nil, stpQ, h]
    rw [e2, run_two l (w ++ [b]) out]; simp
theorem run_quo (l : List UInt8) (out : List (List UInt8)) : ∃ st, (st = 1 ∨ st = 3) ∧ runQ ⟨0, [], out⟩ (quoQ l) = ⟨st, l, out⟩ := by
  unfold quoQ
  by_cases h : plainQ l = true
  · rw [if_pos h]
    unfold plainQ at h
    rw [Bool.and_eq_true] at h
    exact ⟨1, .inl rfl, run_plain l [] out 0 (.inl rfl) h.2 (by simpa using h.1)⟩
  · rw [if_neg h]
    refine ⟨3, .inr rfl, ?_⟩
    have e : stpQ ⟨0, [], out⟩ 39 = ⟨2, [], out⟩ := by simp [stpQ, stpO, blkQ]
    rw [runQ_cons, e, runQ_app, run_two]
    simp [runQ_cons, runQ_nil, stpQ]
theorem run_join : ∀ (l : List (List UInt8)) (out : List (List UInt8)), endQ (runQ ⟨0, [], out⟩ (joinQ l)) = some (out ++ l)
  | [], out => by simp [joinQ, runQ_nil, endQ]
  | [x], out => by
    obtain ⟨st, hs, e⟩ := run_quo x out
    rw [joinQ, e]
    unfold endQ
    rw [if_neg (by show ¬st = 2; omega), if_neg (by show ¬st = 0; omega)]
  | x :: y :: l, out => by
    obtain ⟨st, hs, e⟩ := run_quo x out
    rw [joinQ, runQ_app, e, runQ_cons]
    have e2 : stpQ ⟨st, x, out⟩ 32 = ⟨0, [], out ++ [x]⟩ := by
      rcases hs with rfl | rfl <;> simp [stpQ, stpO, blkQ]
    rw [e2, run_join (y :: l) (out ++ [x])]; simp
/-- what is joined is split as it was -/
theorem split_join (l : List (List UInt8)) : splQ (joinQ l) = some l := by unfold splQ; rw [run_join]; simp
/-- the parts between blanks: the part so far, the parts ahead of it -/
def fldS (q : List UInt8 × List (List UInt8)) (b : UInt8) : List UInt8 × List (List UInt8) :=
  if blkQ b then (if q.1.isEmpty then q else ([], q.2 ++ [q.1])) else (q.1 ++ [b], q.2)
def flushQ (q : List UInt8 × List (List UInt8)) : List (List UInt8) := if q.1.isEmpty then q.2 else q.2 ++ [q.1]
def fldQ (l : List UInt8) : List (List UInt8) := flushQ (l.foldl fldS ([], []))
/-- behind which place a quoted part ends whose quote stands ahead of these bytes, the first of which is at i -/
def endF : List UInt8 → Nat → Option Nat
  | [], _ => none
  | [b], i => if b = 39 then some (i + 1) else none
  | b :: c :: l, i => if b = 39 then (if c = 39 then endF l (i + 2) else some (i + 1)) else endF (c :: l) (i + 1)
def endAt (l : List UInt8) (k : Int) : Int :=
  if 0 ≤ k ∧ k < l.length ∧ l[k.toNat]? = some 39 then (match endF (l.drop (k.toNat + 1)) (k.toNat + 1) with | some e => e | none => -1) else -1
theorem fld_snoc (l : List UInt8) (b : UInt8) : (l ++ [b]).foldl fldS ([], []) = fldS (l.foldl fldS ([], [])) b := by rw [List.foldl_append]; rfl
theorem endF_le : ∀ (l : List UInt8) (i e : Nat), endF l i = some e → i < e ∧ e ≤ i + l.length
  | [], i, e, h => by simp [endF] at h
  | [b], i, e, h => by
    rw [endF] at h
    split at h
    · cases h; simp
    · cases h
  | b :: c :: l, i, e, h => by
    rw [endF] at h
    split at h
    · split at h
      · have := endF_le l (i + 2) e h; simp; omega
      · cases h; simp
    · have := endF_le (c :: l) (i + 1) e h; simp at this ⊢; omega
/-- a word is no longer than its text; there are no more words than bytes, and one more -/
theorem runQ_size : ∀ (l : List UInt8) (q : Sq), (runQ q l).w.length ≤ q.w.length + l.length ∧ (runQ q l).out.length ≤ q.out.length + l.length
  | [], q => by simp [runQ_nil]
  | b :: l, q => by
    rw [runQ_cons]
    have h := runQ_size l (stpQ q b)
    have h2 : (stpQ q b).w.length ≤ q.w.length + 1 ∧ (stpQ q b).out.length ≤ q.out.length + 1 := by
      unfold stpQ stpO
      repeat' split
      all_goals simp
    simp; omega
end Go.Proofs.YtdganemgldocoaaGreatDoor

namespace Go.Proofs.YtdganemgldocoaaGreatDoor

/-- all instances replaced, as the library does it -/
theorem rep_all {old new : List UInt8} (h : old ≠ new) (s : List UInt8) : Lib.replaceAll s old new = Lib.replaceK old new (Lib.count s old) s := by
  unfold Lib.replaceAll Lib.replace
  rw [if_neg (by simpa using h)]
  unfold Lib.replaceNum
  rw [if_pos (.inl (by decide))]
theorem rep_nil {old new : List UInt8} (ho : old ≠ []) : Lib.replaceK old new (Lib.count [] old) [] = [] := by
  have : Lib.index [] old = -1 := by
    cases old with
    | nil => exact absurd rfl ho
    | cons a l => rfl
  rw [Lib.count_miss this]; rfl
theorem rep_hit {old new r : List UInt8} (ho : old ≠ []) : Lib.replaceK old new (Lib.count (old ++ r) old) (old ++ r) = new ++ Lib.replaceK old new (Lib.count r old) r := by
  have hi : Lib.index (old ++ r) old = ((0 : Nat) : Int) := by
    cases old with
    | nil => exact absurd rfl ho
    | cons a l =>
      rw [List.cons_append, Lib.index, if_pos (by simp)]; rfl
  rw [Lib.count_hit ho hi, Nat.add_comm, Lib.replaceK_hit _ _ _ _ 0 hi]
  simp
theorem rep_skip {old new l : List UInt8} {b : UInt8} (ho : old ≠ []) (h : old.isPrefixOf (b :: l) = false) : Lib.replaceK old new (Lib.count (b :: l) old) (b :: l) = b :: Lib.replaceK old new (Lib.count l old) l := by
  have hix : Lib.index (b :: l) old = if Lib.index l old == -1 then -1 else Lib.index l old + 1 := by rw [Lib.index, h]; simp
  by_cases hm : Lib.index l old = -1
  · rw [Lib.count_miss hm, Lib.count_miss (by rw [hix, if_pos (beq_iff_eq.2 hm)])]; rfl
  · have hge := Lib.index_ge l old
    obtain ⟨j, hj⟩ : ∃ j : Nat, Lib.index l old = j := ⟨(Lib.index l old).toNat, by omega⟩
    have hix' : Lib.index (b :: l) old = ((j + 1 : Nat) : Int) := by rw [hix, if_neg (fun e => hm (beq_iff_eq.1 e)), hj]; omega
    have e : (b :: l).drop (j + 1 + old.length) = l.drop (j + old.length) := by rw [show j + 1 + old.length = (j + old.length) + 1 by omega, List.drop_succ_cons]
    rw [Lib.count_hit ho hj, Lib.count_hit ho hix', e, Nat.add_comm 1, Lib.replaceK_hit _ _ _ _ j hj, Lib.replaceK_hit _ _ _ _ (j + 1) hix', e]
    simp
/-- each quote twice -/
theorem rep_two (s : List UInt8) : Lib.replaceAll s [39] [39, 39] = twoQ s := by
  rw [rep_all (by decide)]
  induction s with
  | nil => rw [rep_nil (by decide)]; rfl
  | cons b l ih =>
    have e : twoQ (b :: l) = (if b = 39 then [39, 39] else [b]) ++ twoQ l := rfl
    by_cases h : b = 39
    · subst h
      have := rep_hit (old := [39]) (new := [39, 39]) (r := l) (by decide)
      rw [List.singleton_append] at this
      rw [this, ih, e, if_pos rfl]
    · rw [rep_skip (by decide) (by simp [List.isPrefixOf, Ne.symm h]), ih, e, if_neg h]; rfl
/-- what two quotes stand for -/
def unQ (s : List UInt8) : List UInt8 := Lib.replaceAll s [39, 39] [39]
theorem unQ_nil : unQ [] = [] := by unfold unQ; rw [rep_all (by decide), rep_nil (by decide)]
theorem unQ_two (l : List UInt8) : unQ (39 :: 39 :: l) = 39 :: unQ l := by
  unfold unQ
  rw [rep_all (by decide), rep_all (by decide)]
  exact rep_hit (old := [39, 39]) (new := [39]) (r := l) (by decide)
theorem unQ_one {b : UInt8} (h : b ≠ 39) (l : List UInt8) : unQ (b :: l) = b :: unQ l := by
  unfold unQ
  rw [rep_all (by decide), rep_all (by decide)]
  exact rep_skip (by decide) (by simp [List.isPrefixOf, Ne.symm h])

/-- no byte behind, or another one than a quote -/
def offQ : List UInt8 → Bool
  | [] => true
  | b :: _ => b != 39
theorem run_three {r : List UInt8} (h : offQ r = true) (W : List UInt8) (O : List (List UInt8)) : endQ (runQ ⟨3, W, O⟩ r) = endQ (runQ ⟨1, W, O⟩ r) := by
  cases r with
  | nil => rfl
  | cons b r =>
    have hb : b ≠ 39 := by simpa [offQ] using h
    rw [runQ_cons, runQ_cons]
    congr 2
    unfold stpQ
    simp [hb]
/-- a quoted part that ends: the machine goes through it -/
theorem part_some : ∀ (l : List UInt8) (i e : Nat), endF l i = some e → ∀ (W : List UInt8) (O : List (List UInt8)),
    endQ (runQ ⟨2, W, O⟩ l) = endQ (runQ ⟨1, W ++ unQ (l.take (e - i - 1)), O⟩ (l.drop (e - i)))
  | [], i, e, h, W, O => by simp [endF] at h
  | [b], i, e, h, W, O => by
    rw [endF] at h
    split at h
    · rename_i hb
      cases h
      subst hb
      rw [show i + 1 - i - 1 = 0 by omega, show i + 1 - i = 1 by omega, List.take_zero, unQ_nil, List.append_nil]
      simp [runQ_cons, runQ_nil, stpQ, endQ]
    · cases h
  | b :: c :: l, i, e, h, W, O => by
    rw [endF] at h
    split at h
    · rename_i hb
      subst hb
      split at h
      · rename_i hc
        subst hc
        have hle := (endF_le l (i + 2) e h).1
        have ih := part_some l (i + 2) e h (W ++ [39]) O
        have e1 : runQ ⟨2, W, O⟩ (39 :: 39 :: l) = runQ ⟨2, W ++ [39], O⟩ l := by rw [runQ_cons, runQ_cons]; simp [stpQ]
        rw [e1, ih, show e - i - 1 = (e - (i + 2) - 1) + 2 by omega, show e - i = (e - (i + 2)) + 2 by omega, List.take_succ_cons, List.take_succ_cons, unQ_two, List.drop_succ_cons, List.drop_succ_cons]
        simp
      · rename_i hc
        cases h
        rw [show i + 1 - i - 1 = 0 by omega, show i + 1 - i = 1 by omega, List.take_zero, unQ_nil, List.append_nil, List.drop_succ_cons, List.drop_zero]
        have e1 : runQ ⟨2, W, O⟩ (39 :: c :: l) = runQ ⟨3, W, O⟩ (c :: l) := by rw [runQ_cons]; simp [stpQ]
        rw [e1]
        exact run_three (by simpa [offQ] using hc) W O
    · rename_i hb
      have hle := (endF_le (c :: l) (i + 1) e h).1
      have ih := part_some (c :: l) (i + 1) e h (W ++ [b]) O
      have e1 : runQ ⟨2, W, O⟩ (b :: c :: l) = runQ ⟨2, W ++ [b], O⟩ (c :: l) := by rw [runQ_cons]; simp [stpQ, hb]
      rw [e1, ih, show e - i - 1 = (e - (i + 1) - 1) + 1 by omega, show e - i = (e - (i + 1)) + 1 by omega, List.take_succ_cons, unQ_one hb, List.drop_succ_cons]
      simp
/-- one that has no end -/
theorem part_none : ∀ (l : List UInt8) (i : Nat), endF l i = none → ∀ (W : List UInt8) (O : List (List UInt8)), endQ (runQ ⟨2, W, O⟩ l) = none
  | [], i, _, W, O => by simp [runQ_nil, endQ]
  | [b], i, h, W, O => by
    rw [endF] at h
    split at h
    · cases h
    · rename_i hb
      simp [runQ_cons, runQ_nil, stpQ, hb, endQ]
  | b :: c :: l, i, h, W, O => by
    rw [endF] at h
    split at h
    · rename_i hb
      subst hb
      split at h
      · rename_i hc
        subst hc
        have e1 : runQ ⟨2, W, O⟩ (39 :: 39 :: l) = runQ ⟨2, W ++ [39], O⟩ l := by rw [runQ_cons, runQ_cons]; simp [stpQ]
        rw [e1]; exact part_none l (i + 2) h _ O
      · cases h
    · rename_i hb
      have e1 : runQ ⟨2, W, O⟩ (b :: c :: l) = runQ ⟨2, W ++ [b], O⟩ (c :: l) := by rw [runQ_cons]; simp [stpQ, hb]
      rw [e1]; exact part_none (c :: l) (i + 1) h _ O

/-- in a word: what the machine comes to from place k on, if W stands there and O ahead of it -/
def inQ (l W : List UInt8) (O : List (List UInt8)) (k : Nat) : Option (List (List UInt8)) := endQ (runQ ⟨1, W, O⟩ (l.drop k))
def outQ (l : List UInt8) (O : List (List UInt8)) (k : Nat) : Option (List (List UInt8)) := endQ (runQ ⟨0, [], O⟩ (l.drop k))
theorem drop_at {l : List UInt8} {k : Nat} {b : UInt8} (h : l[k]? = some b) : l.drop k = b :: l.drop (k + 1) := by
  obtain ⟨hk, rfl⟩ := List.getElem?_eq_some_iff.1 h
  exact List.drop_eq_getElem_cons hk
theorem in_start {l : List UInt8} {k : Nat} {b : UInt8} (h : l[k]? = some b) (hb : blkQ b = false) (O : List (List UInt8)) : outQ l O k = inQ l [] O k := by
  unfold outQ inQ
  rw [drop_at h, runQ_cons, runQ_cons]
  congr 2
  unfold stpQ stpO
  simp [hb]
theorem in_byte {l : List UInt8} {k : Nat} {b : UInt8} (h : l[k]? = some b) (hb : blkQ b = false) (h39 : b ≠ 39) (W : List UInt8) (O : List (List UInt8)) : inQ l W O k = inQ l (W ++ [b]) O (k + 1) := by
  unfold inQ
  rw [drop_at h, runQ_cons]
  congr 2
  unfold stpQ stpO
  simp [hb, h39]
theorem in_part {l : List UInt8} {k e : Nat} (h : l[k]? = some 39) (he : endF (l.drop (k + 1)) (k + 1) = some e) (W : List UInt8) (O : List (List UInt8)) : inQ l W O k = inQ l (W ++ unQ ((l.take (e - 1)).drop (k + 1))) O e := by
  have hle := endF_le _ _ _ he
  unfold inQ
  rw [drop_at h, runQ_cons]
  have e1 : stpQ ⟨1, W, O⟩ 39 = ⟨2, W, O⟩ := by simp [stpQ, stpO, blkQ]
  rw [e1, part_some _ _ _ he W O, List.drop_drop, show k + 1 + (e - (k + 1)) = e by omega, List.drop_take, show e - 1 - (k + 1) = e - (k + 1) - 1 by omega]
theorem in_none {l : List UInt8} {k : Nat} (h : l[k]? = some 39) (he : endF (l.drop (k + 1)) (k + 1) = none) (W : List UInt8) (O : List (List UInt8)) : inQ l W O k = none := by
  unfold inQ
  rw [drop_at h, runQ_cons]
  have e1 : stpQ ⟨1, W, O⟩ 39 = ⟨2, W, O⟩ := by simp [stpQ, stpO, blkQ]
  rw [e1]; exact part_none _ _ he W O
theorem in_blank {l : List UInt8} {k : Nat} {b : UInt8} (h : l[k]? = some b) (hb : blkQ b = true) (W : List UInt8) (O : List (List UInt8)) : inQ l W O k = outQ l (O ++ [W]) k := by
  unfold inQ outQ
  rw [drop_at h, runQ_cons, runQ_cons]
  congr 2
  unfold stpQ stpO
  simp [hb]
theorem in_end {l : List UInt8} {k : Nat} (h : l.length ≤ k) (W : List UInt8) (O : List (List UInt8)) : inQ l W O k = outQ l (O ++ [W]) k := by
  unfold inQ outQ
  rw [List.drop_of_length_le h, runQ_nil, runQ_nil]
  simp [endQ]
theorem out_blank {l : List UInt8} {k : Nat} {b : UInt8} (h : l[k]? = some b) (hb : blkQ b = true) (O : List (List UInt8)) : outQ l O k = outQ l O (k + 1) := by
  unfold outQ
  rw [drop_at h, runQ_cons]
  congr 2
  unfold stpQ stpO
  simp [hb]
theorem out_end {l : List UInt8} {k : Nat} (h : l.length ≤ k) (O : List (List UInt8)) : outQ l O k = some O := by
  unfold outQ
  rw [List.drop_of_length_le h, runQ_nil]
  simp [endQ]

/-- the first place from k on whose byte is no blank (t), or is one (not t) -/
def skpQ (t : Bool) (l : List UInt8) (k : Nat) : Nat := k + ((l.drop k).takeWhile fun b => blkQ b == t).length
theorem skp_on {t : Bool} {l : List UInt8} {k : Nat} {b : UInt8} (h : l[k]? = some b) (hb : blkQ b = t) : skpQ t l k = skpQ t l (k + 1) := by
  unfold skpQ
  rw [drop_at h, List.takeWhile_cons, if_pos (by simpa using hb), List.length_cons]; omega
theorem skp_off {t : Bool} {l : List UInt8} {k : Nat} {b : UInt8} (h : l[k]? = some b) (hb : blkQ b = !t) : skpQ t l k = k := by
  unfold skpQ
  rw [drop_at h, List.takeWhile_cons, if_neg (by rw [hb]; cases t <;> decide)]; rfl
theorem skp_end {t : Bool} {l : List UInt8} {k : Nat} (h : l.length ≤ k) : skpQ t l k = k := by
  unfold skpQ
  rw [List.drop_of_length_le h]; rfl
theorem skp_le {t : Bool} {l : List UInt8} {k : Nat} (h : k ≤ l.length) : k ≤ skpQ t l k ∧ skpQ t l k ≤ l.length := by
  have h1 := (List.takeWhile_prefix (l := l.drop k) (fun b => blkQ b == t)).length_le
  rw [List.length_drop] at h1
  unfold skpQ
  omega
/-- what holds at each place that is passed over holds up to the last -/
theorem skp_ind {t : Bool} {l : List UInt8} (P : Nat → Prop) (hs : ∀ k b, l[k]? = some b → blkQ b = t → P k → P (k + 1)) : ∀ (n k : Nat), l.length - k ≤ n → P k → P (skpQ t l k)
  | n, k, hn, h => by
    by_cases hk : k < l.length
    · obtain ⟨b, hb⟩ : ∃ b, l[k]? = some b := ⟨_, List.getElem?_eq_getElem hk⟩
      by_cases ht : blkQ b = t
      · cases n with
        | zero => omega
        | succ n =>
          rw [skp_on hb ht]
          exact skp_ind P hs n (k + 1) (by omega) (hs k b hb ht h)
      · rw [skp_off hb (by cases t <;> simpa using ht)]; exact h
    · rw [skp_end (by omega)]; exact h
theorem skp_stop {t : Bool} {l : List UInt8} {k : Nat} : ∀ n, l.length - k ≤ n → ∀ b, l[skpQ t l k]? = some b → blkQ b = !t := by
  intro n
  induction n generalizing k with
  | zero =>
    intro hn b hb
    rw [skp_end (by omega)] at hb
    have := (List.getElem?_eq_some_iff.1 hb).1
    omega
  | succ n ih =>
    intro hn b hb
    by_cases hk : k < l.length
    · obtain ⟨c, hc⟩ : ∃ c, l[k]? = some c := ⟨_, List.getElem?_eq_getElem hk⟩
      by_cases ht : blkQ c = t
      · rw [skp_on hc ht] at hb
        exact ih (k := k + 1) (by omega) b hb
      · have e : blkQ c = !t := by cases t <;> simpa using ht
        rw [skp_off hc e, hc] at hb
        cases hb
        exact e
    · rw [skp_end (by omega)] at hb
      have := (List.getElem?_eq_some_iff.1 hb).1
      omega
theorem out_skip {l : List UInt8} {k : Nat} (O : List (List UInt8)) : outQ l O (skpQ true l k) = outQ l O k :=
  skp_ind (fun j => outQ l O j = outQ l O k) (fun j b h hb e => by rw [← out_blank h hb]; exact e) _ k (Nat.le_refl _) rfl
theorem spl_out (l : List UInt8) : splQ l = outQ l [] 0 := rfl

/-- the parts between blanks, from place k on, if w is the part so far and O stands ahead -/
def fldA (l w : List UInt8) (O : List (List UInt8)) (k : Nat) : List (List UInt8) := flushQ ((l.drop k).foldl fldS (w, O))
theorem fldA_start (l : List UInt8) : fldQ l = fldA l [] [] 0 := rfl
theorem fldA_blank {l : List UInt8} {k : Nat} {b : UInt8} (h : l[k]? = some b) (hb : blkQ b = true) (O : List (List UInt8)) : fldA l [] O k = fldA l [] O (k + 1) := by
  unfold fldA
  rw [drop_at h, List.foldl_cons]
  unfold fldS
  simp [hb]
theorem fldA_byte {l : List UInt8} {k : Nat} {b : UInt8} (h : l[k]? = some b) (hb : blkQ b = false) (w : List UInt8) (O : List (List UInt8)) : fldA l w O k = fldA l (w ++ [b]) O (k + 1) := by
  unfold fldA
  rw [drop_at h, List.foldl_cons]
  congr 2
  unfold fldS
  simp [hb]
theorem fldA_cut {l w : List UInt8} {k : Nat} {b : UInt8} (h : l[k]? = some b) (hb : blkQ b = true) (hw : w ≠ []) (O : List (List UInt8)) : fldA l w O k = fldA l [] (O ++ [w]) k := by
  unfold fldA
  rw [drop_at h, List.foldl_cons, List.foldl_cons]
  congr 2
  unfold fldS
  simp [hb, hw]
theorem fldA_end {l w : List UInt8} {k : Nat} (h : l.length ≤ k) (hw : w ≠ []) (O : List (List UInt8)) : fldA l w O k = fldA l [] (O ++ [w]) k := by
  unfold fldA
  rw [List.drop_of_length_le h]
  unfold flushQ
  simp [hw]
theorem fldA_done {l : List UInt8} {k : Nat} (h : l.length ≤ k) (O : List (List UInt8)) : fldA l [] O k = O := by
  unfold fldA
  rw [List.drop_of_length_le h]
  simp [flushQ]
theorem fldA_skip {l : List UInt8} {k : Nat} (O : List (List UInt8)) : fldA l [] O (skpQ true l k) = fldA l [] O k :=
  skp_ind (fun j => fldA l [] O j = fldA l [] O k) (fun j b h hb e => by rw [← fldA_blank h hb]; exact e) _ k (Nat.le_refl _) rfl
/-- a part: from k to the first blank behind it -/
theorem fldA_part {l : List UInt8} {k : Nat} {b : UInt8} (h : l[k]? = some b) (hb : blkQ b = false) (O : List (List UInt8)) :
    k < skpQ false l k ∧ fldA l [] O k = fldA l [] (O ++ [(l.take (skpQ false l k)).drop k]) (skpQ false l k) := by
  have hk : k < l.length := (List.getElem?_eq_some_iff.1 h).1
  have h1 := skp_on (t := false) h hb
  have h2 := skp_le (t := false) (l := l) (k := k + 1) (by omega)
  have hgo : k < skpQ false l k := by omega
  refine ⟨hgo, ?_⟩
  have key := skp_ind (t := false) (l := l) (fun j => k ≤ j ∧ fldA l [] O k = fldA l ((l.take j).drop k) O j) (fun j c hc hb' hj => by
    refine ⟨by omega, ?_⟩
    rw [hj.2, fldA_byte hc hb']
    congr 1
    rw [List.take_add_one, hc, List.drop_append]
    have hj' : j < l.length := (List.getElem?_eq_some_iff.1 hc).1
    rw [List.length_take, show k - min j l.length = 0 by omega]; rfl) _ k (Nat.le_refl _) ⟨Nat.le_refl _, by
      rw [show (l.take k).drop k = [] from List.drop_of_length_le (by rw [List.length_take]; omega)]⟩
  obtain ⟨-, key⟩ := key
  rw [key]
  have hw : (l.take (skpQ false l k)).drop k ≠ [] := by
    intro e
    have := congrArg List.length e
    rw [List.length_drop, List.length_take, List.length_nil] at this
    omega
  by_cases hl : skpQ false l k < l.length
  · obtain ⟨c, hc⟩ : ∃ c, l[skpQ false l k]? = some c := ⟨_, List.getElem?_eq_getElem hl⟩
    exact fldA_cut hc (skp_stop _ (Nat.le_refl _) c hc) hw O
  · exact fldA_end (by omega) hw O
theorem two_len : ∀ l : List UInt8, (twoQ l).length ≤ 2 * l.length
  | [] => by simp [twoQ]
  | b :: l => by
    have := two_len l
    unfold twoQ at this ⊢
    rw [List.flatMap_cons, List.length_append, List.length_cons]
    have h1 : (if b = 39 then [39, 39] else [b] : List UInt8).length ≤ 2 := by split <;> simp
    omega
theorem quo_len (l : List UInt8) : (quoQ l).length ≤ 2 * l.length + 2 := by
  have := two_len l
  unfold quoQ
  split
  · omega
  · simp only [List.length_cons, List.length_append, List.length_nil]; omega
theorem join_len {n : Nat} : ∀ L : List (List UInt8), (∀ x ∈ L, x.length ≤ n) → (joinQ L).length ≤ L.length * (2 * n + 3)
  | [], _ => by simp [joinQ]
  | [x], h => by
    have := quo_len x
    have := h x (by simp)
    simp only [joinQ, List.length_cons, List.length_nil]; omega
  | x :: y :: L, h => by
    have h1 := quo_len x
    have h2 := h x (by simp)
    have h3 := join_len (y :: L) fun z hz => h z (List.mem_cons_of_mem _ hz)
    simp only [joinQ, List.length_append, List.length_cons] at h3 ⊢
    rw [Nat.add_mul (L.length + 1) 1]
    omega
theorem unQ_len : ∀ l : List UInt8, (unQ l).length ≤ l.length
  | [] => by simp [unQ_nil]
  | b :: l => by
    by_cases h : ([39, 39] : List UInt8).isPrefixOf (b :: l) = true
    · cases l with
      | nil => simp [List.isPrefixOf] at h
      | cons c l =>
        simp [List.isPrefixOf] at h
        obtain ⟨rfl, rfl⟩ := h
        rw [unQ_two]
        have := unQ_len l
        simp only [List.length_cons]; omega
    · have e : unQ (b :: l) = b :: unQ l := by
        unfold unQ
        rw [rep_all (by decide), rep_all (by decide)]
        exact rep_skip (by decide) (Bool.eq_false_iff.2 h)
      rw [e]
      have := unQ_len l
      simp only [List.length_cons]; omega
/-- joined, as the library does it -/
theorem join_lib : ∀ L : List (List UInt8), ([32] : List UInt8).intercalate (L.map quoQ) = joinQ L
  | [] => rfl
  | [x] => by simp [List.intercalate, joinQ]
  | x :: y :: l => by
    have := join_lib (y :: l)
    rw [joinQ, ← this]
    simp [List.intercalate]
end Go.Proofs.YtdganemgldocoaaGreatDoor

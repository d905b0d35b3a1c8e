/- How the document puts a file into a row of files. Nothing here needs the translated code. -/
import Derived.Test.YtpedamncnimgpaaDoorTreePlain
import Derived.Laws.Cover1
namespace Go.Proofs.YtpedamncnimgpaaDoor
open Go.RowKit Go.Maps

theorem less_before : ∀ (a b : List UInt8), Op.bytesLess a b = bytesBefore a b
  | [], [] => rfl
  | [], _ :: _ => rfl
  | _ :: _, [] => rfl
  | a :: r, b :: s => by
    unfold Op.bytesLess bytesBefore
    rw [less_before r s]
/-- Go's <= on two files' names -/
def leN (f x : Fl) : Bool := Op.bytesLess f.n.toList x.n.toList || f.n.toList == x.n.toList
def ltN (f x : Fl) : Bool := bytesBefore f.n.data.toList x.n.data.toList
theorem leN_eq (f x : Fl) : leN f x = (ltN f x || isN x.n f) := by
  unfold leN ltN isN
  rw [less_before, ByteArray.toList_eq, ByteArray.toList_eq]
def neN (f x : Fl) : Bool := !isN f.n x
/-- a round of the document's loop -/
def stepP (f : Fl) (st : List Fl × Bool) (x : Fl) : List Fl × Bool :=
  let s1 := if (!st.2 && leN f x) = true then (st.1 ++ [f], true) else st
  if neN f x = true then (s1.1 ++ [x], s1.2) else s1
def stP (f : Fl) (l : List Fl) : List Fl × Bool := l.foldl (stepP f) ([], false)
def refP (f : Fl) (l : List Fl) : List Fl := if (stP f l).2 = true then (stP f l).1 else (stP f l).1 ++ [f]
theorem stP_snoc {f : Fl} {l : List Fl} {k : Nat} {x : Fl} (h : l[k]? = some x) : stP f (l.take (k + 1)) = stepP f (stP f (l.take k)) x := by
  unfold stP
  rw [List.take_add_one, h, List.foldl_append]; rfl
theorem stepP_11 {f x : Fl} {st : List Fl × Bool} (h1 : st.2 = false) (h2 : leN f x = true) (h3 : neN f x = true) : stepP f st x = (st.1 ++ [f] ++ [x], true) := by
  unfold stepP; rw [h1, h2, h3]; rfl
theorem stepP_10 {f x : Fl} {st : List Fl × Bool} (h1 : st.2 = false) (h2 : leN f x = true) (h3 : neN f x = false) : stepP f st x = (st.1 ++ [f], true) := by
  unfold stepP; rw [h1, h2, h3]; rfl
theorem stepP_01 {f x : Fl} {st : List Fl × Bool} (h1 : st.2 = true ∨ leN f x = false) (h3 : neN f x = true) : stepP f st x = (st.1 ++ [x], st.2) := by
  unfold stepP
  have : (!st.2 && leN f x) = false := by rcases h1 with h | h <;> rw [h] <;> simp
  rw [this, h3]; rfl
theorem stepP_00 {f x : Fl} {st : List Fl × Bool} (h1 : st.2 = true ∨ leN f x = false) (h3 : neN f x = false) : stepP f st x = st := by
  unfold stepP
  have : (!st.2 && leN f x) = false := by rcases h1 with h | h <;> rw [h] <;> simp
  rw [this, h3]; rfl
theorem stP_len (f : Fl) (l : List Fl) : (stP f l).1.length ≤ 2 * l.length := by
  unfold stP
  have : ∀ (l : List Fl) (st : List Fl × Bool), (l.foldl (stepP f) st).1.length ≤ st.1.length + 2 * l.length := by
    intro l
    induction l with
    | nil => intro st; simp
    | cons a r ih =>
      intro st
      rw [List.foldl_cons]
      have h := ih (stepP f st a)
      have h2 : (stepP f st a).1.length ≤ st.1.length + 2 := by
        unfold stepP
        simp only
        split <;> split <;> simp
      simp only [List.length_cons]
      omega
  simpa using this l ([], false)

/-! the document's loop is the putting in order -/
theorem done_tail {f : Fl} : ∀ (l : List Fl) (o : List Fl), l.foldl (stepP f) (o, true) = (o ++ delL l f.n, true)
  | [], o => by simp [delL]
  | a :: r, o => by
    rw [List.foldl_cons]
    by_cases h : neN f a = true
    · rw [stepP_01 (.inl rfl) h, done_tail r]
      unfold neN at h
      have h' : (!isN f.n a) = true := h
      unfold delL
      rw [List.filter_cons, if_pos h']
      simp
    · have h' : neN f a = false := by simpa using h
      rw [stepP_00 (.inl rfl) h', done_tail r]
      have h'' : ¬ (!isN f.n a) = true := by unfold neN at h'; rw [h']; simp
      unfold delL
      rw [List.filter_cons, if_neg h'']
theorem keyS_before (a b : ByteArray) : (keyS a).before (keyS b) = bytesBefore a.data.toList b.data.toList := rfl
theorem insL_first {f : Fl} : ∀ {l : List Fl}, (∀ y ∈ l, ltN f y = true) → insL f l = f :: l
  | [], _ => rfl
  | a :: r, h => by
    unfold insL
    rw [keyS_before, if_pos (show bytesBefore f.n.data.toList a.n.data.toList = true from h a (by simp))]
theorem refP_go {f : Fl} : ∀ (l : List Fl) (o : List Fl), (l.Pairwise fun a b => ltN a b = true) →
    (if (l.foldl (stepP f) (o, false)).2 = true then (l.foldl (stepP f) (o, false)).1 else (l.foldl (stepP f) (o, false)).1 ++ [f]) = o ++ putL l f
  | [], o, _ => by simp [putL, delL, insL]
  | a :: r, o, h => by
    obtain ⟨ha, hr⟩ := List.pairwise_cons.1 h
    rw [List.foldl_cons]
    by_cases h1 : leN f a = true
    · have hb : ∀ y ∈ r, ltN f y = true := by
        intro y hy
        rw [leN_eq, Bool.or_eq_true] at h1
        rcases h1 with h1 | h1
        · exact Go.WideShapes.bytes_trans _ _ _ h1 (ha y hy)
        · have e := isN_iff.1 h1
          have := ha y hy
          unfold ltN at this ⊢
          rw [e]; exact this
      have hrd : delL r f.n = r := by
        unfold delL
        rw [List.filter_eq_self]
        intro y hy
        have := hb y hy
        rw [isN_other (fun e => by unfold ltN at this; rw [e, WideAt.bytes_irrefl] at this; cases this)]
        rfl
      by_cases h3 : neN f a = true
      · rw [stepP_11 rfl h1 h3, done_tail, if_pos rfl, hrd]
        have h3' : (!isN f.n a) = true := h3
        have hdel : delL (a :: r) f.n = a :: r := by
          have e1 : delL (a :: r) f.n = if (!isN f.n a) = true then a :: delL r f.n else delL r f.n := by unfold delL; rw [List.filter_cons]
          rw [e1, if_pos h3', hrd]
        unfold putL
        rw [hdel, insL_first]
        · simp
        · intro y hy
          rcases List.mem_cons.1 hy with rfl | hy
          · rw [leN_eq, Bool.or_eq_true] at h1
            rcases h1 with h1 | h1
            · exact h1
            · have e := isN_iff.1 h1
              rw [isN_iff.2 e.symm] at h3'; cases h3'
          · exact hb y hy
      · have h3' : neN f a = false := by simpa using h3
        rw [stepP_10 rfl h1 h3', done_tail, if_pos rfl, hrd]
        have hdel : delL (a :: r) f.n = r := by
          have e1 : delL (a :: r) f.n = if (!isN f.n a) = true then a :: delL r f.n else delL r f.n := by unfold delL; rw [List.filter_cons]
          have : ¬ (!isN f.n a) = true := by unfold neN at h3'; rw [h3']; simp
          rw [e1, if_neg this, hrd]
        unfold putL
        rw [hdel, insL_first hb]
        simp
    · have h1' : leN f a = false := by simpa using h1
      have hlt : ltN f a = false ∧ isN a.n f = false := by
        rw [leN_eq, Bool.or_eq_false_iff] at h1'; exact h1'
      have hne : f.n ≠ a.n := fun e => by rw [isN_iff.2 e] at hlt; cases hlt.2
      have h3 : neN f a = true := by unfold neN; rw [isN_other (fun e => hne e.symm)]; rfl
      rw [stepP_01 (.inr h1') h3, refP_go r (o ++ [a]) hr]
      have e1 : delL (a :: r) f.n = a :: delL r f.n := by
        have : delL (a :: r) f.n = if (!isN f.n a) = true then a :: delL r f.n else delL r f.n := by unfold delL; rw [List.filter_cons]
        have h3' : (!isN f.n a) = true := h3
        rw [this, if_pos h3']
      have e2 : putL (a :: r) f = a :: putL r f := by
        unfold putL
        rw [e1]
        have : insL f (a :: delL r f.n) = if (keyS f.n).before (keyS a.n) = true then f :: a :: delL r f.n else a :: insL f (delL r f.n) := rfl
        rw [this, keyS_before, if_neg (by have := hlt.1; unfold ltN at this; rw [this]; simp)]
      rw [e2]; simp
theorem refP_eq {f : Fl} {l : List Fl} (h : l.Pairwise fun a b => ltN a b = true) : refP f l = putL l f := by
  have := refP_go (f := f) l [] h
  unfold refP stP
  rw [this]; simp
end Go.Proofs.YtpedamncnimgpaaDoor

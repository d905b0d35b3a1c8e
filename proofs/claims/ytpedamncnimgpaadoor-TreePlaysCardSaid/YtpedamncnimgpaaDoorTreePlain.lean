/- Plain facts on files in a row, and on a map of files as it reads. Nothing here needs the translated code. -/
import Derived.WalkKit
import Derived.Maps.OwnSet
import Derived.Lib.Hide
namespace Go.Proofs.YtpedamncnimgpaaDoor
open Go.RowKit Go.Maps

/-- a file -/
structure Fl where
  n : ByteArray
  c : ByteArray
  t : Int

def nilF : Fl := ⟨ByteArray.empty, ByteArray.empty, 0⟩
def valF (f : Fl) : Value := .agg #[.string f.n, .string f.c, .int .i64 f.t]
def datF (f : Fl) : DataW Unit := .agg [.lit (.string f.n.data.toList), .lit (.string f.c.data.toList), .lit (.int .i64 f.t)]
def keyS (s : ByteArray) : Lit := .string s.data.toList
def entF (f : Fl) : Lit × DataW Unit := (keyS f.n, datF f)
def toD (l : List Fl) : DataW Unit := .map (l.map entF)

theorem bytes_ext {a b : ByteArray} (h : a.data.toList = b.data.toList) : a = b := by
  cases a; cases b; simpa using h
theorem bytes_ne {a b : ByteArray} (h : a ≠ b) : a.data.toList ≠ b.data.toList := fun e => h (bytes_ext e)
theorem datF_inj {f g : Fl} (h : datF f = datF g) : f = g := by
  unfold datF at h
  simp only [DataW.agg.injEq, List.cons.injEq, DataW.lit.injEq, Lit.string.injEq, Lit.int.injEq, and_true, true_and] at h
  obtain ⟨h1, h2, h3⟩ := h
  cases f; cases g
  simp only at h1 h2 h3
  rw [bytes_ext h1, bytes_ext h2, h3]

def fileElem : Value → Option (DataW Unit × List MemPlace)
  | .agg cs => match cs.toList with
    | [.string n, .string c, .int .i64 t] => some (datF ⟨n, c, t⟩, [])
    | _ => none
  | _ => none
theorem fileElem_mk (f : Fl) : fileElem (valF f) = some (datF f, []) := rfl
theorem fileElem_inv {v : Value} {z : DataW Unit × List MemPlace} (h : fileElem v = some z) : ∃ f, v = valF f ∧ z = (datF f, []) := by
  unfold fileElem at h
  split at h
  · rename_i cs
    split at h
    · rename_i n c t e
      cases h
      refine ⟨⟨n, c, t⟩, ?_, rfl⟩
      unfold valF
      cases cs
      simp only at e
      rw [e]
    · cases h
  · cases h
theorem fileElem_is {v : Value} {f : Fl} {ps : List MemPlace} (h : fileElem v = some (datF f, ps)) : v = valF f := by
  obtain ⟨g, rfl, e⟩ := fileElem_inv h
  rw [Prod.mk.injEq] at e
  rw [datF_inj e.1]

/-- is a file of that name? -/
def isN (s : ByteArray) (f : Fl) : Bool := f.n.data.toList == s.data.toList
theorem isN_iff {s : ByteArray} {f : Fl} : isN s f = true ↔ f.n = s := by
  unfold isN
  rw [beq_iff_eq]
  exact ⟨bytes_ext, fun e => by rw [e]⟩
theorem isN_self (f : Fl) : isN f.n f = true := isN_iff.2 rfl
theorem isN_other {s : ByteArray} {f : Fl} (h : f.n ≠ s) : isN s f = false := by
  cases e : isN s f
  · rfl
  · exact absurd (isN_iff.1 e) h
def hasL (l : List Fl) (s : ByteArray) : Bool := l.any (isN s)
def getL (l : List Fl) (s : ByteArray) : Fl := (l.find? (isN s)).getD nilF
def delL (l : List Fl) (s : ByteArray) : List Fl := l.filter fun f => !isN s f
def insL (x : Fl) : List Fl → List Fl
  | [] => [x]
  | y :: r => if (keyS x.n).before (keyS y.n) = true then x :: y :: r else y :: insL x r
def putL (l : List Fl) (f : Fl) : List Fl := insL f (delL l f.n)

theorem same_isN (s : ByteArray) (f : Fl) : (entF f).1.sameKey (keyS s) = isN s f := rfl
theorem toD_has (l : List Fl) (s : ByteArray) : Maps.has (toD l) (keyS s) = hasL l s := by
  unfold toD hasL
  rw [has_eq, List.any_map]; rfl
theorem toD_size (l : List Fl) : Maps.size (toD l) = l.length := by
  unfold toD
  rw [size_eq, List.length_map]
theorem find_ent (l : List Fl) (s : ByteArray) : (l.map entF).find? (fun p => p.1.sameKey (keyS s)) = (l.find? (isN s)).map entF := by
  induction l with
  | nil => rfl
  | cons a r ih =>
    rw [List.map_cons, List.find?_cons, List.find?_cons, same_isN, ih]
    cases isN s a <;> rfl
theorem toD_at (l : List Fl) (s : ByteArray) : (toD l).atKey (keyS s) (datF nilF) = datF (getL l s) := by
  unfold toD DataW.atKey getL
  simp only
  rw [find_ent]
  cases l.find? (isN s) <;> rfl
theorem del_ent (l : List Fl) (s : ByteArray) : (l.map entF).filter (fun p => !p.1.sameKey (keyS s)) = (delL l s).map entF := by
  unfold delL
  induction l with
  | nil => rfl
  | cons a r ih =>
    rw [List.map_cons, List.filter_cons, List.filter_cons, same_isN, ih]
    cases isN s a <;> rfl
theorem toD_del (l : List Fl) (s : ByteArray) : (toD l).del (keyS s) = toD (delL l s) := by
  show DataW.map ((l.map entF).filter (fun p => !p.1.sameKey (keyS s))) = _
  rw [del_ent]; rfl
theorem ins_ent (x : Fl) (l : List Fl) : DataW.insert (entF x) (l.map entF) = (insL x l).map entF := by
  induction l with
  | nil => rfl
  | cons a r ih =>
    rw [List.map_cons]
    unfold DataW.insert insL
    show (if (keyS x.n).before (keyS a.n) = true then _ else _) = _
    by_cases h : (keyS x.n).before (keyS a.n) = true
    · rw [if_pos h, if_pos h]; rfl
    · rw [if_neg h, if_neg h, ih]; rfl
theorem toD_put (l : List Fl) (f : Fl) : (toD l).put (keyS f.n) (datF f) = toD (putL l f) := by
  show DataW.map (DataW.insert (entF f) ((l.map entF).filter (fun p => !p.1.sameKey (keyS f.n)))) = _
  rw [del_ent, ins_ent]; rfl

theorem insL_mem {x y : Fl} {l : List Fl} : y ∈ insL x l ↔ y = x ∨ y ∈ l := by
  induction l with
  | nil => simp [insL]
  | cons a r ih =>
    unfold insL
    by_cases h : (keyS x.n).before (keyS a.n) = true
    · rw [if_pos h]; simp
    · rw [if_neg h]; simp only [List.mem_cons, ih]
      constructor
      · rintro (h | h | h)
        · exact .inr (.inl h)
        · exact .inl h
        · exact .inr (.inr h)
      · rintro (h | h | h)
        · exact .inr (.inl h)
        · exact .inl h
        · exact .inr (.inr h)
theorem insL_len (x : Fl) (l : List Fl) : (insL x l).length = l.length + 1 := by
  induction l with
  | nil => rfl
  | cons a r ih =>
    unfold insL
    by_cases h : (keyS x.n).before (keyS a.n) = true
    · rw [if_pos h]; rfl
    · rw [if_neg h]; simp [ih]
theorem insL_find {x : Fl} {p : Fl → Bool} (h : p x = false) (l : List Fl) : (insL x l).find? p = l.find? p := by
  induction l with
  | nil => simp [insL, h]
  | cons a r ih =>
    unfold insL
    by_cases hb : (keyS x.n).before (keyS a.n) = true
    · rw [if_pos hb, List.find?_cons, h]
    · rw [if_neg hb, List.find?_cons, List.find?_cons, ih]
theorem insL_find_hit {x : Fl} {p : Fl → Bool} (h : p x = true) (l : List Fl) (hl : ∀ y ∈ l, p y = false) : (insL x l).find? p = some x := by
  induction l with
  | nil => simp [insL, h]
  | cons a r ih =>
    unfold insL
    by_cases hb : (keyS x.n).before (keyS a.n) = true
    · rw [if_pos hb, List.find?_cons, h]
    · rw [if_neg hb, List.find?_cons, hl a (by simp), ih (fun y hy => hl y (by simp [hy]))]
theorem delL_find {s s' : ByteArray} (h : s' ≠ s) (l : List Fl) : (delL l s).find? (isN s') = l.find? (isN s') := by
  unfold delL
  induction l with
  | nil => rfl
  | cons a r ih =>
    rw [List.filter_cons, List.find?_cons]
    cases hs : isN s a
    · rw [if_pos (by rfl), List.find?_cons, ih]
    · have e := isN_iff.1 hs
      rw [if_neg (by simp), ih, isN_other (by rw [e]; exact fun e => h e.symm)]
theorem delL_none (l : List Fl) (s : ByteArray) : ∀ y ∈ delL l s, isN s y = false := by
  intro y hy
  have := (List.mem_filter.1 hy).2
  simpa using this
theorem putL_find_same (l : List Fl) (f : Fl) : (putL l f).find? (isN f.n) = some f := insL_find_hit (isN_self f) _ (delL_none l f.n)
theorem putL_find_other {s : ByteArray} (l : List Fl) (f : Fl) (h : s ≠ f.n) : (putL l f).find? (isN s) = l.find? (isN s) := by
  unfold putL
  rw [insL_find (isN_other (fun e => h e.symm)), delL_find h]
theorem hasL_find {l : List Fl} {s : ByteArray} : hasL l s = true ↔ ∃ f, l.find? (isN s) = some f := by
  unfold hasL
  rw [List.any_eq_true, ← List.find?_isSome, Option.isSome_iff_exists]
theorem hasL_not {l : List Fl} {s : ByteArray} (h : hasL l s = false) : l.find? (isN s) = none := by
  cases e : l.find? (isN s) with
  | none => rfl
  | some f => rw [hasL_find.2 ⟨f, e⟩] at h; cases h
theorem getL_not {l : List Fl} {s : ByteArray} (h : hasL l s = false) : getL l s = nilF := by unfold getL; rw [hasL_not h]; rfl
theorem getL_find {l : List Fl} {s : ByteArray} {f : Fl} (h : l.find? (isN s) = some f) : getL l s = f := by unfold getL; rw [h]; rfl
theorem find_name {l : List Fl} {s : ByteArray} {f : Fl} (h : l.find? (isN s) = some f) : f.n = s := isN_iff.1 (List.find?_some (p := isN s) h)
theorem getL_has {l : List Fl} {s : ByteArray} (h : hasL l s = true) : (getL l s).n = s := by
  obtain ⟨f, hf⟩ := hasL_find.1 h
  rw [getL_find hf]; exact find_name hf
theorem delL_len (l : List Fl) (s : ByteArray) : (delL l s).length ≤ l.length := List.length_filter_le _ _
theorem delL_lt {l : List Fl} {s : ByteArray} (h : hasL l s = true) : (delL l s).length < l.length := by
  unfold delL
  unfold hasL at h
  rw [List.any_eq_true] at h
  obtain ⟨f, hf, he⟩ := h
  exact List.length_filter_lt_length_iff_exists.2 ⟨f, hf, by rw [he]; simp⟩
theorem delL_not {l : List Fl} {s : ByteArray} (h : hasL l s = false) : delL l s = l := by
  unfold delL
  rw [List.filter_eq_self]
  intro f hf
  unfold hasL at h
  rw [List.any_eq_false] at h
  simpa using h f hf
theorem putL_len_le (l : List Fl) (f : Fl) : (putL l f).length ≤ l.length + 1 := by
  unfold putL; rw [insL_len]; have := delL_len l f.n; omega
theorem putL_len_has {l : List Fl} {f : Fl} (h : hasL l f.n = true) : (putL l f).length ≤ l.length := by
  unfold putL; rw [insL_len]; have := delL_lt h; omega
theorem putL_len_new {l : List Fl} {f : Fl} (h : hasL l f.n = false) : (putL l f).length = l.length + 1 := by
  unfold putL; rw [insL_len, delL_not h]
end Go.Proofs.YtpedamncnimgpaaDoor

/- Programs, plainly: right nodes, lengths, codes, programs; that they are closed; how many nodes there are; what a text's node is like. Nodes of any kind in memory; the walks that ask whether a node is right. Whether a node is right: the program's walk and the document's. How long a node's code is: the program's walks and the document's; how many nodes there are. -/
import Derived.Test.YtlkjejmmoalliaaGreatDoorRexV
import Derived.Test.YtlkjejmmoalliaaGreatDoorClsE
namespace Go.Proofs.YtlkjejmmoalliaaGreatDoor

/-- a node whose kind and index may be any numbers -/
inductive Ni where
  | mk (k i : Int) (s : BitVec 256) (l : List Ni)
def Ni.kind : Ni → Int | .mk k _ _ _ => k
def Ni.index : Ni → Int | .mk _ i _ _ => i
def Ni.set : Ni → BitVec 256 | .mk _ _ s _ => s
def Ni.kids : Ni → List Ni | .mk _ _ _ l => l
/-- an instruction -/
structure Ins where
  o : Int
  x : Int
  y : Int
  s : BitVec 256
mutual
def szN : Ni → Nat | .mk _ _ _ l => 1 + szL l
def szL : List Ni → Nat | [] => 0 | n :: l => szN n + szL l
end
/-- as many kids as the kind has -/
def kidsOk (k : Int) (m : Nat) : Bool :=
  if k = 0 ∨ k = 1 ∨ k = 8 ∨ k = 9 then decide (m = 0) else if k = 2 ∨ k = 3 then decide (2 ≤ m) else if k = 4 ∨ k = 5 ∨ k = 6 ∨ k = 7 then decide (m = 1) else false
/-- an index just if it is a group -/
def idxOk (k i : Int) : Bool := if k = 7 then decide (1 ≤ i ∧ i ≤ 9) else decide (i = 0)
def setOk (k : Int) (s : BitVec 256) : Bool := decide (k = 1) || s == emp
mutual
def rgtN : Ni → Bool | .mk k i s l => (kidsOk k l.length && idxOk k i && setOk k s) && rgtL l
def rgtL : List Ni → Bool | [] => true | n :: l => rgtN n && rgtL l
end
/-- how many instructions are the node's own -/
def ownC (k : Int) (m : Nat) : Nat :=
  if k = 1 ∨ k = 5 ∨ k = 6 ∨ k = 8 ∨ k = 9 then 1 else if k = 4 ∨ k = 7 then 2 else if k = 3 then 2 * (m - 1) else 0
mutual
def lenN : Ni → Nat | .mk k _ _ l => lenL l + ownC k l.length
def lenL : List Ni → Nat | [] => 0 | n :: l => lenN n + lenL l
end
mutual
/-- a node's code from a place on -/
def codN : Ni → Nat → List Ins
  | .mk k i s l, p =>
    if k = 1 then [⟨0, 0, 0, s⟩]
    else if k = 2 then codL l p
    else if k = 3 then codA (p + (lenL l + 2 * (l.length - 1))) l p
    else if k = 4 then ⟨1, (p + 1 : Nat), (p + lenL l + 2 : Nat), emp⟩ :: (codL l (p + 1) ++ [⟨2, p, 0, emp⟩])
    else if k = 5 then codL l p ++ [⟨1, p, (p + lenL l + 1 : Nat), emp⟩]
    else if k = 6 then ⟨1, (p + 1 : Nat), (p + lenL l + 1 : Nat), emp⟩ :: codL l (p + 1)
    else if k = 7 then ⟨3, 2 * i, 0, emp⟩ :: (codL l (p + 1) ++ [⟨3, 2 * i + 1, 0, emp⟩])
    else if k = 8 then [⟨4, 0, 0, emp⟩]
    else if k = 9 then [⟨5, 0, 0, emp⟩]
    else []
def codL : List Ni → Nat → List Ins
  | [], _ => []
  | n :: l, p => codN n p ++ codL l (p + lenN n)
/-- the codes of nodes of which one is gone through; e: behind the whole -/
def codA (e : Nat) : List Ni → Nat → List Ins
  | [], _ => []
  | n :: l, p => if l.length = 0 then codN n p else ⟨1, (p + 1 : Nat), (p + 2 + lenN n : Nat), emp⟩ :: (codN n (p + 1) ++ ⟨2, e, 0, emp⟩ :: codA e l (p + 2 + lenN n))
end
/-- a program -/
def prgN (n : Ni) : List Ins := ⟨3, 0, 0, emp⟩ :: (codN n 1 ++ [⟨3, 1, 0, emp⟩, ⟨6, 0, 0, emp⟩])
/-- the codes of all but the last: where the Jumps lead is x -/
def preA (x : Int) : List Ni → Nat → List Ins
  | [], _ => []
  | n :: l, p => ⟨1, (p + 1 : Nat), (p + 2 + lenN n : Nat), emp⟩ :: (codN n (p + 1) ++ ⟨2, x, 0, emp⟩ :: preA x l (p + 2 + lenN n))
/-- how long they are -/
def preC (l : List Ni) : Nat := lenL l + 2 * l.length

theorem rgt_eq (n : Ni) : rgtN n = ((kidsOk n.kind n.kids.length && idxOk n.kind n.index && setOk n.kind n.set) && rgtL n.kids) := by cases n; rw [rgtN]; rfl
theorem len_eq (n : Ni) : lenN n = lenL n.kids + ownC n.kind n.kids.length := by cases n; rw [lenN]; rfl
theorem sz_eq (n : Ni) : szN n = 1 + szL n.kids := by cases n; rw [szN]; rfl
theorem lenL_append (l r : List Ni) : lenL (l ++ r) = lenL l + lenL r := by
  induction l with
  | nil => simp [lenL]
  | cons n l ih => rw [List.cons_append, lenL, lenL, ih]; omega
theorem szL_append (l r : List Ni) : szL (l ++ r) = szL l + szL r := by
  induction l with
  | nil => simp [szL]
  | cons n l ih => rw [List.cons_append, szL, szL, ih]; omega
theorem rgtL_append (l r : List Ni) : rgtL (l ++ r) = (rgtL l && rgtL r) := by
  induction l with
  | nil => simp [rgtL]
  | cons n l ih => rw [List.cons_append, rgtL, rgtL, ih, Bool.and_assoc]
theorem rgtL_mem {l : List Ni} {n : Ni} (h : rgtL l = true) (hn : n ∈ l) : rgtN n = true := by
  induction l with
  | nil => cases hn
  | cons m l ih =>
    rw [rgtL, Bool.and_eq_true] at h
    rcases List.mem_cons.1 hn with rfl | hn
    · exact h.1
    · exact ih h.2 hn
theorem lenL_take {l : List Ni} {j : Nat} {n : Ni} (h : l[j]? = some n) : lenL (l.take (j + 1)) = lenL (l.take j) + lenN n := by
  rw [List.take_add_one, h, lenL_append]; simp [lenL]
theorem szL_take {l : List Ni} {j : Nat} {n : Ni} (h : l[j]? = some n) : szL (l.take (j + 1)) = szL (l.take j) + szN n := by
  rw [List.take_add_one, h, szL_append]; simp [szL]
theorem lenL_take_le (l : List Ni) (j : Nat) : lenL (l.take j) ≤ lenL l := by
  have := lenL_append (l.take j) (l.drop j); rw [List.take_append_drop] at this; omega
theorem szL_mem {l : List Ni} {n : Ni} (h : n ∈ l) : szN n ≤ szL l := by
  induction l with
  | nil => cases h
  | cons m l ih =>
    rw [szL]
    rcases List.mem_cons.1 h with rfl | h
    · omega
    · have := ih h; omega
theorem lenL_mem {l : List Ni} {n : Ni} (h : n ∈ l) : lenN n ≤ lenL l := by
  induction l with
  | nil => cases h
  | cons m l ih =>
    rw [lenL]
    rcases List.mem_cons.1 h with rfl | h
    · omega
    · have := ih h; omega
theorem szN_pos (n : Ni) : 1 ≤ szN n := by rw [sz_eq]; omega
theorem len_le_sz (l : List Ni) : l.length ≤ szL l := by
  induction l with
  | nil => simp
  | cons n l ih => rw [szL, List.length_cons]; have := szN_pos n; omega
theorem own_le (k : Int) (m : Nat) : ownC k m ≤ 2 + 2 * m := by unfold ownC; split <;> (try split) <;> (try split) <;> omega
mutual
theorem lenN_le : ∀ n : Ni, lenN n + 2 ≤ 4 * szN n
  | .mk k i s l => by
    have h1 := lenL_le l; have h2 := own_le k l.length
    rw [lenN, szN]; omega
theorem lenL_le : ∀ l : List Ni, lenL l + 2 * l.length ≤ 4 * szL l
  | [] => by simp [lenL]
  | n :: l => by
    have h1 := lenN_le n; have h2 := lenL_le l
    rw [lenL, szL, List.length_cons]; omega
end
/-! codes -/
theorem kids_none {k : Int} {m : Nat} (h : kidsOk k m = true) (hk : k = 0 ∨ k = 1 ∨ k = 8 ∨ k = 9) : m = 0 := by
  unfold kidsOk at h; rw [if_pos hk] at h; simpa using h
theorem kids_two {k : Int} {m : Nat} (h : kidsOk k m = true) (hk : k = 2 ∨ k = 3) : 2 ≤ m := by
  unfold kidsOk at h; rw [if_neg (by omega), if_pos hk] at h; simpa using h
theorem kids_single {k : Int} {m : Nat} (h : kidsOk k m = true) (hk : k = 4 ∨ k = 5 ∨ k = 6 ∨ k = 7) : m = 1 := by
  unfold kidsOk at h; rw [if_neg (by omega), if_neg (by omega), if_pos hk] at h; simpa using h
theorem kids_kind {k : Int} {m : Nat} (h : kidsOk k m = true) : 0 ≤ k ∧ k ≤ 9 := by
  unfold kidsOk at h
  split at h
  · omega
  split at h
  · omega
  split at h
  · omega
  · cases h
theorem cod_eq (n : Ni) (p : Nat) : codN n p =
    if n.kind = 1 then [⟨0, 0, 0, n.set⟩]
    else if n.kind = 2 then codL n.kids p
    else if n.kind = 3 then codA (p + (lenL n.kids + 2 * (n.kids.length - 1))) n.kids p
    else if n.kind = 4 then ⟨1, (p + 1 : Nat), (p + lenL n.kids + 2 : Nat), emp⟩ :: (codL n.kids (p + 1) ++ [⟨2, p, 0, emp⟩])
    else if n.kind = 5 then codL n.kids p ++ [⟨1, p, (p + lenL n.kids + 1 : Nat), emp⟩]
    else if n.kind = 6 then ⟨1, (p + 1 : Nat), (p + lenL n.kids + 1 : Nat), emp⟩ :: codL n.kids (p + 1)
    else if n.kind = 7 then ⟨3, 2 * n.index, 0, emp⟩ :: (codL n.kids (p + 1) ++ [⟨3, 2 * n.index + 1, 0, emp⟩])
    else if n.kind = 8 then [⟨4, 0, 0, emp⟩]
    else if n.kind = 9 then [⟨5, 0, 0, emp⟩]
    else [] := by cases n; rw [codN]; rfl
theorem codL_one (n : Ni) (p : Nat) : codL [n] p = codN n p := by rw [codL, codL, List.append_nil]
theorem lenL_one (n : Ni) : lenL [n] = lenN n := by rw [lenL, lenL]; omega
mutual
theorem cod_len : ∀ (n : Ni) (p : Nat), rgtN n = true → (codN n p).length = lenN n
  | .mk k i s l, p, h => by
    rw [rgtN] at h
    simp only [Bool.and_eq_true] at h
    obtain ⟨⟨⟨hk, hi⟩, hs⟩, hl⟩ := h
    have hL := codL_len l
    rw [codN, lenN]
    have hr := kids_kind hk
    by_cases h1 : k = 1
    · have := kids_none hk (by omega); have e := List.eq_nil_of_length_eq_zero this; subst h1; subst e; simp [lenL, ownC]
    rw [if_neg h1]
    by_cases h2 : k = 2
    · subst h2; rw [if_pos rfl, hL _ hl]; simp [ownC]
    rw [if_neg h2]
    by_cases h3 : k = 3
    · subst h3; have := kids_two hk (by omega); rw [if_pos rfl, codA_len _ l p hl (by omega)]; simp [ownC]
    rw [if_neg h3]
    by_cases h4 : k = 4
    · subst h4; rw [if_pos rfl, List.length_cons, List.length_append, hL _ hl]; simp [ownC]
    rw [if_neg h4]
    by_cases h5 : k = 5
    · subst h5; rw [if_pos rfl, List.length_append, hL _ hl]; simp [ownC]
    rw [if_neg h5]
    by_cases h6 : k = 6
    · subst h6; rw [if_pos rfl, List.length_cons, hL _ hl]; simp [ownC]
    rw [if_neg h6]
    by_cases h7 : k = 7
    · subst h7; rw [if_pos rfl, List.length_cons, List.length_append, hL _ hl]; simp [ownC]
    rw [if_neg h7]
    have := kids_none hk (by omega); have e := List.eq_nil_of_length_eq_zero this; subst e
    by_cases h8 : k = 8
    · subst h8; simp [lenL, ownC]
    rw [if_neg h8]
    by_cases h9 : k = 9
    · subst h9; simp [lenL, ownC]
    rw [if_neg h9]
    have : k = 0 := by omega
    subst this; simp [lenL, ownC]
theorem codL_len : ∀ (l : List Ni) (p : Nat), rgtL l = true → (codL l p).length = lenL l
  | [], p, _ => by rw [codL, lenL]; rfl
  | n :: l, p, h => by
    rw [rgtL, Bool.and_eq_true] at h
    rw [codL, lenL, List.length_append, cod_len n p h.1, codL_len l _ h.2]
theorem codA_len (e : Nat) : ∀ (l : List Ni) (p : Nat), rgtL l = true → 1 ≤ l.length → (codA e l p).length = lenL l + 2 * (l.length - 1)
  | [], p, _, h => by simp at h
  | n :: l, p, h, _ => by
    rw [rgtL, Bool.and_eq_true] at h
    rw [codA, lenL, List.length_cons]
    by_cases hl : l.length = 0
    · rw [if_pos hl, cod_len n p h.1]
      have e := List.eq_nil_of_length_eq_zero hl; subst e; simp [lenL]
    · rw [if_neg hl, List.length_cons, List.length_append, List.length_cons, cod_len n _ h.1, codA_len e l _ h.2 (by omega)]
      omega
end
theorem prg_len {n : Ni} (h : rgtN n = true) : (prgN n).length = lenN n + 3 := by
  unfold prgN; rw [List.length_cons, List.length_append, cod_len n 1 h]; rfl
theorem preA_len (x : Int) : ∀ (l : List Ni) (p : Nat), rgtL l = true → (preA x l p).length = preC l
  | [], p, _ => by rw [preA]; simp [preC, lenL]
  | n :: l, p, h => by
    rw [rgtL, Bool.and_eq_true] at h
    rw [preA, List.length_cons, List.length_append, List.length_cons, cod_len n _ h.1, preA_len x l _ h.2]
    simp only [preC, lenL, List.length_cons]; omega
theorem preC_snoc (l : List Ni) (n : Ni) : preC (l ++ [n]) = preC l + 2 + lenN n := by
  unfold preC; rw [lenL_append, lenL_one, List.length_append]; simp only [List.length_cons, List.length_nil]; omega
theorem preA_snoc (x : Int) : ∀ (l : List Ni) (n : Ni) (p : Nat), preA x (l ++ [n]) p =
    preA x l p ++ ⟨1, (p + preC l + 1 : Nat), (p + preC l + 2 + lenN n : Nat), emp⟩ :: (codN n (p + preC l + 1) ++ [⟨2, x, 0, emp⟩])
  | [], n, p => by rw [List.nil_append, preA, preA, preA]; simp [preC, lenL]
  | m :: l, n, p => by
    rw [List.cons_append, preA, preA, preA_snoc x l n]
    have e : p + 2 + lenN m + preC l = p + preC (m :: l) := by simp only [preC, lenL, List.length_cons]; omega
    rw [e]; simp
/-- the whole: all but the last, the last -/
theorem codA_snoc (e : Nat) : ∀ (l : List Ni) (n : Ni) (p : Nat), codA e (l ++ [n]) p = preA e l p ++ codN n (p + preC l)
  | [], n, p => by rw [List.nil_append, codA, preA]; simp [preC, lenL]
  | m :: l, n, p => by
    rw [List.cons_append, codA, preA, if_neg (by simp), codA_snoc e l n]
    have e : p + 2 + lenN m + preC l = p + preC (m :: l) := by simp only [preC, lenL, List.length_cons]; omega
    rw [e]; simp
theorem codL_snoc : ∀ (l : List Ni) (n : Ni) (p : Nat), codL (l ++ [n]) p = codL l p ++ codN n (p + lenL l)
  | [], n, p => by rw [List.nil_append, codL_one, codL, lenL]; rfl
  | m :: l, n, p => by
    rw [List.cons_append, codL, codL, codL_snoc l n, lenL, List.append_assoc, show p + lenN m + lenL l = p + (lenN m + lenL l) by omega]
/-! closed -/
/-- does an instruction lead to places of a program? -/
def leadB (m i : Nat) (c : Ins) : Bool :=
  if c.o = 6 then true
  else if c.o = 2 then decide (0 ≤ c.x ∧ c.x < m)
  else if c.o = 1 then decide (0 ≤ c.x ∧ c.x < m) && decide (0 ≤ c.y ∧ c.y < m)
  else decide (i + 1 < m)
def clsdB (l : List Ins) : Bool := decide (0 < l.length) && (List.range l.length).all fun i => match l[i]? with | some c => leadB l.length i c | none => true
/-- what a code's instructions are like: e is behind them -/
def okI (e : Nat) (c : Ins) : Prop := c.o ≠ 6 ∧ (c.o = 2 → 0 ≤ c.x ∧ c.x ≤ e) ∧ (c.o = 1 → (0 ≤ c.x ∧ c.x ≤ e) ∧ (0 ≤ c.y ∧ c.y ≤ e))
theorem okI.up {e e' : Nat} {c : Ins} (h : okI e c) (he : e ≤ e') : okI e' c := by
  obtain ⟨h0, h1, h2⟩ := h
  refine ⟨h0, fun h => ?_, fun h => ?_⟩
  · have := h1 h; omega
  · have := h2 h; omega
mutual
theorem cod_ok : ∀ (n : Ni) (p : Nat), rgtN n = true → ∀ c ∈ codN n p, okI (p + lenN n) c
  | .mk k i s l, p, h => by
    rw [rgtN] at h
    simp only [Bool.and_eq_true] at h
    obtain ⟨⟨⟨hk, hi⟩, hs⟩, hl⟩ := h
    have hL := fun q => codL_ok l q hl
    intro c hc
    rw [codN] at hc
    rw [lenN]
    by_cases h1 : k = 1
    · rw [if_pos h1] at hc; simp at hc; subst hc; exact ⟨by simp, by simp, by simp⟩
    rw [if_neg h1] at hc
    by_cases h2 : k = 2
    · rw [if_pos h2] at hc; exact (hL _ c hc).up (by omega)
    rw [if_neg h2] at hc
    by_cases h3 : k = 3
    · rw [if_pos h3] at hc
      have := kids_two hk (by omega)
      refine (codA_ok (p + (lenL l + 2 * (l.length - 1))) l p hl (by omega) c hc).up ?_
      subst h3; simp [ownC]
    rw [if_neg h3] at hc
    by_cases h4 : k = 4
    · rw [if_pos h4] at hc
      have ho : ownC k l.length = 2 := by subst h4; rfl
      rcases List.mem_cons.1 hc with rfl | hc
      · exact ⟨by simp, by simp, by simp; omega⟩
      rcases List.mem_append.1 hc with hc | hc
      · exact (hL _ c hc).up (by omega)
      · simp at hc; subst hc; exact ⟨by simp, by simp; omega, by simp⟩
    rw [if_neg h4] at hc
    by_cases h5 : k = 5
    · rw [if_pos h5] at hc
      have ho : ownC k l.length = 1 := by subst h5; rfl
      rcases List.mem_append.1 hc with hc | hc
      · exact (hL _ c hc).up (by omega)
      · simp at hc; subst hc; exact ⟨by simp, by simp, by simp; omega⟩
    rw [if_neg h5] at hc
    by_cases h6 : k = 6
    · rw [if_pos h6] at hc
      have ho : ownC k l.length = 1 := by subst h6; rfl
      rcases List.mem_cons.1 hc with rfl | hc
      · exact ⟨by simp, by simp, by simp; omega⟩
      · exact (hL _ c hc).up (by omega)
    rw [if_neg h6] at hc
    by_cases h7 : k = 7
    · rw [if_pos h7] at hc
      have ho : ownC k l.length = 2 := by subst h7; rfl
      rcases List.mem_cons.1 hc with rfl | hc
      · exact ⟨by simp, by simp, by simp⟩
      rcases List.mem_append.1 hc with hc | hc
      · exact (hL _ c hc).up (by omega)
      · simp at hc; subst hc; exact ⟨by simp, by simp, by simp⟩
    rw [if_neg h7] at hc
    by_cases h8 : k = 8
    · rw [if_pos h8] at hc; simp at hc; subst hc; exact ⟨by simp, by simp, by simp⟩
    rw [if_neg h8] at hc
    by_cases h9 : k = 9
    · rw [if_pos h9] at hc; simp at hc; subst hc; exact ⟨by simp, by simp, by simp⟩
    rw [if_neg h9] at hc
    cases hc
theorem codL_ok : ∀ (l : List Ni) (p : Nat), rgtL l = true → ∀ c ∈ codL l p, okI (p + lenL l) c
  | [], p, _ => by intro c hc; rw [codL] at hc; cases hc
  | n :: l, p, h => by
    rw [rgtL, Bool.and_eq_true] at h
    intro c hc
    rw [codL] at hc
    rw [lenL]
    rcases List.mem_append.1 hc with hc | hc
    · exact (cod_ok n p h.1 c hc).up (by omega)
    · exact (codL_ok l _ h.2 c hc).up (by omega)
theorem codA_ok (e : Nat) : ∀ (l : List Ni) (p : Nat), rgtL l = true → p + (lenL l + 2 * (l.length - 1)) ≤ e → ∀ c ∈ codA e l p, okI e c
  | [], p, _, _ => by intro c hc; rw [codA] at hc; cases hc
  | n :: l, p, h, he => by
    rw [rgtL, Bool.and_eq_true] at h
    rw [lenL, List.length_cons] at he
    intro c hc
    rw [codA] at hc
    by_cases hl : l.length = 0
    · rw [if_pos hl] at hc
      exact (cod_ok n p h.1 c hc).up (by omega)
    · rw [if_neg hl] at hc
      rcases List.mem_cons.1 hc with rfl | hc
      · exact ⟨by simp, by simp, by simp; omega⟩
      rcases List.mem_append.1 hc with hc | hc
      · exact (cod_ok n _ h.1 c hc).up (by omega)
      rcases List.mem_cons.1 hc with rfl | hc
      · exact ⟨by simp, by simp, by simp⟩
      · exact codA_ok e l _ h.2 (by omega) c hc
end
theorem prg_closed {n : Ni} (h : rgtN n = true) : clsdB (prgN n) = true := by
  have hlen := prg_len h
  unfold clsdB
  rw [hlen]
  simp only [Bool.and_eq_true, decide_eq_true_eq, List.all_eq_true, List.mem_range]
  refine ⟨by omega, fun i hi => ?_⟩
  have hc := cod_len n 1 h
  have hok := cod_ok n 1 h
  unfold prgN
  match i, hi with
  | 0, _ => simp [leadB]
  | i + 1, hi =>
    rw [List.getElem?_cons_succ, List.getElem?_append]
    by_cases h1 : i < (codN n 1).length
    · rw [if_pos h1, List.getElem?_eq_getElem h1]
      have hm := hok _ (List.getElem_mem h1)
      generalize (codN n 1)[i] = c at hm ⊢
      obtain ⟨h6, h2, h1'⟩ := hm
      simp only [leadB, if_neg h6]
      by_cases hx : c.o = 2
      · rw [if_pos hx]; have := h2 hx; simp; omega
      rw [if_neg hx]
      by_cases hy : c.o = 1
      · rw [if_pos hy]; have := h1' hy; simp; omega
      rw [if_neg hy]; simp; omega
    · rw [if_neg h1]
      have : i - (codN n 1).length = 0 ∨ i - (codN n 1).length = 1 := by omega
      rcases this with e | e <;> rw [e]
      · simp [leadB]; omega
      · simp [leadB]
/-! how many nodes may be yet -/
mutual
def lftN : Ni → Int → Int | .mk _ _ _ l, m => lftL l (m - 1)
def lftL : List Ni → Int → Int | [], m => m | n :: l, m => if m < 0 then -1 else lftL l (lftN n m)
end
theorem lft_eq (n : Ni) (m : Int) : lftN n m = lftL n.kids (m - 1) := by cases n; rw [lftN]; rfl
mutual
theorem lftN_is : ∀ (n : Ni) (m : Int), 0 ≤ m → -1 ≤ lftN n m ∧ lftN n m ≤ m - 1 ∧ (0 ≤ lftN n m → lftN n m = m - szN n)
  | .mk k i s l, m, h => by
    rw [lftN, szN]
    have := lftL_is l (m - 1) (by omega)
    omega
theorem lftL_is : ∀ (l : List Ni) (m : Int), -1 ≤ m → -1 ≤ lftL l m ∧ lftL l m ≤ m ∧ (0 ≤ lftL l m → lftL l m = m - szL l)
  | [], m, h => by rw [lftL, szL]; omega
  | n :: l, m, h => by
    rw [lftL, szL]
    by_cases hm : m < 0
    · rw [if_pos hm]; omega
    · rw [if_neg hm]
      have h1 := lftN_is n m (by omega)
      have h2 := lftL_is l (lftN n m) (by omega)
      omega
end
/-! a text's node -/
mutual
def toI : Nd → Ni | .mk k i s l => .mk k i s (toL l)
def toL : List Nd → List Ni | [] => [] | n :: l => toI n :: toL l
end
theorem toL_map (l : List Nd) : toL l = l.map toI := by
  induction l with
  | nil => rfl
  | cons n l ih => rw [toL, ih]; rfl
theorem toI_kids (n : Nd) : (toI n).kids = toL n.kids := by cases n; rw [toI]; rfl
theorem toI_kind (n : Nd) : (toI n).kind = n.kind := by cases n; rw [toI]; rfl
theorem toI_index (n : Nd) : (toI n).index = n.index := by cases n; rw [toI]; rfl
theorem toI_set (n : Nd) : (toI n).set = n.set := by cases n; rw [toI]; rfl
mutual
/-- a node that is right, but for groups' indices up to m -/
def rgD (m : Nat) : Nd → Bool | .mk k i s l => (kidsOk k l.length && (if k = 7 then decide (1 ≤ i ∧ i ≤ m) else decide (i = 0)) && setOk k s) && rgDL m l
def rgDL (m : Nat) : List Nd → Bool | [] => true | n :: l => rgD m n && rgDL m l
end
theorem toL_len (l : List Nd) : (toL l).length = l.length := by rw [toL_map, List.length_map]
mutual
theorem rgD_rgt : ∀ n : Nd, rgD 9 n = true → rgtN (toI n) = true
  | .mk k i s l => by
    rw [rgD, toI, rgtN]
    simp only [Bool.and_eq_true, toL_len]
    intro ⟨⟨⟨h1, h2⟩, h3⟩, h4⟩
    refine ⟨⟨⟨h1, ?_⟩, h3⟩, rgDL_rgt l h4⟩
    unfold idxOk
    by_cases hk : k = 7
    · rw [if_pos hk] at h2; rw [if_pos (by omega)]; simp at h2 ⊢; omega
    · rw [if_neg hk] at h2; rw [if_neg (by omega)]; simp at h2 ⊢; omega
theorem rgDL_rgt : ∀ l : List Nd, rgDL 9 l = true → rgtL (toL l) = true
  | [] => by intro _; rw [toL, rgtL]
  | n :: l => by
    rw [rgDL, toL, rgtL]
    simp only [Bool.and_eq_true]
    exact fun h => ⟨rgD_rgt n h.1, rgDL_rgt l h.2⟩
end
mutual
theorem rgD_up {m m' : Nat} (hm : m ≤ m') : ∀ n : Nd, rgD m n = true → rgD m' n = true
  | .mk k i s l => by
    rw [rgD, rgD]
    simp only [Bool.and_eq_true]
    intro ⟨⟨⟨h1, h2⟩, h3⟩, h4⟩
    refine ⟨⟨⟨h1, ?_⟩, h3⟩, rgDL_up hm l h4⟩
    by_cases hk : k = 7
    · rw [if_pos hk] at h2 ⊢; simp at h2 ⊢; omega
    · rw [if_neg hk] at h2 ⊢; exact h2
theorem rgDL_up {m m' : Nat} (hm : m ≤ m') : ∀ l : List Nd, rgDL m l = true → rgDL m' l = true
  | [] => by intro _; rw [rgDL]
  | n :: l => by
    rw [rgDL, rgDL]
    simp only [Bool.and_eq_true]
    exact fun h => ⟨rgD_up hm n h.1, rgDL_up hm l h.2⟩
end
theorem rgDL_append (m : Nat) (l r : List Nd) : rgDL m (l ++ r) = (rgDL m l && rgDL m r) := by
  induction l with
  | nil => simp [rgDL]
  | cons n l ih => rw [List.cons_append, rgDL, rgDL, ih, Bool.and_assoc]
theorem rgD_one (m : Nat) (x : Nat) (l : List Nd) (hx : x = 2 ∨ x = 3) (h : rgDL m l = true) : rgD m (oneN x l) = true := by
  unfold oneN
  match l, h with
  | [], _ => simp [ndE, rgD, rgDL, kidsOk, setOk]
  | [n], h => rw [rgDL, Bool.and_eq_true] at h; exact h.1
  | a :: b :: l, h =>
    simp only
    rw [rgD, h]
    rcases hx with rfl | rfl <;> simp [kidsOk, setOk]
theorem rgD_last {m : Nat} {l : List Nd} {n : Nd} (h : l.getLast? = some n) (hl : rgDL m l = true) : rgD m n = true ∧ rgDL m l.dropLast = true := by
  have hne : l ≠ [] := by rintro rfl; cases h
  have e : l.getLast hne = n := by rw [List.getLast?_eq_some_getLast hne] at h; exact Option.some.inj h
  have e2 := List.dropLast_concat_getLast hne
  rw [e] at e2
  rw [← e2, rgDL_append, Bool.and_eq_true, rgDL, rgDL, Bool.and_true] at hl
  exact ⟨hl.2, hl.1⟩
/-- all that a machine holds is right -/
def mcR (q : Mc) : Prop := rgDL q.c q.al = true ∧ rgDL q.c q.it = true ∧ ∀ f ∈ q.st, rgDL q.c f.1 = true ∧ rgDL q.c f.2.1 = true ∧ 1 ≤ f.2.2 ∧ f.2.2 ≤ q.c
theorem step_rgt {x : Sg} {q q' : Mc} (h : stepM x q = some q') (hq : mcR q) : mcR q' := by
  obtain ⟨st, al, it, c⟩ := q
  obtain ⟨ha, hi, hs⟩ := hq
  simp only at ha hi hs
  unfold stepM at h
  split at h
  · cases h; refine ⟨ha, ?_, hs⟩; simp only [rgDL_append, hi, rgDL, rgD]; simp [kidsOk, setOk]
  split at h
  · cases h; refine ⟨ha, ?_, hs⟩; simp only [rgDL_append, hi, rgDL, rgD]; simp [kidsOk, setOk]
  split at h
  · cases h; refine ⟨ha, ?_, hs⟩; simp only [rgDL_append, hi, rgDL, rgD]; simp [kidsOk, setOk]
  split at h
  · split at h
    · cases h
    · rename_i n hn
      cases h
      simp only at hn
      obtain ⟨h1, h2⟩ := rgD_last hn hi
      refine ⟨ha, ?_, hs⟩
      have hk : ∀ k : Nat, (k = 4 ∨ k = 5 ∨ k = 6) → rgD c (.mk k 0 emp [n]) = true := by
        rintro k (rfl | rfl | rfl) <;> (rw [rgD, rgDL, rgDL, h1]; simp [kidsOk, setOk])
      have hk := hk (if x.m = 43 then 5 else if x.m = 63 then 6 else 4) (by split <;> (try split) <;> simp)
      simp only [rgDL_append, h2, rgDL, hk]; rfl
  split at h
  · cases h
    refine ⟨?_, by simp [rgDL], hs⟩
    have := rgD_one c 2 it (.inl rfl) hi
    rw [oneN_cat] at this
    simp only [rgDL_append, ha, rgDL, this]; rfl
  split at h
  · cases h
    refine ⟨by simp [rgDL], by simp [rgDL], fun f hf => ?_⟩
    simp only at hf ⊢
    rcases List.mem_cons.1 hf with rfl | hf
    · exact ⟨rgDL_up (by omega) _ ha, rgDL_up (by omega) _ hi, by simp, by simp⟩
    · obtain ⟨f1, f2, f3, f4⟩ := hs f hf
      exact ⟨rgDL_up (by omega) _ f1, rgDL_up (by omega) _ f2, f3, by omega⟩
  split at h
  · split at h
    · cases h
    · rename_i al2 it2 i2 r hst
      simp only at hst
      cases h
      subst hst
      obtain ⟨f1, f2, f3, f4⟩ := hs _ (List.mem_cons_self ..)
      simp only at f1 f2 f3 f4
      have h1 := rgD_one c 2 it (.inl rfl) hi
      rw [oneN_cat] at h1
      have h2 := rgD_one c 3 (al ++ [catN it]) (.inr rfl) (by rw [rgDL_append, ha, rgDL, h1, rgDL]; rfl)
      rw [oneN_alt] at h2
      refine ⟨f1, ?_, fun f hf => hs f (List.mem_cons_of_mem _ hf)⟩
      simp only [rgDL_append, f2, rgDL, rgD, h2]
      simp [kidsOk, setOk]; omega
  · cases h
theorem run_rgt {l : List Sg} : ∀ {q q' : Mc}, runM l q = some q' → mcR q → mcR q' := by
  induction l with
  | nil => intro q q' h; cases h; exact id
  | cons x l ih =>
    intro q q' h hq
    have h : (stepM x q).bind (runM l) = some q' := h
    cases hx : stepM x q with
    | none => rw [hx] at h; cases h
    | some q1 => rw [hx] at h; exact ih h (step_rgt hx hq)
/-! how long a text's code is -/
theorem lenI_kids (k i : Nat) (s : BitVec 256) (l : List Nd) : lenN (toI (.mk k i s l)) = lenL (toL l) + ownC k l.length := by rw [toI, lenN, toL_len]
theorem toL_append (l r : List Nd) : toL (l ++ r) = toL l ++ toL r := by rw [toL_map, toL_map, toL_map, List.map_append]
theorem len_cat (l : List Nd) : lenN (toI (catN l)) = lenL (toL l) := by
  rw [← oneN_cat]
  unfold oneN
  match l with
  | [] => simp [ndE, toI, toL, lenN, lenL, ownC]
  | [n] => simp only [toL]; rw [lenL_one]
  | a :: b :: l => simp only; rw [lenI_kids]; simp [ownC]
theorem len_alt (l : List Nd) : lenN (toI (altN l)) = lenL (toL l) + 2 * (l.length - 1) := by
  rw [← oneN_alt]
  unfold oneN
  match l with
  | [] => simp [ndE, toI, toL, lenN, lenL, ownC]
  | [n] => simp only [toL]; rw [lenL_one]; simp
  | a :: b :: l => simp only; rw [lenI_kids]; simp [ownC]
def stW : List (List Nd × List Nd × Nat) → Nat
  | [] => 0
  | (al, it, _) :: r => lenL (toL al) + 2 * al.length + lenL (toL it) + stW r
def mcW (q : Mc) : Nat := stW q.st + (lenL (toL q.al) + 2 * q.al.length + lenL (toL q.it))
theorem step_lenI {x : Sg} {q q' : Mc} (h : stepM x q = some q') : mcW q' ≤ mcW q + 2 := by
  obtain ⟨st, al, it, c⟩ := q
  unfold stepM at h
  split at h
  · cases h; simp only [mcW, toL_append, lenL_append, toL, lenL, lenI_kids]; simp [ownC]; omega
  split at h
  · cases h; simp only [mcW, toL_append, lenL_append, toL, lenL, lenI_kids]; simp [ownC]; omega
  split at h
  · cases h; simp only [mcW, toL_append, lenL_append, toL, lenL, lenI_kids]; simp [ownC]; omega
  split at h
  · split at h
    · cases h
    · rename_i n hn
      cases h
      simp only at hn
      have hne : it ≠ [] := by rintro rfl; cases hn
      have e : it.getLast hne = n := by rw [List.getLast?_eq_some_getLast hne] at hn; exact Option.some.inj hn
      have e2 := List.dropLast_concat_getLast hne
      rw [e] at e2
      have e3 : lenL (toL it) = lenL (toL it.dropLast) + lenN (toI n) := by
        conv => lhs; rw [← e2]
        rw [toL_append, lenL_append, toL, toL, lenL_one]
      simp only [mcW, toL_append, lenL_append, toL, lenL, lenI_kids, e3]
      have : ∀ k : Nat, (k = 4 ∨ k = 5 ∨ k = 6) → ownC k 1 ≤ 2 := by rintro k (rfl | rfl | rfl) <;> decide
      have := this (if x.m = 43 then 5 else if x.m = 63 then 6 else 4) (by split <;> (try split) <;> simp)
      simp only [List.length_cons, List.length_nil, Nat.zero_add]; omega
  split at h
  · cases h
    simp only [mcW, toL_append, lenL_append, toL, lenL, len_cat]; simp; omega
  split at h
  · cases h; simp only [mcW, stW, toL, lenL]; simp; omega
  split at h
  · split at h
    · cases h
    · rename_i al2 it2 i2 r hs
      simp only at hs
      cases h
      subst hs
      simp only [mcW, stW, toL_append, lenL_append, toL, lenL, lenI_kids, len_alt, len_cat]
      have : ownC (7 : Nat) 1 = 2 := rfl
      simp [ownC]; omega
  · cases h
theorem run_lenI {l : List Sg} : ∀ {q q' : Mc}, runM l q = some q' → mcW q' ≤ mcW q + 2 * l.length := by
  induction l with
  | nil => intro q q' h; cases h; simp
  | cons x l ih =>
    intro q q' h
    have h : (stepM x q).bind (runM l) = some q' := h
    cases hq : stepM x q with
    | none => rw [hq] at h; cases h
    | some q1 => rw [hq] at h; have := step_lenI hq; have := ih h; simp; omega
theorem res_right {l : List Sg} {n : Nd} (h : resE l 0 = some n) (hg : opnC l ≤ 9) : rgtN (toI n) = true ∧ lenN (toI n) ≤ 2 * l.length := by
  rw [resE_fin] at h
  cases hq : runM l ⟨[], [], [], 0⟩ with
  | none => rw [hq] at h; cases h
  | some q =>
    have h1 := run_lenI hq
    have h2 := (run_len hq).2
    have h3 := run_rgt hq ⟨by simp [rgDL], by simp [rgDL], by simp⟩
    rw [hq] at h
    obtain ⟨st, al, it, c'⟩ := q
    cases st with
    | cons f r => cases h
    | nil =>
      have h : some (altN (al ++ [catN it])) = some n := h
      cases h
      obtain ⟨ha, hi, -⟩ := h3
      simp only at ha hi h2
      have e1 := rgD_one c' 2 it (.inl rfl) hi
      rw [oneN_cat] at e1
      have e2 := rgD_one c' 3 (al ++ [catN it]) (.inr rfl) (by rw [rgDL_append, ha, rgDL, e1, rgDL]; rfl)
      rw [oneN_alt] at e2
      refine ⟨rgD_rgt _ (rgD_up (by omega) _ e2), ?_⟩
      rw [len_alt, toL_append, lenL_append, toL, toL, lenL_one, len_cat]
      simp only [mcW, stW, toL, lenL, List.length_nil] at h1
      simp; omega
/-- a text's node is right, and its program fits -/
theorem par_right {s : ByteArray} (h : (parN s).2 = 0) : rgtN (toI (parN s).1) = true ∧ lenN (toI (parN s).1) ≤ 120 := by
  unfold parN at h ⊢
  split at h
  · cases h
  rename_i hs
  rw [if_neg hs]
  split at h
  · cases h
  rename_i n hn
  split at h
  · cases h
  rename_i hg
  simp only [if_neg hg]
  rw [fin_start] at hn
  cases hss : sgn s 0 with
  | none => rw [hss] at hn; cases hn
  | some l =>
    rw [hss] at hn
    have hn : resE l 0 = some n := hn
    have h1 := sgn_len s _ 0 l (Nat.le_refl _) hss
    have h2 := res_grp hn
    obtain ⟨h3, h4⟩ := res_right hn (by omega)
    exact ⟨h3, by omega⟩
end Go.Proofs.YtlkjejmmoalliaaGreatDoor

namespace Go.Proofs.YtlkjejmmoalliaaGreatDoor
open Go.RowKit

def cellsN (n : Ni) (kv : Value) : List Value := [.int .i64 n.kind, .int .i64 n.index, .int .u64 (wd n.set 0), .int .u64 (wd n.set 1), .int .u64 (wd n.set 2), .int .u64 (wd n.set 3), kv]
abbrev niV (n : Ni) (kv : Value) : Value := .agg #[.int .i64 n.kind, .int .i64 n.index, .int .u64 (wd n.set 0), .int .u64 (wd n.set 1), .int .u64 (wd n.set 2), .int .u64 (wd n.set 3), kv]
/-- a slice of nodes that lies in memory, in blocks that p lets -/
inductive KidsI (w : World) (p : Nat → Prop) : Value → List Ni → Prop
  | empty (a : Option Addr) (c : Nat) : KidsI w p (.slice a 0 c) []
  | items (b off c : Nat) (l : List Ni) (kv : Nat → Value) (hl : l ≠ []) (hp : p b) (hq : l.length ≤ c)
      (hc : ∀ k n, l[k]? = some n → ∀ j u, (cellsN n (kv k))[j]? = some u → w.cell? ⟨b, off + k * 7 + j, none⟩ = some u)
      (hk : ∀ k n, l[k]? = some n → KidsI w p (kv k) n.kids) : KidsI w p (.slice (some ⟨b, off, none⟩) l.length c) l
theorem KidsI.kept {w w' : World} {p : Nat → Prop} {v : Value} {l : List Ni} (h : KidsI w p v l) (hw : ∀ b off u, p b → w.cell? ⟨b, off, none⟩ = some u → w'.cell? ⟨b, off, none⟩ = some u) : KidsI w' p v l := by
  induction h with
  | empty a c => exact .empty a c
  | items b off c l kv hl hp hq hc hk ih => exact .items b off c l kv hl hp hq (fun k n hn j u hu => hw _ _ _ hp (hc k n hn j u hu)) ih
theorem KidsI.weak {w : World} {p q : Nat → Prop} {v : Value} {l : List Ni} (h : KidsI w p v l) (hw : ∀ b, b < w.heap.size → p b → q b) : KidsI w q v l := by
  induction h with
  | empty a c => exact .empty a c
  | items b off c l kv hl hp hq hc hk ih =>
    refine .items b off c l kv hl (hw b ?_ hp) hq hc ih
    cases l with
    | nil => exact absurd rfl hl
    | cons n l => exact cell_block (hc 0 n rfl 0 _ rfl)
theorem KidsI.grown {w w' : World} {p : Nat → Prop} {v : Value} {l : List Ni} (h : KidsI w p v l) (g : w.grownBy w' none) : KidsI w' p v l :=
  h.kept fun _ _ _ _ hc => g.cell hc (by simp)
theorem KidsI.shape {w : World} {p : Nat → Prop} {v : Value} {l : List Ni} (h : KidsI w p v l) : ∃ a c, v = .slice a l.length c := by
  cases h with
  | empty a c => exact ⟨a, c, rfl⟩
  | items b off c l kv hl hp hq hc hk => exact ⟨_, c, rfl⟩
theorem KidsI.at {w : World} {p : Nat → Prop} {a : Option Addr} {m c k : Nat} {n : Ni} {l : List Ni} (h : KidsI w p (.slice a m c) l) (hk : l[k]? = some n) :
    ∃ b off x y z, a = some ⟨b, off, none⟩ ∧ (∀ j u, (cellsN n (.slice x y z))[j]? = some u → w.cell? ⟨b, off + k * 7 + j, none⟩ = some u) ∧ KidsI w p (.slice x y z) n.kids := by
  cases h with
  | empty => simp at hk
  | items b off c l kv hl hp hq hc hkk =>
    have h1 := hkk k n hk
    obtain ⟨x, z, e⟩ := h1.shape
    rw [e] at h1
    refine ⟨b, off, x, _, z, rfl, fun j u hu => hc k n hk j u ?_, h1⟩
    rw [e]; exact hu
/-- kids, wherever they lie -/
abbrev KidsE (w : World) (v : Value) (l : List Ni) : Prop := KidsI w (fun _ => True) v l
theorem KidsI.any {w : World} {p : Nat → Prop} {v : Value} {l : List Ni} (h : KidsI w p v l) : KidsE w v l := h.weak fun _ _ _ => trivial
theorem KidsI.len {w : World} {p : Nat → Prop} {a : Option Addr} {m c : Nat} {l : List Ni} (h : KidsI w p (.slice a m c) l) : m = l.length := by
  obtain ⟨a', c', e⟩ := h.shape; cases e; rfl
theorem KidsI.cap {w : World} {p : Nat → Prop} {a : Option Addr} {m c : Nat} {l : List Ni} (h : KidsI w p (.slice a m c) l) (hl : l ≠ []) : l.length ≤ c := by
  cases h with
  | empty => exact absurd rfl hl
  | items b off c l kv hl hp hq hc hkk => exact hq
/-- the first part of a slice of nodes -/
theorem KidsI.front {w : World} {p : Nat → Prop} {a : Option Addr} {m c : Nat} {l r : List Ni} (h : KidsI w p (.slice a m c) (l ++ r)) (hl : l ≠ []) : KidsI w p (.slice a l.length c) l := by
  obtain ⟨q, hq⟩ : ∃ q, q = l ++ r := ⟨_, rfl⟩
  rw [← hq] at h
  cases h with
  | items b off c l' kv hl' hp hq' hc hkk =>
    subst hq
    exact .items b off c l kv hl hp (by rw [List.length_append] at hq'; omega) (fun k n hn => hc k n (by rw [List.getElem?_append_left (List.getElem?_eq_some_iff.1 hn).1]; exact hn)) (fun k n hn => hkk k n (by rw [List.getElem?_append_left (List.getElem?_eq_some_iff.1 hn).1]; exact hn))
  | empty => simp at hq; exact absurd hq.1 hl
/-- a text's node as one of any kind -/
theorem kids_toI {w : World} {p : Nat → Prop} {v : Value} {l : List Nd} (h : KidsAt w p v l) : KidsI w p v (toL l) := by
  induction h with
  | empty a c => rw [toL]; exact .empty a c
  | items b off c l kv hl hp hq hc hk ih =>
    have e : l.length = (toL l).length := (toL_len l).symm
    rw [e]
    have hg : ∀ k n, (toL l)[k]? = some n → ∃ n', l[k]? = some n' ∧ n = toI n' := fun k n hn => by
      rw [toL_map, List.getElem?_map] at hn
      cases hx : l[k]? with
      | none => rw [hx] at hn; cases hn
      | some x => rw [hx] at hn; simp at hn; exact ⟨x, hx, hn.symm⟩
    refine .items b off c (toL l) kv (fun e => hl (by rw [toL_map] at e; simpa using e)) hp (by rw [← e]; exact hq) (fun k n hn j u hu => ?_) (fun k n hn => ?_)
    · obtain ⟨n', hn', rfl⟩ := hg k n hn
      refine hc k n' hn' j u ?_
      unfold cells7
      unfold cellsN at hu
      rw [toI_kind, toI_index, toI_set] at hu
      exact hu
    · obtain ⟨n', hn', rfl⟩ := hg k n hn
      rw [toI_kids]
      exact ih k n' hn'
theorem ndV_toI (n : Nd) (kv : Value) : ndV n kv = niV (toI n) kv := by unfold ndV niV; rw [toI_kind, toI_index, toI_set]
mutual
theorem sz_toI : ∀ n : Nd, szN (toI n) = sizN n
  | .mk k i s l => by rw [toI, szN, sizN, cntN]; have := szL_toL l; simp only [if_true]; omega
theorem szL_toL : ∀ l : List Nd, szL (toL l) = cntL (fun _ => true) l
  | [] => by rw [toL, szL, cntL]
  | n :: l => by rw [toL, szL, cntL, sz_toI n, szL_toL l, sizN]
end
theorem kcase (k : Int) : k = 0 ∨ k = 1 ∨ k = 2 ∨ k = 3 ∨ k = 4 ∨ k = 5 ∨ k = 6 ∨ k = 7 ∨ k = 8 ∨ k = 9 ∨
    ((k == 0) = false ∧ (k == 1) = false ∧ (k == 2) = false ∧ (k == 3) = false ∧ (k == 4) = false ∧ (k == 5) = false ∧ (k == 6) = false ∧ (k == 7) = false ∧ (k == 8) = false ∧ (k == 9) = false) := by
  simp; omega
theorem len_eqI (m k : Nat) : ((m : Int) == (k : Int)) = decide (m = k) := by rw [Bool.eq_iff_iff]; simp; omega
theorem kids_else {k : Int} {m : Nat} (h : ((k == 0) = false ∧ (k == 1) = false ∧ (k == 2) = false ∧ (k == 3) = false ∧ (k == 4) = false ∧ (k == 5) = false ∧ (k == 6) = false ∧ (k == 7) = false ∧ (k == 8) = false ∧ (k == 9) = false)) : kidsOk k m = false := by
  simp at h; unfold kidsOk; rw [if_neg (by omega), if_neg (by omega), if_neg (by omega)]

set_option maxRecDepth 100000 in
set_option maxHeartbeats 4000000 in
theorem cRgtKids (k i : Int) (s : BitVec 256) (a : Option Addr) (m c : Nat) (w : World) :
    Calls Tryz.prog 50 #[.agg #[.int .i64 k, .int .i64 i, .int .u64 (wd s 0), .int .u64 (wd s 1), .int .u64 (wd s 2), .int .u64 (wd s 3), .slice a m c]] w fun e w' => e = .returned (.bool (kidsOk k m)) ∧ w.grownBy w' none := by
  have ga := World.grownBy_alloc w (.cells #[.int .i64 k, .int .i64 i, .int .u64 (wd s 0), .int .u64 (wd s 1), .int .u64 (wd s 2), .int .u64 (wd s 3), .slice a m c] 28) none
  have B1 := Lib.hid (heap_alloc_new w (.cells #[.int .i64 k, .int .i64 i, .int .u64 (wd s 0), .int .u64 (wd s 1), .int .u64 (wd s 2), .int .u64 (wd s 3), .slice a m c] 28))
  have G1 := Lib.hid ga
  clear ga
  have e0 : ((m : Int) == 0) = decide (m = 0) := len_eqI m 0
  have e1 : ((m : Int) == 1) = decide (m = 1) := len_eqI m 1
  have e2 : decide ((2 : Int) ≤ m) = decide (2 ≤ m) := by rw [Bool.eq_iff_iff]; simp; omega
  rcases kcase k with rfl | rfl | rfl | rfl | rfl | rfl | rfl | rfl | rfl | rfl | h
  all_goals
    first
      | (obtain ⟨h0, h1, h2, h3, h4, h5, h6, h7, h8, h9⟩ := h; have HK := Lib.hid (show kidsOk k m = false from kids_else ⟨h0, h1, h2, h3, h4, h5, h6, h7, h8, h9⟩))
      | skip
    go_enter Tryz.func50, Tryz.ntmps50
    go_upto_region 1 with fail
    generalize w.alloc _ = w1 at B1 G1 ⊢
    generalize w.heap.size = q at B1 ⊢
    obtain ⟨c0, c1, c2, c3, c4, c5, c6⟩ := seven_cells B1.out
    go_wp2
    go_ret
    first
      | exact ⟨ret_bool HK.out.symm, G1.out⟩
      | exact ⟨ret_bool (by rw [Bool.eq_iff_iff]; simp [kidsOk]), G1.out⟩
      | exact ⟨ret_bool (by rw [Bool.eq_iff_iff]; simp [kidsOk]; omega), G1.out⟩

set_option maxRecDepth 100000 in
set_option maxHeartbeats 4000000 in
theorem cRgtIdx (k i : Int) (s : BitVec 256) (a : Option Addr) (m c : Nat) (w : World) :
    Calls Tryz.prog 51 #[.agg #[.int .i64 k, .int .i64 i, .int .u64 (wd s 0), .int .u64 (wd s 1), .int .u64 (wd s 2), .int .u64 (wd s 3), .slice a m c]] w fun e w' => e = .returned (.bool (idxOk k i)) ∧ w.grownBy w' none := by
  have ga := World.grownBy_alloc w (.cells #[.int .i64 k, .int .i64 i, .int .u64 (wd s 0), .int .u64 (wd s 1), .int .u64 (wd s 2), .int .u64 (wd s 3), .slice a m c] 28) none
  have B1 := Lib.hid (heap_alloc_new w (.cells #[.int .i64 k, .int .i64 i, .int .u64 (wd s 0), .int .u64 (wd s 1), .int .u64 (wd s 2), .int .u64 (wd s 3), .slice a m c] 28))
  have G1 := Lib.hid ga
  clear ga
  by_cases hk : k = 7
  · subst hk
    cases h1 : decide ((1 : Int) ≤ i)
    all_goals cases h2 : decide (i ≤ (9 : Int))
    all_goals
      have HR := Lib.hid (show idxOk 7 i = (decide ((1 : Int) ≤ i) && decide (i ≤ (9 : Int))) by unfold idxOk; rw [if_pos rfl, Bool.eq_iff_iff]; simp)
      rw [h1, h2] at HR
      go_enter Tryz.func51, Tryz.ntmps51
      go_upto_region 1 with fail
      generalize w.alloc _ = w1 at B1 G1 ⊢
      generalize w.heap.size = q at B1 ⊢
      obtain ⟨c0, c1, c2, c3, c4, c5, c6⟩ := seven_cells B1.out
      go_wp2
      go_ret
      exact ⟨ret_bool HR.out.symm, G1.out⟩
  · have h7 : (k == 7) = false := by simpa using hk
    have HR := Lib.hid (show idxOk k i = (i == 0) by unfold idxOk; rw [if_neg hk, Bool.eq_iff_iff]; simp)
    go_enter Tryz.func51, Tryz.ntmps51
    go_upto_region 1 with fail
    generalize w.alloc _ = w1 at B1 G1 ⊢
    generalize w.heap.size = q at B1 ⊢
    obtain ⟨c0, c1, c2, c3, c4, c5, c6⟩ := seven_cells B1.out
    go_wp2
    go_ret
    exact ⟨ret_bool HR.out.symm, G1.out⟩
end Go.Proofs.YtlkjejmmoalliaaGreatDoor

namespace Go.Proofs.YtlkjejmmoalliaaGreatDoor
open Go.RowKit

/-- what a call answers of each node -/
def AskI (fn : Nat) (f : Ni → Bool) (l : List Ni) : Prop := ∀ n ∈ l, ∀ a m k w, KidsE w (.slice a m k) n.kids → Calls Tryz.prog fn #[niV n (.slice a m k)] w fun e w' => e = .returned (.bool (f n)) ∧ w.grownBy w' none
theorem any_take {f : Ni → Bool} {l : List Ni} {j : Nat} {n : Ni} (h : l[j]? = some n) : (l.take (j + 1)).any f = ((l.take j).any f || f n) := by
  rw [List.take_add_one, h]; simp
theorem any_hit {f : Ni → Bool} {l : List Ni} {j : Nat} {n : Ni} (h : l[j]? = some n) (hf : f n = true) : l.any f = true := List.any_eq_true.2 ⟨n, List.mem_of_getElem? h, hf⟩

set_option maxRecDepth 100000 in
set_option maxHeartbeats 4000000 in
theorem cIndexI (fn : Nat) (hent : ∀ args w, (callFunc fn args).run Tryz.prog w = .ok (.enter fn args) w) (f : Ni → Bool) (l : List Ni) (hl200 : l.length ≤ 200) (hA : AskI fn f l)
    (a : Option Addr) (m c : Nat) (w : World) (hK : KidsE w (.slice a m c) l) :
    Calls Tryz.prog 67 #[.slice a m c, .func (.func fn) #[] #[]] w fun e w' => (∃ i : Int, e = .returned (.int .i64 i) ∧ decide (i ≥ 0) = l.any f) ∧ w.grownBy w' none := by
  obtain rfl := hK.len
  have HA := Lib.hid hA; have HK := Lib.hid hK
  clear hA hK
  go_enter Tryz.func67, Tryz.ntmps67
  go_wp2
  go_loopw [5, 8] (fun _ i wr => ∃ k : Nat, k ≤ l.length ∧ i = .int .i64 k ∧ Hid ((l.take k).any f = false) ∧ Hid (w.grownBy wr none)) (fun _ i _ => l.length - (intOf i).toNat)
  case atStart => exact ⟨0, Nat.zero_le _, rfl, Lib.hid (by simp), Lib.hid (World.grownBy.refl _ _)⟩
  case round =>
    obtain ⟨k, hk, rfl, ha, hG⟩ := hrel
    by_cases hlt : k < l.length
    · obtain ⟨n', hn'⟩ : ∃ n', l[k]? = some n' := ⟨_, List.getElem?_eq_getElem hlt⟩
      have HN := Lib.hid hn'
      obtain ⟨b0, off, x0, y0, z0, rfl, hc, hk'⟩ := (HK.out.grown hG.out).at hn'
      have c0 : wr.cell? ⟨b0, off + k * 7, none⟩ = some (.int .i64 n'.kind) := hc 0 _ rfl
      have c1 := hc 1 _ rfl
      have c2 := hc 2 _ rfl
      have c3 := hc 3 _ rfl
      have c4 := hc 4 _ rfl
      have c5 := hc 5 _ rfl
      have c6 := hc 6 _ rfl
      have HC := Lib.hid (HA.out n' (List.mem_of_getElem? hn') x0 y0 z0 wr hk')
      clear hc hk' hn'
      cases hq : f n'
      · rw [hq] at HC
        have HT := Lib.hid (show (l.take (k + 1)).any f = false by rw [any_take HN.out, ha.out, hq]; rfl)
        clear hq ha
        go_wp2_with (refine (HC.out).mono ?_; rintro e w1 ⟨rfl, hg⟩; have G := Lib.hid (hG.out.trans hg); clear hg)
        go_roundw
        case rel => exact ⟨k + 1, by omega, by go_num, HT, G⟩
        case measure => simp [intOf]; omega
      · have HI := Lib.hid (any_hit HN.out hq)
        rw [hq] at HC
        clear hq ha
        go_wp2_with (refine (HC.out).mono ?_; rintro e w1 ⟨rfl, hg⟩; have G := Lib.hid (hG.out.trans hg); clear hg)
        go_ret
        exact ⟨⟨_, rfl, by rw [HI.out]; simp⟩, G.out⟩
    · obtain rfl : k = l.length := by omega
      have HI := Lib.hid (show l.any f = false by have := ha.out; rwa [List.take_length] at this)
      go_wp2
      go_ret
      exact ⟨⟨_, rfl, by rw [HI.out]; simp⟩, hG.out⟩

set_option maxHeartbeats 1000000 in
theorem cContI (fn : Nat) (hent : ∀ args w, (callFunc fn args).run Tryz.prog w = .ok (.enter fn args) w) (f : Ni → Bool) (l : List Ni) (hl200 : l.length ≤ 200) (hA : AskI fn f l)
    (a : Option Addr) (m c : Nat) (w : World) (hK : KidsE w (.slice a m c) l) :
    Calls Tryz.prog 53 #[.slice a m c, .func (.func fn) #[] #[]] w fun e w' => e = .returned (.bool (l.any f)) ∧ w.grownBy w' none := by
  have HI := Lib.hid (cIndexI fn hent f l hl200 hA a m c w hK)
  clear hA hK
  go_enter Tryz.func53, Tryz.ntmps53
  go_wp2_with (go_at_call 67; refine (HI.out).mono ?_; rintro e w1 ⟨⟨i, rfl, hi⟩, hg⟩; have G := Lib.hid hg; have HJ := Lib.hid hi; clear hg hi)
  go_ret
  exact ⟨ret_bool HJ.out, G.out⟩

theorem not_rgt (l : List Ni) : l.any (fun n => !rgtN n) = !rgtL l := by
  induction l with
  | nil => simp [rgtL]
  | cons n l ih => rw [List.any_cons, ih, rgtL]; simp

set_option maxRecDepth 100000 in
set_option maxHeartbeats 4000000 in
theorem cRight : ∀ (N : Nat) (n : Ni) (a : Option Addr) (m k : Nat) (w : World), szN n ≤ N → N ≤ 200 → KidsE w (.slice a m k) n.kids →
    Calls Tryz.prog 28 #[niV n (.slice a m k)] w fun e w' => e = .returned (.bool (rgtN n)) ∧ w.grownBy w' none := by
  intro N
  induction N with
  | zero => intro n a m k w h _ _; rw [sz_eq] at h; omega
  | succ N ih =>
    intro n a m k w hN hN2 hK
    obtain rfl := hK.len
    have e1 : ∀ args w, (callFunc 49 args).run Tryz.prog w = .ok (.enter 49 args) w := enters_of Tryz.func49 (by kernel_rfl) rfl
    have hz := sz_eq n
    have hl200 : n.kids.length ≤ 200 := by have := len_le_sz n.kids; omega
    have hA : AskI 49 (fun n => !rgtN n) n.kids := by
      intro n' hn' a m k w hk
      have HC := Lib.hid (ih n' a m k · (by have := szL_mem hn'; omega) (by omega) ·)
      have ga := World.grownBy_alloc w (.cells #[.int .i64 n'.kind, .int .i64 n'.index, .int .u64 (wd n'.set 0), .int .u64 (wd n'.set 1), .int .u64 (wd n'.set 2), .int .u64 (wd n'.set 3), .slice a m k] 28) none
      have B1 := Lib.hid (heap_alloc_new w (.cells #[.int .i64 n'.kind, .int .i64 n'.index, .int .u64 (wd n'.set 0), .int .u64 (wd n'.set 1), .int .u64 (wd n'.set 2), .int .u64 (wd n'.set 3), .slice a m k] 28))
      have K1 := Lib.hid (hk.grown ga)
      have G1 := Lib.hid ga
      clear ga hk ih hz hl200 hK hN e1
      go_enter Tryz.func49, Tryz.ntmps49
      go_upto_region 1 with fail
      generalize w.alloc _ = w1 at B1 K1 G1 ⊢
      generalize w.heap.size = q at B1 ⊢
      obtain ⟨c0, c1, c2, c3, c4, c5, c6⟩ := seven_cells B1.out
      go_wp2_with (go_at_call 28; refine (HC.out _ K1.out).mono ?_; rintro e w5 ⟨rfl, g5⟩; have G5 := Lib.hid (G1.out.trans g5); clear g5)
      go_ret
      exact ⟨rfl, G5.out⟩
    have HI := Lib.hid (fun w h => cContI 49 e1 _ n.kids hl200 hA a n.kids.length k w h)
    have HR := Lib.hid (rgt_eq n)
    have HQ := Lib.hid (fun w => cRgtKids n.kind n.index n.set a n.kids.length k w)
    have HX := Lib.hid (fun w => cRgtIdx n.kind n.index n.set a n.kids.length k w)
    have HE := Lib.hid (fun w => cEmpty n.set w)
    have HN := Lib.hid (not_rgt n.kids)
    have hs : setOk n.kind n.set = ((n.kind == 1) || (n.set == emp)) := by unfold setOk; congr 1
    clear ih hz hl200 hA e1 hN
    have ga := World.grownBy_alloc w (.cells #[.int .i64 n.kind, .int .i64 n.index, .int .u64 (wd n.set 0), .int .u64 (wd n.set 1), .int .u64 (wd n.set 2), .int .u64 (wd n.set 3), .slice a n.kids.length k] 28) none
    have B1 := Lib.hid (heap_alloc_new w (.cells #[.int .i64 n.kind, .int .i64 n.index, .int .u64 (wd n.set 0), .int .u64 (wd n.set 1), .int .u64 (wd n.set 2), .int .u64 (wd n.set 3), .slice a n.kids.length k] 28))
    have K1 := Lib.hid (hK.grown ga)
    have G1 := Lib.hid ga
    clear ga hK
    rw [HN.out] at HI
    clear HN
    have H1 : ∃ b, kidsOk n.kind n.kids.length = b := ⟨_, rfl⟩
    have H2 : ∃ b, idxOk n.kind n.index = b := ⟨_, rfl⟩
    have H3 : ∃ b, (n.kind == 1) = b := ⟨_, rfl⟩
    have H4 : ∃ b, (n.set == emp) = b := ⟨_, rfl⟩
    obtain ⟨b1, h1⟩ := H1
    obtain ⟨b2, h2⟩ := H2
    obtain ⟨b3, h3⟩ := H3
    obtain ⟨b4, h4⟩ := H4
    rw [h1] at HQ HR
    rw [h2] at HX HR
    rw [hs, h3, h4] at HR
    rw [h4] at HE
    clear h1 h2 hs h4
    generalize rgtL n.kids = b5 at HI HR
    generalize rgtN n = z at HR ⊢
    cases b1 <;> cases b2 <;> cases b3 <;> cases b4
    all_goals
      go_enter Tryz.func28, Tryz.ntmps28
      go_upto_region 2 with fail
      generalize w.alloc _ = w1 at B1 K1 G1 ⊢
      generalize w.heap.size = q at B1 ⊢
      have Z1 := Lib.hid (World.grownBy.refl w1 none)
      obtain ⟨c0, c1, c2, c3, c4, c5, c6⟩ := seven_cells B1.out
      go_wp2_with ((first
        | (go_at_call 50; refine (HQ.out _).mono ?_)
        | (go_at_call 51; refine (HX.out _).mono ?_)
        | (go_at_call 52; refine (HE.out _).mono ?_)
        | (go_at_call 53; refine (HI.out _ (K1.out.grown Z1.out)).mono ?_)); rintro e w5 ⟨rfl, g5⟩; have Z5 := Lib.hid (Z1.out.trans g5); clear g5 Z1 c0 c1 c2 c3 c4 c5 c6; have Z1 := Z5; clear Z5; obtain ⟨c0, c1, c2, c3, c4, c5, c6⟩ := seven_cells (heap_grown Z1.out B1.out))
      go_ret
      exact ⟨ret_bool (by rw [HR.out]; simp), G1.out.trans Z1.out⟩
end Go.Proofs.YtlkjejmmoalliaaGreatDoor

namespace Go.Proofs.YtlkjejmmoalliaaGreatDoor
open Go.RowKit

set_option maxRecDepth 100000 in
set_option maxHeartbeats 4000000 in
theorem cOwn (k i : Int) (s : BitVec 256) (a : Option Addr) (m c : Nat) (w : World) (hk : kidsOk k m = true) (hm : m ≤ 200) :
    Calls Tryz.prog 54 #[.agg #[.int .i64 k, .int .i64 i, .int .u64 (wd s 0), .int .u64 (wd s 1), .int .u64 (wd s 2), .int .u64 (wd s 3), .slice a m c]] w fun e w' => e = .returned (.int .i64 (ownC k m)) ∧ w.grownBy w' none := by
  have ga := World.grownBy_alloc w (.cells #[.int .i64 k, .int .i64 i, .int .u64 (wd s 0), .int .u64 (wd s 1), .int .u64 (wd s 2), .int .u64 (wd s 3), .slice a m c] 28) none
  have B1 := Lib.hid (heap_alloc_new w (.cells #[.int .i64 k, .int .i64 i, .int .u64 (wd s 0), .int .u64 (wd s 1), .int .u64 (wd s 2), .int .u64 (wd s 3), .slice a m c] 28))
  have G1 := Lib.hid ga
  clear ga
  have HM := Lib.hid (show k = 3 → 2 ≤ m from fun h => kids_two hk (.inr h))
  have hk := kids_kind hk
  have hc : k = 0 ∨ k = 1 ∨ k = 2 ∨ k = 3 ∨ k = 4 ∨ k = 5 ∨ k = 6 ∨ k = 7 ∨ k = 8 ∨ k = 9 := by omega
  clear hk
  rcases hc with rfl | rfl | rfl | rfl | rfl | rfl | rfl | rfl | rfl | rfl
  all_goals
    go_enter Tryz.func54, Tryz.ntmps54
    go_upto_region 1 with fail
    generalize w.alloc _ = w1 at B1 G1 ⊢
    generalize w.heap.size = q at B1 ⊢
    obtain ⟨c0, c1, c2, c3, c4, c5, c6⟩ := seven_cells B1.out
    go_wp2
    go_ret
    exact ⟨ret_int (by have hm2 := HM.out; simp [ownC]; try (simp at hm2; omega)), G1.out⟩

set_option maxRecDepth 100000 in
set_option maxHeartbeats 4000000 in
theorem cLength0 : ∀ (N : Nat) (n : Ni) (a : Option Addr) (m k : Nat) (w : World), szN n ≤ N → N ≤ 200 → rgtN n = true → KidsE w (.slice a m k) n.kids →
    Calls Tryz.prog 29 #[niV n (.slice a m k)] w fun e w' => e = .returned (.int .i64 (lenN n)) ∧ w.grownBy w' none := by
  intro N
  induction N with
  | zero => intro n a m k w h _ _ _; rw [sz_eq] at h; omega
  | succ N ih =>
    intro n a m k w hN hN2 hR hK
    obtain rfl := hK.len
    have hz := sz_eq n
    have hl200 : n.kids.length ≤ 200 := by have := len_le_sz n.kids; omega
    have HI := Lib.hid (fun n a m k w h hr hk => ih n a m k w h (by omega) hr hk)
    rw [rgt_eq] at hR
    simp only [Bool.and_eq_true] at hR
    obtain ⟨⟨⟨hk, -⟩, -⟩, hl⟩ := hR
    have HO := Lib.hid (fun w => cOwn n.kind n.index n.set a n.kids.length k w hk hl200)
    have HZ := Lib.hid (len_eq n)
    have HL := Lib.hid (show lenL n.kids + ownC n.kind n.kids.length ≤ 1000 by have := lenN_le n; rw [len_eq] at this; omega)
    generalize ownC n.kind n.kids.length = o at HO HZ HL
    generalize lenN n = z at HZ ⊢
    obtain ⟨l, hl'⟩ : ∃ l, n.kids = l := ⟨_, rfl⟩
    rw [hl'] at hK hz hl200 hl HO HZ HL ⊢
    have HS := Lib.hid (show ∀ n' ∈ l, szN n' ≤ N from fun n' h' => by have := szL_mem h'; omega)
    have HG := Lib.hid hl
    clear ih hN hN2 hz hl' hk hl
    have ga := World.grownBy_alloc w (.cells #[.int .i64 n.kind, .int .i64 n.index, .int .u64 (wd n.set 0), .int .u64 (wd n.set 1), .int .u64 (wd n.set 2), .int .u64 (wd n.set 3), .slice a l.length k] 28) none
    have B1 := Lib.hid (heap_alloc_new w (.cells #[.int .i64 n.kind, .int .i64 n.index, .int .u64 (wd n.set 0), .int .u64 (wd n.set 1), .int .u64 (wd n.set 2), .int .u64 (wd n.set 3), .slice a l.length k] 28))
    have K1 := Lib.hid (hK.grown ga)
    have G1 := Lib.hid ga
    clear ga hK
    go_enter Tryz.func29, Tryz.ntmps29
    go_upto_region 1 with fail
    generalize w.alloc _ = w1 at B1 K1 G1 ⊢
    generalize w.heap.size = q at B1 ⊢
    obtain ⟨c0, c1, c2, c3, c4, c5, c6⟩ := seven_cells B1.out
    go_wp2_with (go_at_call 54; refine (HO.out _).mono ?_; rintro e w2 ⟨rfl, g2⟩; clear c0 c1 c2 c3 c4 c5 c6; have B2 := Lib.hid (heap_grown g2 B1.out); have G2 := Lib.hid (G1.out.trans g2); have K2 := Lib.hid (K1.out.grown g2); clear g2; obtain ⟨c0, c1, c2, c3, c4, c5, c6⟩ := seven_cells B2.out)
    clear c0 c1 c2 c3 c4 c5 c6 B2 K1 G1 B1
    go_loopw [3, 5, 11] (fun v _ i wr => ∃ j : Nat, j ≤ l.length ∧ i = .int .i64 j ∧ v = .int .i64 (o + lenL (l.take j) : Nat) ∧ Hid (w2.grownBy wr none)) (fun _ _ i _ => l.length - (intOf i).toNat)
    case atStart => exact ⟨0, Nat.zero_le _, rfl, by rw [List.take_zero, lenL]; rfl, Lib.hid (World.grownBy.refl _ _)⟩
    case round =>
      obtain ⟨j, hj, rfl, rfl, hG⟩ := hrel
      have hle := lenL_take_le l j
      by_cases hlt : j < l.length
      · obtain ⟨n', hn'⟩ : ∃ n', l[j]? = some n' := ⟨_, List.getElem?_eq_getElem hlt⟩
        have HT := Lib.hid (lenL_take hn')
        have HS' := Lib.hid (HS.out n' (List.mem_of_getElem? hn'))
        have HR' := Lib.hid (rgtL_mem HG.out (List.mem_of_getElem? hn'))
        have hln := lenL_mem (List.mem_of_getElem? hn')
        obtain ⟨b0, off, x0, y0, z0, rfl, hc, hk'⟩ := (K2.out.grown hG.out).at hn'
        have c0 : wr.cell? ⟨b0, off + j * 7, none⟩ = some (.int .i64 n'.kind) := hc 0 _ rfl
        have c1 := hc 1 _ rfl
        have c2 := hc 2 _ rfl
        have c3 := hc 3 _ rfl
        have c4 := hc 4 _ rfl
        have c5 := hc 5 _ rfl
        have c6 := hc 6 _ rfl
        have ga := World.grownBy_alloc wr (.cells #[.int .i64 n'.kind, .int .i64 n'.index, .int .u64 (wd n'.set 0), .int .u64 (wd n'.set 1), .int .u64 (wd n'.set 2), .int .u64 (wd n'.set 3), .slice x0 y0 z0] 28) none
        have B3 := Lib.hid (heap_alloc_new wr (.cells #[.int .i64 n'.kind, .int .i64 n'.index, .int .u64 (wd n'.set 0), .int .u64 (wd n'.set 1), .int .u64 (wd n'.set 2), .int .u64 (wd n'.set 3), .slice x0 y0 z0] 28))
        have K3 := Lib.hid (hk'.grown ga)
        have G3 := Lib.hid (hG.out.trans ga)
        obtain ⟨u, hu⟩ : ∃ u, u = lenL (l.take j) := ⟨_, rfl⟩
        obtain ⟨v, hv⟩ : ∃ v, v = lenN n' := ⟨_, rfl⟩
        have CI := Lib.hid (fun w => HI.out n' x0 y0 z0 w HS'.out HR'.out)
        rw [← hu] at HT hle
        rw [← hu]
        rw [← hv] at HT CI hln
        have hb := HL.out
        clear hc hk' hn' ga hu hv
        go_upto_region 5 with fail
        clear c0 c1 c2 c3 c4 c5 c6
        generalize wr.alloc _ = w4 at B3 K3 G3 ⊢
        generalize wr.heap.size = q4 at B3 ⊢
        obtain ⟨c0, c1, c2, c3, c4, c5, c6⟩ := seven_cells B3.out
        go_wp2_with (go_at_call 29; refine (CI.out _ K3.out).mono ?_; rintro e w5 ⟨rfl, g5⟩; have G5 := Lib.hid (G3.out.trans g5); clear g5)
        go_roundw
        case rel => exact ⟨j + 1, by omega, by go_num, by rw [HT.out]; go_num, G5⟩
        case measure => simp [intOf]; omega
      · obtain rfl : j = l.length := by omega
        have HE := Lib.hid (show ((o + lenL (l.take l.length) : Nat) : Int) = (z : Nat) by rw [List.take_length, HZ.out]; omega)
        go_wp2
        go_ret
        exact ⟨ret_int HE.out, G2.out.trans hG.out⟩

end Go.Proofs.YtlkjejmmoalliaaGreatDoor

/- Regular expressions, plainly: signs, classes, nodes; a machine with a stack that makes a node of signs. -/
import Derived.Test.YtonbcldhbinmeaaDoorClsPlainB
namespace Go.Proofs.YtonbcldhbinmeaaDoor

/-- a node -/
inductive Nd where
  | mk (k i : Nat) (s : BitVec 256) (l : List Nd)
def Nd.kind : Nd → Nat | .mk k _ _ _ => k
def Nd.index : Nd → Nat | .mk _ i _ _ => i
def Nd.set : Nd → BitVec 256 | .mk _ _ s _ => s
def Nd.kids : Nd → List Nd | .mk _ _ _ l => l
def ndE : Nd := .mk 0 0 emp []

/-- a sign: its mark, or 0 and a set -/
structure Sg where
  m : Nat
  s : BitVec 256

/-- the bytes of a class up to its closing bracket, each with whether it stood bare; where that bracket stands -/
def gath (s : ByteArray) (i : Nat) (acc : List (Nat × Bool)) : Option (List (Nat × Bool) × Nat) :=
  if h : i < s.size then
    if s[i] = 93 then some (acc, i)
    else if s[i] = 92 then (if h2 : i + 1 < s.size then gath s (i + 2) (acc ++ [(s[i + 1].toNat, false)]) else none)
    else gath s (i + 1) (acc ++ [(s[i].toNat, true)])
  else none
termination_by s.size - i

/-- which bytes the members have -/
def rng (l : List (Nat × Bool)) (i : Nat) (f : Nat → Bool) : Option (Nat → Bool) :=
  if h : i < l.length then
    let lo := (l[i]).1
    if h2 : i + 2 < l.length then
      if (l[i + 1]).1 = 45 ∧ (l[i + 1]).2 = true then
        (if (l[i + 2]).1 < lo then none else rng l (i + 3) (fun b => f b || decide (lo ≤ b ∧ b ≤ (l[i + 2]).1)))
      else rng l (i + 1) (fun b => f b || b == lo)
    else rng l (i + 1) (fun b => f b || b == lo)
  else some f
termination_by l.length - i

/-- a class from behind its caret on (n: is there one?): its set, where it closes -/
def clsQ (s : ByteArray) (n : Bool) (i : Nat) : Option (BitVec 256 × Nat) :=
  match gath s i [] with
  | none => none
  | some (l, e) => if l = [] then none else match rng l 0 (fun _ => false) with
    | none => none
    | some f => some (mkS (fun b => f b != n), e)
/-- a class from behind its opening bracket on -/
def caret (s : ByteArray) (i : Nat) : Bool := if h : i < s.size then s[i] = 94 else false
def clsP (s : ByteArray) (i : Nat) : Option (BitVec 256 × Nat) := clsQ s (caret s i) (if caret s i then i + 1 else i)

theorem gath_gt (s : ByteArray) : ∀ (n i : Nat) (acc : List (Nat × Bool)) (l : List (Nat × Bool)) (e : Nat), s.size - i ≤ n → gath s i acc = some (l, e) → i ≤ e ∧ e < s.size := by
  intro n
  induction n with
  | zero =>
    intro i acc l e hn h
    unfold gath at h
    rw [dif_neg (by omega)] at h; cases h
  | succ n ih =>
    intro i acc l e hn h
    unfold gath at h
    by_cases hi : i < s.size
    · rw [dif_pos hi] at h
      split at h
      · simp only [Option.some.injEq, Prod.mk.injEq] at h; omega
      · split at h
        · split at h
          · have := ih _ _ _ _ (by omega) h; omega
          · cases h
        · have := ih _ _ _ _ (by omega) h; omega
    · rw [dif_neg hi] at h; cases h
theorem clsQ_gt {s : ByteArray} {n : Bool} {i : Nat} {t : BitVec 256} {e : Nat} (h : clsQ s n i = some (t, e)) : i ≤ e ∧ e < s.size := by
  unfold clsQ at h
  split at h
  · cases h
  · rename_i l e' hg
    have := gath_gt s _ _ _ _ _ (Nat.le_refl _) hg
    split at h
    · cases h
    · split at h
      · cases h
      · simp only [Option.some.injEq, Prod.mk.injEq] at h
        obtain ⟨-, rfl⟩ := h
        exact this
theorem cls_gt {s : ByteArray} {i : Nat} {t : BitVec 256} {e : Nat} (h : clsP s i = some (t, e)) : i ≤ e ∧ e < s.size := by
  have := clsQ_gt h
  split at this <;> omega

def isMark (c : Nat) : Bool := c == 40 || c == 41 || c == 124 || c == 42 || c == 43 || c == 63 || c == 94 || c == 36
/-- a text's signs -/
def sgn (s : ByteArray) (i : Nat) : Option (List Sg) :=
  if h : i < s.size then
    if s[i] = 92 then (if h2 : i + 1 < s.size then (sgn s (i + 2)).map (⟨0, one s[i + 1].toNat⟩ :: ·) else none)
    else if s[i] = 91 then
      match hc : clsP s (i + 1) with
      | none => none
      | some (t, e) => (sgn s (e + 1)).map (⟨0, t⟩ :: ·)
    else if s[i] = 46 then (sgn s (i + 1)).map (⟨0, no (one 10)⟩ :: ·)
    else if isMark s[i].toNat then (sgn s (i + 1)).map (⟨s[i].toNat, emp⟩ :: ·)
    else (sgn s (i + 1)).map (⟨0, one s[i].toNat⟩ :: ·)
  else some []
termination_by s.size - i
decreasing_by
  all_goals first
    | omega
    | (have := cls_gt hc; omega)

/-! the machine -/
def catN (l : List Nd) : Nd := match l with | [] => ndE | [n] => n | l => .mk 2 0 emp l
def altN (l : List Nd) : Nd := match l with | [] => ndE | [n] => n | l => .mk 3 0 emp l
/-- the frames that are open (branches that are done, items, the index of the group), the branches and items of the innermost one, how many groups -/
structure Mc where
  st : List (List Nd × List Nd × Nat)
  al : List Nd
  it : List Nd
  c : Nat
def stepM (x : Sg) (q : Mc) : Option Mc :=
  if x.m = 0 then some { q with it := q.it ++ [.mk 1 0 x.s []] }
  else if x.m = 94 then some { q with it := q.it ++ [.mk 8 0 emp []] }
  else if x.m = 36 then some { q with it := q.it ++ [.mk 9 0 emp []] }
  else if x.m = 42 ∨ x.m = 43 ∨ x.m = 63 then
    match q.it.getLast? with
    | none => none
    | some n => some { q with it := q.it.dropLast ++ [.mk (if x.m = 43 then 5 else if x.m = 63 then 6 else 4) 0 emp [n]] }
  else if x.m = 124 then some { q with al := q.al ++ [catN q.it], it := [] }
  else if x.m = 40 then some ⟨(q.al, q.it, q.c + 1) :: q.st, [], [], q.c + 1⟩
  else if x.m = 41 then
    match q.st with
    | [] => none
    | (al, it, i) :: r => some ⟨r, al, it ++ [.mk 7 i emp [altN (q.al ++ [catN q.it])]], q.c⟩
  else none
def runM : List Sg → Mc → Option Mc
  | [], q => some q
  | x :: l, q => (stepM x q).bind (runM l)
theorem runM_append (l r : List Sg) (q : Mc) : runM (l ++ r) q = (runM l q).bind (runM r) := by
  induction l generalizing q with
  | nil => rfl
  | cons x l ih =>
    show (stepM x q).bind (runM (l ++ r)) = ((stepM x q).bind (runM l)).bind (runM r)
    cases stepM x q with
    | none => rfl
    | some q' => exact ih q'
/-- the node of signs, ahead of which c brackets opened -/
def resE (l : List Sg) (c : Nat) : Option Nd :=
  match runM l ⟨[], [], [], c⟩ with
  | some ⟨[], al, it, _⟩ => some (altN (al ++ [catN it]))
  | _ => none
/-- the node of signs without bars outside of brackets -/
def resB (l : List Sg) (c : Nat) : Option Nd :=
  match runM l ⟨[], [], [], c⟩ with
  | some ⟨[], [], it, _⟩ => some (catN it)
  | _ => none
end Go.Proofs.YtonbcldhbinmeaaDoor

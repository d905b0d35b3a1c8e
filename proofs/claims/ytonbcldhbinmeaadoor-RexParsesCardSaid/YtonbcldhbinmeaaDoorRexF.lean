/- The machine of signs: what its runs keep. -/
import Derived.Test.YtonbcldhbinmeaaDoorRexE
namespace Go.Proofs.YtonbcldhbinmeaaDoor
open Go.RowKit

def clsC (l : List Sg) : Nat := l.countP (fun x => x.m == 41)
def dep (l : List Sg) : Int := (opnC l : Int) - clsC l
theorem dep_nil : dep [] = 0 := rfl
theorem opn_append (l r : List Sg) : opnC (l ++ r) = opnC l + opnC r := by unfold opnC; exact List.countP_append
theorem dep_append (l r : List Sg) : dep (l ++ r) = dep l + dep r := by unfold dep opnC clsC; rw [List.countP_append, List.countP_append]; omega
theorem opn_cons (x : Sg) (l : List Sg) : opnC (x :: l) = (if x.m = 40 then 1 else 0) + opnC l := by
  unfold opnC; rw [List.countP_cons]; by_cases h : x.m = 40 <;> simp [h]; omega
theorem dep_cons (x : Sg) (l : List Sg) : dep (x :: l) = (if x.m = 40 then 1 else 0) - (if x.m = 41 then 1 else 0) + dep l := by
  unfold dep opnC clsC; rw [List.countP_cons, List.countP_cons]
  by_cases h : x.m = 40
  · have h' : ¬ x.m = 41 := by omega
    simp [h]; omega
  · by_cases h' : x.m = 41
    · simp [h']; omega
    · simp [h, h']
/-- what one step does to the frames and the count -/
theorem step_len {x : Sg} {q q' : Mc} (h : stepM x q = some q') : (q'.st.length : Int) = q.st.length + (if x.m = 40 then 1 else 0) - (if x.m = 41 then 1 else 0) ∧ q'.c = q.c + (if x.m = 40 then 1 else 0) := by
  unfold stepM at h
  split at h
  · rename_i e; cases h; simp [e]
  split at h
  · rename_i e; cases h; simp [e]
  split at h
  · rename_i e; cases h; simp [e]
  split at h
  · rename_i e
    have a : x.m ≠ 40 := by omega
    have b : x.m ≠ 41 := by omega
    split at h
    · cases h
    · cases h; simp [a, b]
  split at h
  · rename_i e; cases h; simp [e]
  split at h
  · rename_i e; cases h; simp [e]
  split at h
  · rename_i e
    split at h
    · cases h
    · rename_i hs; cases h; simp [e, hs]
  · cases h
theorem step_close {x : Sg} {q : Mc} (h : x.m = 41) (hs : q.st = []) : stepM x q = none := by
  unfold stepM; simp [h, hs]
/-- frames laid under -/
def liftF (s0 : List (List Nd × List Nd × Nat)) (q : Mc) : Mc := { q with st := q.st ++ s0 }
theorem step_lift (s0 : List (List Nd × List Nd × Nat)) {x : Sg} {q : Mc} (h : x.m = 41 → q.st ≠ []) : stepM x (liftF s0 q) = (stepM x q).map (liftF s0) := by
  obtain ⟨st, al, it, c⟩ := q
  unfold stepM liftF
  by_cases h0 : x.m = 0
  · simp [h0]
  by_cases h1 : x.m = 94
  · simp [h1]
  by_cases h2 : x.m = 36
  · simp [h2]
  by_cases h3 : x.m = 42 ∨ x.m = 43 ∨ x.m = 63
  · simp only [h0, h1, h2, h3, if_true, if_false]
    cases it.getLast? <;> rfl
  by_cases h4 : x.m = 124
  · simp [h4]
  by_cases h5 : x.m = 40
  · simp [h5]
  by_cases h6 : x.m = 41
  · have hs := h h6
    simp only [h6, if_true]
    cases st with
    | nil => exact absurd rfl hs
    | cons f r => obtain ⟨a, i, n⟩ := f; simp
  · simp [h0, h1, h2, h3, h4, h5, h6]
theorem run_lift (s0 : List (List Nd × List Nd × Nat)) (l : List Sg) : ∀ q : Mc, (∀ k, k ≤ l.length → 0 ≤ (q.st.length : Int) + dep (l.take k)) → runM l (liftF s0 q) = (runM l q).map (liftF s0) := by
  induction l with
  | nil => intro q _; rfl
  | cons x l ih =>
    intro q h
    have h1 := h 1 (by simp)
    rw [show (x :: l).take 1 = [x] by simp, dep_cons, dep_nil] at h1
    show (stepM x (liftF s0 q)).bind (runM l) = ((stepM x q).bind (runM l)).map (liftF s0)
    rw [step_lift s0 (by intro e hs; rw [hs] at h1; simp [e] at h1)]
    cases hq : stepM x q with
    | none => rfl
    | some q' =>
      have := (step_len hq).1
      refine ih q' fun k hk => ?_
      have hk' := h (k + 1) (by simp; omega)
      rw [List.take_succ_cons, dep_cons] at hk'
      omega
theorem run_len {l : List Sg} : ∀ {q q' : Mc}, runM l q = some q' → (q'.st.length : Int) = q.st.length + dep l ∧ q'.c = q.c + opnC l := by
  induction l with
  | nil => intro q q' h; cases h; simp [dep_nil, opnC]
  | cons x l ih =>
    intro q q' h
    have h : (stepM x q).bind (runM l) = some q' := h
    cases hq : stepM x q with
    | none => rw [hq] at h; cases h
    | some q1 =>
      rw [hq] at h
      obtain ⟨a, b⟩ := step_len hq
      obtain ⟨a', b'⟩ := ih h
      rw [dep_cons, opn_cons]
      omega
/-- a run that goes through closes nothing that did not open -/
theorem run_pre {l : List Sg} {q q' : Mc} (h : runM l q = some q') (k : Nat) (_ : k ≤ l.length) : 0 ≤ (q.st.length : Int) + dep (l.take k) := by
  rw [← List.take_append_drop k l, runM_append] at h
  cases hq : runM (l.take k) q with
  | none => rw [hq] at h; cases h
  | some q1 => have := (run_len hq).1; omega
/-- a group -/
theorem run_group {a b : Sg} {m : List Sg} (q : Mc) (ha : a.m = 40) (hb : b.m = 41) (h : ∀ k, k ≤ m.length → 0 ≤ dep (m.take k)) (h0 : dep m = 0) :
    runM (a :: m ++ [b]) q = (resE m (q.c + 1)).map fun n => { q with it := q.it ++ [.mk 7 (q.c + 1) emp [n]], c := q.c + 1 + opnC m } := by
  have e1 : stepM a q = some (liftF ((q.al, q.it, q.c + 1) :: q.st) ⟨[], [], [], q.c + 1⟩) := by unfold stepM liftF; simp [ha]
  show (stepM a q).bind (runM (m ++ [b])) = _
  rw [e1]
  show runM (m ++ [b]) _ = _
  rw [runM_append, run_lift _ m _ (fun k hk => by have := h k hk; simpa using this)]
  unfold resE
  cases hm : runM m ⟨[], [], [], q.c + 1⟩ with
  | none => rfl
  | some q1 =>
    obtain ⟨l1, c1⟩ := run_len hm
    obtain ⟨st, al, it, c⟩ := q1
    have hst : st = [] := List.eq_nil_of_length_eq_zero (by simp at l1; omega)
    subst hst
    simp only at c1
    subst c1
    show (stepM b _).bind (runM []) = _
    unfold stepM liftF
    simp [hb, runM]
/-- branches laid ahead of the outermost ones -/
def liftS (acc : List Nd) : List (List Nd × List Nd × Nat) → List (List Nd × List Nd × Nat)
  | [] => []
  | [(al, it, i)] => [(acc ++ al, it, i)]
  | f :: g :: r => f :: liftS acc (g :: r)
def liftA (acc : List Nd) (q : Mc) : Mc := ⟨liftS acc q.st, if q.st = [] then acc ++ q.al else q.al, q.it, q.c⟩
theorem step_liftA (acc : List Nd) (x : Sg) (q : Mc) : stepM x (liftA acc q) = (stepM x q).map (liftA acc) := by
  obtain ⟨st, al, it, c⟩ := q
  unfold stepM liftA
  by_cases h0 : x.m = 0
  · simp [h0]
  by_cases h1 : x.m = 94
  · simp [h1]
  by_cases h2 : x.m = 36
  · simp [h2]
  by_cases h3 : x.m = 42 ∨ x.m = 43 ∨ x.m = 63
  · simp only [h0, h1, h2, h3, if_true, if_false]
    cases it.getLast? <;> rfl
  by_cases h4 : x.m = 124
  · simp [h4]; split <;> simp
  by_cases h5 : x.m = 40
  · simp [h5]
    cases st with
    | nil => simp [liftS]
    | cons f r => obtain ⟨a, i, n⟩ := f; simp [liftS]
  by_cases h6 : x.m = 41
  · simp only [h6, if_true]
    cases st with
    | nil => simp [liftS]
    | cons f r =>
      obtain ⟨a, i, n⟩ := f
      cases r with
      | nil => simp [liftS]
      | cons g r => simp [liftS]
  · simp [h0, h1, h2, h3, h4, h5, h6]
theorem run_liftA (acc : List Nd) (l : List Sg) : ∀ q : Mc, runM l (liftA acc q) = (runM l q).map (liftA acc) := by
  induction l with
  | nil => intro q; rfl
  | cons x l ih =>
    intro q
    show (stepM x (liftA acc q)).bind (runM l) = ((stepM x q).bind (runM l)).map (liftA acc)
    rw [step_liftA]
    cases stepM x q with
    | none => rfl
    | some q' => exact ih q'
/-- the branches that are done outside of all brackets -/
def botA (q : Mc) : List Nd := match q.st.getLast? with | none => q.al | some (al, _, _) => al
theorem step_bot {x : Sg} {q q' : Mc} (h : stepM x q = some q') (hb : x.m = 124 → q.st ≠ []) : botA q' = botA q := by
  obtain ⟨st, al, it, c⟩ := q
  unfold stepM at h
  split at h
  · cases h; rfl
  split at h
  · cases h; rfl
  split at h
  · cases h; rfl
  split at h
  · split at h
    · cases h
    · cases h; rfl
  split at h
  · rename_i e
    cases h
    have := hb e
    unfold botA
    cases st with
    | nil => exact absurd rfl this
    | cons f r => simp [List.getLast?_cons]
  split at h
  · cases h
    unfold botA
    cases st with
    | nil => simp
    | cons f r => simp [List.getLast?_cons]
  split at h
  · split at h
    · cases h
    · rename_i al2 it2 i2 r hs
      simp only at hs
      cases h
      subst hs
      unfold botA
      cases r with
      | nil => simp
      | cons g r => simp [List.getLast?_cons]
  · cases h
theorem run_bot {l : List Sg} : ∀ {q q' : Mc}, runM l q = some q' → (∀ k x, l[k]? = some x → x.m = 124 → (q.st.length : Int) + dep (l.take k) ≠ 0) → botA q' = botA q := by
  induction l with
  | nil => intro q q' h _; cases h; rfl
  | cons x l ih =>
    intro q q' h hb
    have h : (stepM x q).bind (runM l) = some q' := h
    cases hq : stepM x q with
    | none => rw [hq] at h; cases h
    | some q1 =>
      rw [hq] at h
      have a := (step_len hq).1
      have e1 := step_bot hq (fun e hs => hb 0 x rfl e (by rw [hs]; simp [dep_nil]))
      have e2 := ih h (fun k y hy e => by
        have := hb (k + 1) y (by simpa using hy) e
        rw [List.take_succ_cons, dep_cons] at this
        omega)
      rw [e2, e1]
end Go.Proofs.YtonbcldhbinmeaaDoor

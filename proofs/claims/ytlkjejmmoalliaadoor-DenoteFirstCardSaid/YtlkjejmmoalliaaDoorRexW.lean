/- The document's branches and expressions against the machine (plain). -/
import Derived.Test.YtlkjejmmoalliaaDoorRexV
namespace Go.Proofs.YtlkjejmmoalliaaDoor
open Go.RowKit

/-- the signs between two places -/
def seg (l : List Sg) (a b : Nat) : List Sg := (l.drop a).take (b - a)
theorem seg_take (l : List Sg) {a b : Nat} (h : a ≤ b) : l.take b = l.take a ++ seg l a b := by
  unfold seg
  conv => lhs; rw [show b = a + (b - a) by omega, List.take_add]
theorem seg_take_take (l : List Sg) {a b k : Nat} (h : a + k ≤ b) : (seg l a b).take k = seg l a (a + k) := by
  unfold seg; rw [List.take_take]; congr 1; omega
theorem seg_len (l : List Sg) {a b : Nat} (h : b ≤ l.length) : (seg l a b).length = b - a := by unfold seg; simp; omega
theorem seg_get (l : List Sg) {a b k : Nat} {x : Sg} (h : (seg l a b)[k]? = some x) : l[a + k]? = some x ∧ k < b - a := by
  unfold seg at h
  rw [List.getElem?_take] at h
  split at h
  · rename_i hk; rw [List.getElem?_drop] at h; exact ⟨h, hk⟩
  · cases h
theorem dep_seg (l : List Sg) {a b : Nat} (h : a ≤ b) : dep (seg l a b) = dep (l.take b) - dep (l.take a) := by
  have := dep_append (l.take a) (seg l a b); rw [← seg_take l h] at this; omega
theorem opn_seg (l : List Sg) {a b : Nat} (h : a ≤ b) : opnC (l.take b) = opnC (l.take a) + opnC (seg l a b) := by
  have := opn_append (l.take a) (seg l a b); rw [← seg_take l h] at this; omega
theorem dep_next {l : List Sg} {k : Nat} {x : Sg} (h : l[k]? = some x) : dep (l.take (k + 1)) = dep (l.take k) + (if x.m = 40 then 1 else 0) - (if x.m = 41 then 1 else 0) := by
  obtain ⟨hk, e⟩ := List.getElem?_eq_some_iff.1 h
  rw [List.take_succ_eq_append_getElem hk, e, dep_append, dep_cons, dep_nil]; omega
theorem run_next {l : List Sg} {k : Nat} {x : Sg} (h : l[k]? = some x) (q : Mc) : runM (l.take (k + 1)) q = (runM (l.take k) q).bind (stepM x) := by
  obtain ⟨hk, e⟩ := List.getElem?_eq_some_iff.1 h
  rw [List.take_succ_eq_append_getElem hk, e, runM_append]
  congr 1; funext q'
  show (stepM x q').bind (runM []) = _
  cases stepM x q' <;> rfl
theorem run_cut {l : List Sg} (k : Nat) {q : Mc} (h : runM (l.take k) q = none) : runM l q = none := by
  rw [← List.take_append_drop k l, runM_append, h]; rfl
theorem resE_run {l : List Sg} {c : Nat} (h : runM l ⟨[], [], [], c⟩ = none) : resE l c = none := by unfold resE; rw [h]
theorem resB_run {l : List Sg} {c : Nat} (h : runM l ⟨[], [], [], c⟩ = none) : resB l c = none := by unfold resB; rw [h]
theorem resB_some {l : List Sg} {c : Nat} {n : Nd} (h : resB l c = some n) : ∃ it, n = catN it ∧ runM l ⟨[], [], [], c⟩ = some ⟨[], [], it, c + opnC l⟩ := by
  unfold resB at h
  split at h
  · rename_i it c' hq
    have := (run_len hq).2
    simp only at this
    subst this
    cases h
    exact ⟨it, rfl, hq⟩
  · cases h
theorem resB_it {l : List Sg} {c c' : Nat} {it : List Nd} (h : runM l ⟨[], [], [], c⟩ = some ⟨[], [], it, c'⟩) : resB l c = some (catN it) := by unfold resB; rw [h]

/-! an expression's loop -/
structure EI (l : List Sg) (c a i : Nat) (K : List Nd) : Prop where
  r : runM (l.take a) ⟨[], [], [], c⟩ = some ⟨[], K, [], c + opnC (l.take a)⟩
  h : a ≤ i
  p : ∀ k, a ≤ k → k ≤ i → 0 ≤ dep (l.take k)
  b : ∀ k x, a ≤ k → k < i → l[k]? = some x → x.m = 124 → dep (l.take k) ≠ 0
theorem EI.start (l : List Sg) (c : Nat) : EI l c 0 0 [] := by
  refine ⟨by simp [runM, opnC], Nat.le_refl _, fun k _ h => ?_, fun k x _ h => by omega⟩
  obtain rfl : k = 0 := by omega
  simp [dep_nil]
theorem EI.d0 {l : List Sg} {c a i : Nat} {K : List Nd} (h : EI l c a i K) : dep (l.take a) = 0 := by
  have := (run_len h.r).1; simp at this; omega
theorem EI.on {l : List Sg} {c a i : Nat} {K : List Nd} {x : Sg} (h : EI l c a i K) (hx : l[i]? = some x) (hp : 0 ≤ dep (l.take (i + 1))) (hb : x.m = 124 → dep (l.take i) ≠ 0) : EI l c a (i + 1) K := by
  refine ⟨h.r, by have := h.h; omega, fun k h1 h2 => ?_, fun k y h1 h2 hy hm => ?_⟩
  · by_cases hk : k ≤ i
    · exact h.p k h1 hk
    · obtain rfl : k = i + 1 := by omega
      exact hp
  · by_cases hk : k < i
    · exact h.b k y h1 hk hy hm
    · obtain rfl : k = i := by omega
      rw [hx] at hy; cases hy; exact hb hm
/-- what a branch makes of the run so far -/
theorem EI.yes {l : List Sg} {c a i : Nat} {K : List Nd} {n : Nd} (h : EI l c a i K) (hn : resB (seg l a i) (c + opnC (l.take a)) = some n) :
    ∃ it, n = catN it ∧ runM (l.take i) ⟨[], [], [], c⟩ = some ⟨[], K, it, c + opnC (l.take i)⟩ := by
  obtain ⟨it, e, hr⟩ := resB_some hn
  refine ⟨it, e, ?_⟩
  rw [seg_take l h.h, runM_append, h.r]
  show runM (seg l a i) ⟨[], K, [], _⟩ = _
  have := run_liftA K (seg l a i) ⟨[], [], [], c + opnC (l.take a)⟩
  unfold liftA at this
  simp only [List.append_nil, if_true, liftS] at this
  rw [this, hr, opn_append]
  simp [Nat.add_assoc, liftS]
theorem EI.bar {l : List Sg} {c a i : Nat} {K : List Nd} {n : Nd} {x : Sg} (h : EI l c a i K) (hn : resB (seg l a i) (c + opnC (l.take a)) = some n) (hx : l[i]? = some x) (hm : x.m = 124) (hd : dep (l.take i) = 0) : EI l c (i + 1) (i + 1) (K ++ [n]) := by
  obtain ⟨it, rfl, hr⟩ := h.yes hn
  have hd1 : dep (l.take (i + 1)) = 0 := by rw [dep_next hx, hd, hm]; rfl
  refine ⟨?_, Nat.le_refl _, fun k h1 h2 => ?_, fun k y h1 h2 => by omega⟩
  · rw [run_next hx, hr, opn_take hx, hm]
    show stepM x _ = _
    unfold stepM; simp [hm]
  · obtain rfl : k = i + 1 := by omega
    omega
theorem EI.end {l : List Sg} {c a : Nat} {K : List Nd} {n : Nd} (h : EI l c a l.length K) (hn : resB (seg l a l.length) (c + opnC (l.take a)) = some n) : resE l c = some (altN (K ++ [n])) := by
  obtain ⟨it, rfl, hr⟩ := h.yes hn
  rw [List.take_length] at hr
  unfold resE; rw [hr]
/-- a run that goes on behind a: what the branch's own run was -/
theorem EI.seg_run {l : List Sg} {c a i : Nat} {K : List Nd} {q : Mc} (h : EI l c a i K) (hq : runM (l.take i) ⟨[], [], [], c⟩ = some q) :
    ∃ q2, q = liftA K q2 ∧ runM (seg l a i) ⟨[], [], [], c + opnC (l.take a)⟩ = some q2 ∧ botA q2 = [] ∧ (q2.st.length : Int) = dep (l.take i) := by
  rw [seg_take l h.h, runM_append, h.r] at hq
  have hq : runM (seg l a i) ⟨[], K, [], c + opnC (l.take a)⟩ = some q := hq
  have := run_liftA K (seg l a i) ⟨[], [], [], c + opnC (l.take a)⟩
  unfold liftA at this
  simp only [List.append_nil, if_true, liftS] at this
  rw [this] at hq
  cases h2 : runM (seg l a i) ⟨[], [], [], c + opnC (l.take a)⟩ with
  | none => rw [h2] at hq; cases hq
  | some q2 =>
    rw [h2] at hq
    refine ⟨q2, (Option.some.inj hq).symm, rfl, ?_, ?_⟩
    · have hb := run_bot h2 (fun k x hx hm => by
        obtain ⟨hx1, hk⟩ := seg_get l hx
        have h3 := h.b (a + k) x (by omega) (by omega) hx1 hm
        rw [seg_take_take l (by omega), dep_seg l (by omega), h.d0]
        simpa using h3)
      rw [hb]; rfl
    · have h3 := (run_len h2).1
      rw [dep_seg l h.h, h.d0] at h3
      simpa using h3
theorem EI.no {l : List Sg} {c a i : Nat} {K : List Nd} (h : EI l c a i K) (hn : resB (seg l a i) (c + opnC (l.take a)) = none) (hd : dep (l.take i) = 0) : resE l c = none := by
  apply resE_run
  apply run_cut i
  cases hq : runM (l.take i) ⟨[], [], [], c⟩ with
  | none => rfl
  | some q =>
    exfalso
    obtain ⟨q2, -, h2, hb, hl⟩ := h.seg_run hq
    obtain ⟨st, al, it, c'⟩ := q2
    have hst : st = [] := List.eq_nil_of_length_eq_zero (by simp only at hl; omega)
    subst hst
    have hal : al = [] := hb
    subst hal
    rw [resB_it h2] at hn; cases hn
theorem EI.last {l : List Sg} {c a : Nat} {K : List Nd} (h : EI l c a l.length K) (hn : resB (seg l a l.length) (c + opnC (l.take a)) = none) : resE l c = none := by
  cases hq : runM l ⟨[], [], [], c⟩ with
  | none => exact resE_run hq
  | some q =>
    obtain ⟨q2, rfl, h2, hb, hl⟩ := h.seg_run (by rw [List.take_length]; exact hq)
    obtain ⟨st, al, it, c'⟩ := q2
    cases st with
    | nil =>
      have hal : al = [] := hb
      subst hal
      rw [resB_it h2] at hn; cases hn
    | cons f r =>
      unfold resE; rw [hq]
      obtain ⟨x, y, z⟩ := f
      cases r <;> rfl
theorem E_neg {l : List Sg} {c i : Nat} (hi : i ≤ l.length) (h : dep (l.take i) < 0) : resE l c = none := by
  apply resE_run
  cases hq : runM l ⟨[], [], [], c⟩ with
  | none => rfl
  | some q => have := run_pre hq i hi; simp at this; omega

/-! a branch's loop -/
def BI (l : List Sg) (c i : Nat) (L : List Nd) : Prop := runM (l.take i) ⟨[], [], [], c⟩ = some ⟨[], [], L, c + opnC (l.take i)⟩
theorem BI.start (l : List Sg) (c : Nat) : BI l c 0 [] := by unfold BI; simp [runM, opnC]
theorem BI.end {l : List Sg} {c : Nat} {L : List Nd} (h : BI l c l.length L) : resB l c = some (catN L) := by unfold BI at h; rw [List.take_length] at h; exact resB_it h
theorem BI.d0 {l : List Sg} {c i : Nat} {L : List Nd} (h : BI l c i L) : dep (l.take i) = 0 := by
  have := (run_len h).1; simp at this; omega
theorem BI.next {l : List Sg} {c i : Nat} {L L' : List Nd} {x : Sg} (h : BI l c i L) (hx : l[i]? = some x) (hs : stepM x ⟨[], [], L, c + opnC (l.take i)⟩ = some ⟨[], [], L', c + opnC (l.take i)⟩) (hm : x.m ≠ 40) : BI l c (i + 1) L' := by
  unfold BI at *
  rw [run_next hx, h, opn_take hx, if_neg hm]
  exact hs
theorem BI.stop {l : List Sg} {c i : Nat} {L : List Nd} {x : Sg} (h : BI l c i L) (hx : l[i]? = some x) (hs : stepM x ⟨[], [], L, c + opnC (l.take i)⟩ = none) : resB l c = none := by
  apply resB_run
  apply run_cut (i + 1)
  rw [run_next hx, h]; exact hs
theorem BI.set {l : List Sg} {c i : Nat} {L : List Nd} {x : Sg} (h : BI l c i L) (hx : l[i]? = some x) (hm : x.m = 0) : BI l c (i + 1) (L ++ [.mk 1 0 x.s []]) := h.next hx (by unfold stepM; simp [hm]) (by omega)
theorem BI.hat {l : List Sg} {c i : Nat} {L : List Nd} {x : Sg} (h : BI l c i L) (hx : l[i]? = some x) (hm : x.m = 94) : BI l c (i + 1) (L ++ [.mk 8 0 emp []]) := h.next hx (by unfold stepM; simp [hm]) (by omega)
theorem BI.dollar {l : List Sg} {c i : Nat} {L : List Nd} {x : Sg} (h : BI l c i L) (hx : l[i]? = some x) (hm : x.m = 36) : BI l c (i + 1) (L ++ [.mk 9 0 emp []]) := h.next hx (by unfold stepM; simp [hm]) (by omega)
theorem BI.rep {l : List Sg} {c i k : Nat} {L : List Nd} {n : Nd} {x : Sg} (h : BI l c i (L ++ [n])) (hx : l[i]? = some x) (hm : (x.m = 42 ∧ k = 4) ∨ (x.m = 43 ∧ k = 5) ∨ (x.m = 63 ∧ k = 6)) : BI l c (i + 1) (L ++ [.mk k 0 emp [n]]) :=
  h.next hx (by unfold stepM; rcases hm with ⟨hm, rfl⟩ | ⟨hm, rfl⟩ | ⟨hm, rfl⟩ <;> simp [hm]) (by omega)
theorem BI.rep0 {l : List Sg} {c i : Nat} {x : Sg} (h : BI l c i []) (hx : l[i]? = some x) (hm : x.m = 42 ∨ x.m = 43 ∨ x.m = 63) : resB l c = none :=
  h.stop hx (by unfold stepM; rcases hm with hm | hm | hm <;> simp [hm])
theorem BI.bad {l : List Sg} {c i : Nat} {L : List Nd} {x : Sg} (h : BI l c i L) (hx : l[i]? = some x) (hm : x.m ≠ 0 ∧ x.m ≠ 94 ∧ x.m ≠ 36 ∧ x.m ≠ 42 ∧ x.m ≠ 43 ∧ x.m ≠ 63 ∧ x.m ≠ 40 ∧ x.m ≠ 124) : resB l c = none :=
  h.stop hx (by unfold stepM; simp [hm])
theorem step_ne {x : Sg} {q q' : Mc} (h : stepM x q = some q') (hb : botA q ≠ []) : botA q' ≠ [] := by
  by_cases hm : x.m = 124 ∧ q.st = []
  · obtain ⟨hm, hs⟩ := hm
    obtain ⟨st, al, it, c⟩ := q
    simp only at hs; subst hs
    unfold stepM at h
    simp [hm] at h
    subst h
    unfold botA; simp
  · rw [step_bot h (fun e hs => hm ⟨e, hs⟩)]; exact hb
theorem run_ne {l : List Sg} : ∀ {q q' : Mc}, runM l q = some q' → botA q ≠ [] → botA q' ≠ [] := by
  induction l with
  | nil => intro q q' h hb; cases h; exact hb
  | cons x l ih =>
    intro q q' h hb
    have h : (stepM x q).bind (runM l) = some q' := h
    cases hq : stepM x q with
    | none => rw [hq] at h; cases h
    | some q1 => rw [hq] at h; exact ih h (step_ne hq hb)
theorem BI.bar {l : List Sg} {c i : Nat} {L : List Nd} {x : Sg} (h : BI l c i L) (hx : l[i]? = some x) (hm : x.m = 124) : resB l c = none := by
  have h1 : runM (l.take (i + 1)) ⟨[], [], [], c⟩ = some ⟨[], [catN L], [], c + opnC (l.take i)⟩ := by
    rw [run_next hx, h]
    show stepM x _ = _
    unfold stepM; simp [hm]
  unfold resB
  cases hq : runM l ⟨[], [], [], c⟩ with
  | none => rfl
  | some q =>
    have h2 := hq
    rw [← List.take_append_drop (i + 1) l, runM_append, h1] at h2
    have h3 := run_ne (show runM (l.drop (i + 1)) ⟨[], [catN L], [], c + opnC (l.take i)⟩ = some q from h2) (by simp [botA])
    obtain ⟨st, al, it, c'⟩ := q
    cases st with
    | cons f r => rfl
    | nil =>
      have h3 : al ≠ [] := h3
      cases al with
      | nil => exact absurd rfl h3
      | cons y r => rfl
/-! where a bracket closes -/
theorem deep_next {l : List Sg} {k : Nat} {x : Sg} (h : l[k]? = some x) (d : Int) : deepF x d = d + (dep (l.take (k + 1)) - dep (l.take k)) := by
  rw [dep_next h]; unfold deepF
  by_cases h40 : x.m = 40
  · have : ¬ x.m = 41 := by omega
    simp [h40]; omega
  · by_cases h41 : x.m = 41
    · simp [h41]; omega
    · simp [h40, h41]
theorem clo_spec (l : List Sg) : ∀ (m i : Nat) (d : Int), l.length - i ≤ m →
    (cloF l i d = -1 ∧ ∀ k, i ≤ k → k < l.length → d + dep (l.take (k + 1)) - dep (l.take i) ≠ 0) ∨
    ∃ e : Nat, cloF l i d = e ∧ i ≤ e ∧ e < l.length ∧ d + dep (l.take (e + 1)) - dep (l.take i) = 0 ∧ ∀ k, i ≤ k → k < e → d + dep (l.take (k + 1)) - dep (l.take i) ≠ 0 := by
  intro m
  induction m with
  | zero =>
    intro i d hm
    exact .inl ⟨clo_end d (by omega), fun k h1 h2 => by omega⟩
  | succ m ih =>
    intro i d hm
    by_cases hi : i < l.length
    · have hx : l[i]? = some l[i] := List.getElem?_eq_getElem hi
      have hd := deep_next hx d
      by_cases h0 : deepF l[i] d = 0
      · refine .inr ⟨i, clo_hit hx h0, Nat.le_refl _, hi, by omega, fun k h1 h2 => by omega⟩
      · rw [clo_on hx h0]
        rcases ih (i + 1) (deepF l[i] d) (by omega) with ⟨h1, h2⟩ | ⟨e, h1, h2, h3, h4, h5⟩
        · refine .inl ⟨h1, fun k h3 h4 => ?_⟩
          by_cases hk : k = i
          · subst hk; omega
          · have := h2 k (by omega) h4; omega
        · refine .inr ⟨e, h1, by omega, h3, by omega, fun k h6 h7 => ?_⟩
          by_cases hk : k = i
          · subst hk; omega
          · have := h5 k (by omega) h7; omega
    · exact .inl ⟨clo_end d hi, fun k h1 h2 => by omega⟩
/-- from an opening bracket on the depth stays above as long as it isn't nothing -/
theorem deep_stay {l : List Sg} {i e : Nat} {x : Sg} (hx : l[i]? = some x) (hm : x.m = 40) (he : e ≤ l.length) (h : ∀ k, i ≤ k → k < e → 0 + dep (l.take (k + 1)) - dep (l.take i) ≠ 0) : ∀ k, i ≤ k → k < e → 1 ≤ dep (l.take (k + 1)) - dep (l.take i) := by
  intro k
  induction k with
  | zero =>
    intro h1 h2
    obtain rfl : i = 0 := by omega
    rw [dep_next hx, hm]; simp [dep_nil]
  | succ k ih =>
    intro h1 h2
    by_cases hk : i = k + 1
    · subst hk; rw [dep_next hx, hm]; simp; omega
    · have h3 := ih (by omega) (by omega)
      have h4 := h (k + 1) h1 h2
      have hy : l[k + 1]? = some l[k + 1] := List.getElem?_eq_getElem (by omega)
      have h5 := dep_next hy
      split at h5 <;> split at h5 <;> omega
theorem BI.open_ {l : List Sg} {c i : Nat} {L : List Nd} {x : Sg} (h : BI l c i L) (hx : l[i]? = some x) (hm : x.m = 40) (he : cloF l i 0 = -1) : resB l c = none := by
  have hi := (List.getElem?_eq_some_iff.1 hx).1
  have hall : ∀ k, i ≤ k → k < l.length → 0 + dep (l.take (k + 1)) - dep (l.take i) ≠ 0 := by
    rcases clo_spec l _ i 0 (Nat.le_refl _) with ⟨-, h2⟩ | ⟨e, h1, -⟩
    · exact h2
    · rw [h1] at he; omega
  have h1 := deep_stay hx hm (Nat.le_refl _) hall (l.length - 1) (by omega) (by omega)
  rw [show l.length - 1 + 1 = l.length by omega, List.take_length, h.d0] at h1
  unfold resB
  cases hq : runM l ⟨[], [], [], c⟩ with
  | none => rfl
  | some q =>
    have h2 := (run_len hq).1
    obtain ⟨st, al, it, c'⟩ := q
    cases st with
    | nil => simp at h2; omega
    | cons f r => rfl
theorem clo_parts {l : List Sg} {i e : Nat} {x : Sg} (hx : l[i]? = some x) (hm : x.m = 40) (he : cloF l i 0 = (e : Int)) :
    i < e ∧ e < l.length ∧ ∃ y, l[e]? = some y ∧ y.m = 41 ∧ l.take (e + 1) = l.take i ++ (x :: seg l (i + 1) e ++ [y]) ∧ (∀ k, k ≤ (seg l (i + 1) e).length → 0 ≤ dep ((seg l (i + 1) e).take k)) ∧ dep (seg l (i + 1) e) = 0 := by
  have hi := (List.getElem?_eq_some_iff.1 hx).1
  rcases clo_spec l _ i 0 (Nat.le_refl _) with ⟨h1, -⟩ | ⟨e', h1, h2, h3, h4, h5⟩
  · rw [h1] at he; omega
  · obtain rfl : e' = e := by rw [h1] at he; omega
    have hne : i ≠ e' := by
      rintro rfl
      rw [dep_next hx, hm] at h4; simp at h4; omega
    have hst := deep_stay hx hm (by omega) h5
    have hy : l[e']? = some l[e'] := List.getElem?_eq_getElem h3
    have h6 := hst (e' - 1) (by omega) (by omega)
    rw [show e' - 1 + 1 = e' by omega] at h6
    have h7 := dep_next hy
    have hym : (l[e']).m = 41 := by
      by_cases h41 : (l[e']).m = 41
      · exact h41
      · rw [if_neg h41] at h7
        split at h7 <;> omega
    have h8 : dep (l.take e') - dep (l.take i) = 1 := by
      rw [hym] at h7; simp at h7; omega
    have hd1 : dep (l.take (i + 1)) = dep (l.take i) + 1 := by rw [dep_next hx, hm]; simp
    refine ⟨by omega, h3, l[e'], hy, hym, ?_, fun k hk => ?_, ?_⟩
    · rw [List.take_succ_eq_append_getElem h3, seg_take l (show i + 1 ≤ e' by omega), List.take_succ_eq_append_getElem hi]
      obtain ⟨hi', e2⟩ := List.getElem?_eq_some_iff.1 hx
      rw [e2]; simp
    · rw [seg_len l (by omega)] at hk
      rw [seg_take_take l (by omega), dep_seg l (by omega), hd1]
      by_cases hk0 : k = 0
      · subst hk0; rw [Nat.add_zero, hd1]; omega
      · have := hst (i + k) (by omega) (by omega)
        rw [show i + k + 1 = i + 1 + k by omega] at this
        omega
    · rw [dep_seg l (by omega), hd1]; omega
theorem BI.group {l : List Sg} {c i e : Nat} {L : List Nd} {n : Nd} {x : Sg} (h : BI l c i L) (hx : l[i]? = some x) (hm : x.m = 40) (he : cloF l i 0 = (e : Int)) (hn : resE (seg l (i + 1) e) (c + opnC (l.take i) + 1) = some n) :
    BI l c (e + 1) (L ++ [.mk 7 (c + opnC (l.take i) + 1) emp [n]]) := by
  obtain ⟨h1, h2, y, hy, hym, ht, hp, hd⟩ := clo_parts hx hm he
  unfold BI at *
  rw [ht, runM_append, h]
  show runM (x :: seg l (i + 1) e ++ [y]) ⟨[], [], L, c + opnC (l.take i)⟩ = _
  rw [run_group ⟨[], [], L, c + opnC (l.take i)⟩ hm hym hp hd]
  simp only [hn, Option.map_some]
  have hy40 : ¬ y.m = 40 := by omega
  rw [opn_append, List.cons_append, opn_cons, opn_append, opn_cons, hm, if_neg hy40]
  simp [opnC]
  omega
theorem BI.ungroup {l : List Sg} {c i e : Nat} {L : List Nd} {x : Sg} (h : BI l c i L) (hx : l[i]? = some x) (hm : x.m = 40) (he : cloF l i 0 = (e : Int)) (hn : resE (seg l (i + 1) e) (c + opnC (l.take i) + 1) = none) : resB l c = none := by
  obtain ⟨h1, h2, y, hy, hym, ht, hp, hd⟩ := clo_parts hx hm he
  apply resB_run
  apply run_cut (e + 1)
  rw [ht, runM_append, h]
  show runM (x :: seg l (i + 1) e ++ [y]) ⟨[], [], L, c + opnC (l.take i)⟩ = _
  rw [run_group ⟨[], [], L, c + opnC (l.take i)⟩ hm hym hp hd]
  simp only [hn, Option.map_none]
end Go.Proofs.YtlkjejmmoalliaaDoor

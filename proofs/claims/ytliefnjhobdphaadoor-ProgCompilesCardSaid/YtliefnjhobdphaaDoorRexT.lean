/- Nodes counted and compared (plain). -/
import Derived.Test.YtliefnjhobdphaaDoorRexI
namespace Go.Proofs.YtliefnjhobdphaaDoor
open Go.RowKit

mutual
/-- how many nodes there are that f lets -/
def cntN (f : Nat → Bool) : Nd → Nat
  | .mk k _ _ l => (if f k then 1 else 0) + cntL f l
def cntL (f : Nat → Bool) : List Nd → Nat
  | [] => 0
  | n :: l => cntN f n + cntL f l
end
mutual
/-- two nodes compared -/
def eqN : Nd → Nd → Bool
  | .mk k i s l, .mk k' i' s' l' => k == k' && i == i' && s == s' && eqL l l'
def eqL : List Nd → List Nd → Bool
  | [], [] => true
  | n :: l, n' :: l' => eqN n n' && eqL l l'
  | [], _ :: _ => false
  | _ :: _, [] => false
end
theorem cntN_eq (f : Nat → Bool) (n : Nd) : cntN f n = (if f n.kind then 1 else 0) + cntL f n.kids := by
  obtain ⟨k, i, s, l⟩ := n; rw [cntN]; rfl
theorem cntL_append (f : Nat → Bool) (l r : List Nd) : cntL f (l ++ r) = cntL f l + cntL f r := by
  induction l with
  | nil => simp [cntL]
  | cons n l ih => rw [List.cons_append, cntL, cntL, ih]; omega
theorem cntL_take (f : Nat → Bool) {l : List Nd} {k : Nat} {n : Nd} (h : l[k]? = some n) : cntL f (l.take (k + 1)) = cntL f (l.take k) + cntN f n := by
  obtain ⟨hk, e⟩ := List.getElem?_eq_some_iff.1 h
  rw [List.take_succ_eq_append_getElem hk, e, cntL_append]; simp [cntL]
theorem cntL_mem (f : Nat → Bool) {l : List Nd} {n : Nd} (h : n ∈ l) : cntN f n ≤ cntL f l := by
  induction l with
  | nil => simp at h
  | cons m l ih =>
    rw [cntL]
    rcases List.mem_cons.1 h with rfl | h
    · omega
    · have := ih h; omega
theorem cntL_take_le (f : Nat → Bool) (l : List Nd) (k : Nat) : cntL f (l.take k) ≤ cntL f l := by
  have := cntL_append f (l.take k) (l.drop k)
  rw [List.take_append_drop] at this; omega
abbrev sizN (n : Nd) : Nat := cntN (fun _ => true) n
abbrev grpN (n : Nd) : Nat := cntN (fun k => k == 7) n
theorem cnt_le_siz (f : Nat → Bool) : ∀ (m : Nat) (n : Nd), sizN n ≤ m → cntN f n ≤ sizN n
  | 0, n, h => by rw [sizN, cntN_eq] at h; simp at h
  | m + 1, n, h => by
    unfold sizN at h ⊢
    rw [cntN_eq] at h ⊢
    rw [cntN_eq]
    have : ∀ l : List Nd, cntL (fun _ => true) l ≤ m → cntL f l ≤ cntL (fun _ => true) l := by
      intro l
      induction l with
      | nil => intro _; simp [cntL]
      | cons n l ih =>
        intro h
        rw [cntL] at h ⊢
        rw [cntL]
        have h1 := cnt_le_siz f m n (by unfold sizN; omega)
        have h2 := ih (by omega)
        unfold sizN at h1
        omega
    have := this n.kids (by simp at h; omega)
    split <;> simp <;> omega
theorem eqN_eq (a b : Nd) : eqN a b = (a.kind == b.kind && a.index == b.index && a.set == b.set && eqL a.kids b.kids) := by
  obtain ⟨k, i, s, l⟩ := a; obtain ⟨k', i', s', l'⟩ := b; rw [eqN]; rfl
theorem eqL_len : ∀ (l l' : List Nd), l.length ≠ l'.length → eqL l l' = false
  | [], [], h => absurd rfl h
  | [], _ :: _, _ => by rw [eqL]
  | _ :: _, [], _ => by rw [eqL]
  | n :: l, n' :: l', h => by rw [eqL, eqL_len l l' (by simpa using h)]; simp
/-- two rows that are as long, from a place on -/
theorem eqL_drop (l l' : List Nd) (k : Nat) {n n' : Nd} (h : l[k]? = some n) (h' : l'[k]? = some n') : eqL (l.drop k) (l'.drop k) = (eqN n n' && eqL (l.drop (k + 1)) (l'.drop (k + 1))) := by
  obtain ⟨hk, e⟩ := List.getElem?_eq_some_iff.1 h
  obtain ⟨hk', e'⟩ := List.getElem?_eq_some_iff.1 h'
  rw [List.drop_eq_getElem_cons hk, List.drop_eq_getElem_cons hk', e, e', eqL]
mutual
theorem eqN_refl : ∀ n : Nd, eqN n n = true
  | .mk k i s l => by rw [eqN, eqL_refl l]; simp
theorem eqL_refl : ∀ l : List Nd, eqL l l = true
  | [] => by rw [eqL]
  | n :: l => by rw [eqL, eqN_refl n, eqL_refl l]; rfl
end
/-! how many nodes and groups a run makes -/
theorem cnt_one (f : Nat → Bool) (m : Nat) (l : List Nd) (hf : f m = false) (h0 : f 0 = false) : cntN f (oneN m l) = cntL f l := by
  unfold oneN
  match l with
  | [] => simp [ndE, cntN, cntL, h0]
  | [n] => simp [cntL]
  | a :: b :: l => simp only; rw [cntN, hf]; simp
theorem siz_one (m : Nat) (l : List Nd) : sizN (oneN m l) ≤ cntL (fun _ => true) l + 1 := by
  unfold oneN sizN
  match l with
  | [] => simp [ndE, cntN, cntL]
  | [n] => simp [cntL]
  | a :: b :: l => simp only; rw [cntN]; simp; omega
/-- all that a machine holds -/
def stC (f : Nat → Bool) : List (List Nd × List Nd × Nat) → Nat
  | [] => 0
  | (al, it, _) :: r => cntL f al + cntL f it + stC f r
def mcC (f : Nat → Bool) (q : Mc) : Nat := stC f q.st + cntL f q.al + cntL f q.it
theorem last_cnt (f : Nat → Bool) {l : List Nd} {n : Nd} (h : l.getLast? = some n) : cntL f l = cntL f l.dropLast + cntN f n := by
  have hl : l ≠ [] := by rintro rfl; cases h
  have e : l.getLast hl = n := by rw [List.getLast?_eq_some_getLast hl] at h; exact Option.some.inj h
  conv => lhs; rw [← List.dropLast_concat_getLast hl]
  rw [cntL_append, e]; simp [cntL]
theorem step_grp {x : Sg} {q q' : Mc} (h : stepM x q = some q') : mcC (fun k => k == 7) q' + q'.st.length + q.c = mcC (fun k => k == 7) q + q.st.length + q'.c := by
  obtain ⟨st, al, it, c⟩ := q
  unfold stepM at h
  split at h
  · cases h; simp [mcC, cntL_append, cntL, cntN]
  split at h
  · cases h; simp [mcC, cntL_append, cntL, cntN]
  split at h
  · cases h; simp [mcC, cntL_append, cntL, cntN]
  split at h
  · split at h
    · cases h
    · rename_i n hn
      cases h
      have := last_cnt (fun k => k == 7) hn
      simp only at this
      have hk : ((if x.m = 43 then 5 else if x.m = 63 then 6 else 4 : Nat) == 7) = false := by split <;> (try split) <;> rfl
      simp only [mcC, cntL_append, cntL, cntN, hk]
      simp; omega
  split at h
  · cases h
    have := cnt_one (fun k => k == 7) 2 it rfl rfl
    rw [oneN_cat] at this
    simp only [mcC, cntL_append, cntL, this]; omega
  split at h
  · cases h; simp [mcC, stC, cntL]; omega
  split at h
  · split at h
    · cases h
    · rename_i al2 it2 i2 r hs
      simp only at hs
      cases h
      subst hs
      have h1 := cnt_one (fun k => k == 7) 2 it rfl rfl
      rw [oneN_cat] at h1
      have h2 := cnt_one (fun k => k == 7) 3 (al ++ [catN it]) rfl rfl
      rw [oneN_alt] at h2
      simp only [mcC, stC, cntL_append, cntL, cntN, h2, h1]
      simp; omega
  · cases h
theorem run_grp {l : List Sg} : ∀ {q q' : Mc}, runM l q = some q' → mcC (fun k => k == 7) q' + q'.st.length + q.c = mcC (fun k => k == 7) q + q.st.length + q'.c := by
  induction l with
  | nil => intro q q' h; cases h; rfl
  | cons x l ih =>
    intro q q' h
    have h : (stepM x q).bind (runM l) = some q' := h
    cases hq : stepM x q with
    | none => rw [hq] at h; cases h
    | some q1 => rw [hq] at h; have := step_grp hq; have := ih h; omega
theorem step_siz {x : Sg} {q q' : Mc} (h : stepM x q = some q') : mcC (fun _ => true) q' ≤ mcC (fun _ => true) q + 3 := by
  obtain ⟨st, al, it, c⟩ := q
  unfold stepM at h
  split at h
  · cases h; simp [mcC, cntL_append, cntL, cntN]; omega
  split at h
  · cases h; simp [mcC, cntL_append, cntL, cntN]; omega
  split at h
  · cases h; simp [mcC, cntL_append, cntL, cntN]; omega
  split at h
  · split at h
    · cases h
    · rename_i n hn
      cases h
      have := last_cnt (fun _ => true) hn
      simp only at this
      simp only [mcC, cntL_append, cntL, cntN]
      simp; omega
  split at h
  · cases h
    have := siz_one 2 it
    rw [oneN_cat] at this
    simp only [sizN] at this
    simp only [mcC, cntL_append, cntL]; omega
  split at h
  · cases h; simp [mcC, stC, cntL]; omega
  split at h
  · split at h
    · cases h
    · rename_i al2 it2 i2 r hs
      simp only at hs
      cases h
      subst hs
      have h1 := siz_one 2 it
      rw [oneN_cat] at h1
      have h2 := siz_one 3 (al ++ [catN it])
      rw [oneN_alt] at h2
      simp only [sizN, cntL_append, cntL] at h1 h2
      simp only [mcC, stC, cntL_append, cntL, cntN]
      simp; omega
  · cases h
theorem run_siz {l : List Sg} : ∀ {q q' : Mc}, runM l q = some q' → mcC (fun _ => true) q' ≤ mcC (fun _ => true) q + 3 * l.length := by
  induction l with
  | nil => intro q q' h; cases h; simp
  | cons x l ih =>
    intro q q' h
    have h : (stepM x q).bind (runM l) = some q' := h
    cases hq : stepM x q with
    | none => rw [hq] at h; cases h
    | some q1 => rw [hq] at h; have := step_siz hq; have := ih h; simp; omega
theorem res_grp {l : List Sg} {c : Nat} {n : Nd} (h : resE l c = some n) : grpN n = opnC l := by
  rw [resE_fin] at h
  cases hq : runM l ⟨[], [], [], c⟩ with
  | none => rw [hq] at h; cases h
  | some q =>
    have h1 := run_grp hq
    have h2 := (run_len hq).2
    rw [hq] at h
    obtain ⟨st, al, it, c'⟩ := q
    cases st with
    | cons f r => cases h
    | nil =>
      have h : some (altN (al ++ [catN it])) = some n := h
      cases h
      have e1 := cnt_one (fun k => k == 7) 2 it rfl rfl
      rw [oneN_cat] at e1
      have e2 := cnt_one (fun k => k == 7) 3 (al ++ [catN it]) rfl rfl
      rw [oneN_alt] at e2
      simp only [grpN]
      rw [e2, cntL_append]
      simp only [mcC, stC, cntL, List.length_nil] at h1 h2 ⊢
      omega
theorem res_siz {l : List Sg} {c : Nat} {n : Nd} (h : resE l c = some n) : sizN n ≤ 3 * l.length + 2 := by
  rw [resE_fin] at h
  cases hq : runM l ⟨[], [], [], c⟩ with
  | none => rw [hq] at h; cases h
  | some q =>
    have h1 := run_siz hq
    rw [hq] at h
    obtain ⟨st, al, it, c'⟩ := q
    cases st with
    | cons f r => cases h
    | nil =>
      have h : some (altN (al ++ [catN it])) = some n := h
      cases h
      have e1 := siz_one 2 it
      rw [oneN_cat] at e1
      have e2 := siz_one 3 (al ++ [catN it])
      rw [oneN_alt] at e2
      simp only [sizN, cntL_append, cntL] at e1 e2 ⊢
      simp only [mcC, stC, cntL] at h1
      omega
theorem sgn_len (s : ByteArray) : ∀ (m i : Nat) (l : List Sg), s.size - i ≤ m → sgn s i = some l → l.length ≤ s.size - i := by
  intro m
  induction m with
  | zero =>
    intro i l hm h
    rw [sgn_end (by omega)] at h
    cases h; simp
  | succ m ih =>
    intro i l hm h
    by_cases hi : i < s.size
    · have go : ∀ (j : Nat) (x : Sg), i < j → sgn s i = (sgn s j).map (x :: ·) → l.length ≤ s.size - i := by
        intro j x hj e
        rw [e] at h
        cases hs : sgn s j with
        | none => rw [hs] at h; cases h
        | some l' =>
          rw [hs] at h
          simp only [Option.map_some, Option.some.injEq] at h
          subst h
          have := ih j l' (by omega) hs
          by_cases hj2 : j ≤ s.size
          · simp; omega
          · rw [sgn_end (by omega)] at hs; cases hs; simp; omega
      by_cases h92 : s[i].toNat = 92
      · by_cases hi1 : i + 1 < s.size
        · exact go _ _ (by omega) (sgn_esc hi h92 hi1)
        · rw [sgn_escbad hi h92 hi1] at h; cases h
      by_cases h91 : s[i].toNat = 91
      · cases hc : clsP s (i + 1) with
        | none => rw [sgn_clsbad hi h91 hc] at h; cases h
        | some te =>
          obtain ⟨t, e⟩ := te
          have := cls_gt hc
          exact go _ _ (by omega) (sgn_cls hi h91 hc)
      by_cases h46 : s[i].toNat = 46
      · exact go _ _ (by omega) (sgn_dot hi h46)
      by_cases hmk : s[i].toNat = 40 ∨ s[i].toNat = 41 ∨ s[i].toNat = 124 ∨ s[i].toNat = 42 ∨ s[i].toNat = 43 ∨ s[i].toNat = 63 ∨ s[i].toNat = 94 ∨ s[i].toNat = 36
      · exact go _ _ (by omega) (sgn_mark hi hmk)
      · exact go _ _ (by omega) (sgn_lit hi (by omega))
    · rw [sgn_end hi] at h; cases h; simp
/-- the node of a text and the number of the error -/
def parN (s : ByteArray) : Nd × Nat :=
  if s.size > 60 then (ndE, 2) else match fin s 0 ⟨[], [], [], 0⟩ with
    | none => (ndE, 6)
    | some n => if grpN n > 9 then (ndE, 10) else (n, 0)
theorem fin_siz {s : ByteArray} {n : Nd} (h : fin s 0 ⟨[], [], [], 0⟩ = some n) : sizN n ≤ 3 * s.size + 2 := by
  rw [fin_start] at h
  cases hs : sgn s 0 with
  | none => rw [hs] at h; cases h
  | some l =>
    rw [hs] at h
    have h1 := sgn_len s _ 0 l (Nat.le_refl _) hs
    have h2 := res_siz (c := 0) h
    omega
theorem siz_E : sizN ndE = 1 := by simp [sizN, ndE, cntN, cntL]
theorem par_siz (s : ByteArray) : sizN (parN s).1 ≤ 200 := by
  unfold parN
  split
  · rw [siz_E]; omega
  · split
    · rw [siz_E]; omega
    · rename_i n hn
      split
      · rw [siz_E]; omega
      · have := fin_siz hn; simp only; omega
end Go.Proofs.YtliefnjhobdphaaDoor

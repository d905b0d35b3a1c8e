/- Classes read from the left, member by member (plain). What is left to do at a place of a text: the machine of signs over what follows (plain). -/
import Derived.Test.YtliefnjhobdphaaDoorRexF
namespace Go.Proofs.YtliefnjhobdphaaDoor
open Go.RowKit

theorem gath_acc (s : ByteArray) : ∀ (n i : Nat) (acc : List (Nat × Bool)), s.size - i ≤ n → gath s i acc = (gath s i []).map fun p => (acc ++ p.1, p.2) := by
  intro n
  induction n with
  | zero =>
    intro i acc hn
    rw [gath_end acc (by omega), gath_end [] (by omega)]; rfl
  | succ n ih =>
    intro i acc hn
    by_cases hi : i < s.size
    · by_cases h93 : s[i].toNat = 93
      · rw [gath_stop acc hi h93, gath_stop [] hi h93]; simp
      · by_cases h92 : s[i].toNat = 92
        · by_cases hi1 : i + 1 < s.size
          · rw [gath_esc acc hi h92 hi1, gath_esc [] hi h92 hi1, ih (i + 2) _ (by omega), ih (i + 2) ([] ++ _) (by omega), Option.map_map]
            congr 1; funext p; simp
          · rw [gath_bad acc hi h92 hi1, gath_bad [] hi h92 hi1]; rfl
        · rw [gath_on acc hi h93 h92, gath_on [] hi h93 h92, ih (i + 1) _ (by omega), ih (i + 1) ([] ++ _) (by omega), Option.map_map]
          congr 1; funext p; simp
    · rw [gath_end acc hi, gath_end [] hi]; rfl

theorem rng_shift (x : Nat × Bool) (l : List (Nat × Bool)) : ∀ (n i : Nat) (f : Nat → Bool), l.length - i ≤ n → rng (x :: l) (i + 1) f = rng l i f := by
  intro n
  induction n with
  | zero =>
    intro i f hn
    rw [rng_end f (l := l) (by omega), rng_end f (by simp; omega)]
  | succ n ih =>
    intro i f hn
    by_cases hi : i < l.length
    · rw [rng, rng]
      rw [dif_pos hi, dif_pos (by simp; omega)]
      by_cases h2 : i + 2 < l.length
      · rw [dif_pos h2, dif_pos (by simp; omega)]
        simp only [List.getElem_cons_succ, show i + 1 + 1 = (i + 1) + 1 from rfl, show i + 1 + 2 = (i + 2) + 1 from rfl, show i + 1 + 3 = (i + 3) + 1 from rfl]
        rw [ih (i + 3) _ (by omega), ih (i + 1) _ (by omega)]
      · rw [dif_neg h2, dif_neg (by simp; omega)]
        simp only [List.getElem_cons_succ]
        rw [ih (i + 1) _ (by omega)]
    · rw [rng_end f hi, rng_end f (by simp; omega)]
theorem rng_tail (x : Nat × Bool) (l : List (Nat × Bool)) (f : Nat → Bool) : rng (x :: l) 1 f = rng l 0 f := rng_shift x l _ 0 f (Nat.le_refl _)
theorem rng_tail3 (x y z : Nat × Bool) (l : List (Nat × Bool)) (f : Nat → Bool) : rng (x :: y :: z :: l) 3 f = rng l 0 f := by
  rw [rng_shift x (y :: z :: l) _ 2 f (Nat.le_refl _), rng_shift y (z :: l) _ 1 f (Nat.le_refl _), rng_tail]

/-- a byte of a class: itself, whether it stood bare, what is behind it -/
def byteAt (s : ByteArray) (i : Nat) : Option (Nat × Bool × Nat) :=
  if h : i < s.size then
    if s[i].toNat = 93 then none
    else if s[i].toNat = 92 then (if h2 : i + 1 < s.size then some (s[i + 1].toNat, false, i + 2) else none)
    else some (s[i].toNat, true, i + 1)
  else none
theorem byteAt_gt {s : ByteArray} {i b j : Nat} {f : Bool} (h : byteAt s i = some (b, f, j)) : i < j ∧ j ≤ s.size ∧ b < 256 := by
  unfold byteAt at h
  split at h
  · split at h
    · cases h
    · split at h
      · split at h
        · simp only [Option.some.injEq, Prod.mk.injEq] at h; obtain ⟨rfl, -, rfl⟩ := h; have := UInt8.toNat_lt s[i + 1]; omega
        · cases h
      · simp only [Option.some.injEq, Prod.mk.injEq] at h; obtain ⟨rfl, -, rfl⟩ := h; have := UInt8.toNat_lt s[i]; omega
  · cases h
theorem gath_byte {s : ByteArray} {i b j : Nat} {f : Bool} (h : byteAt s i = some (b, f, j)) : gath s i [] = (gath s j []).map fun p => ((b, f) :: p.1, p.2) := by
  unfold byteAt at h
  split at h
  · rename_i hi
    split at h
    · cases h
    · rename_i h93
      split at h
      · rename_i h92
        split at h
        · rename_i hi1
          simp only [Option.some.injEq, Prod.mk.injEq] at h; obtain ⟨rfl, rfl, rfl⟩ := h
          rw [gath_esc [] hi h92 hi1, gath_acc s _ _ _ (Nat.le_refl _)]; rfl
        · cases h
      · rename_i h92
        simp only [Option.some.injEq, Prod.mk.injEq] at h; obtain ⟨rfl, rfl, rfl⟩ := h
        rw [gath_on [] hi h93 h92, gath_acc s _ _ _ (Nat.le_refl _)]; rfl
  · cases h
theorem gath_nobyte {s : ByteArray} {i : Nat} (h : byteAt s i = none) (h93 : ∀ hi : i < s.size, s[i].toNat ≠ 93) : gath s i [] = none := by
  unfold byteAt at h
  split at h
  · rename_i hi
    rw [if_neg (h93 hi)] at h
    split at h
    · rename_i h92
      split at h
      · cases h
      · rename_i hi1; exact gath_bad [] hi h92 hi1
    · cases h
  · rename_i hi; exact gath_end [] hi
/-- is that byte next? -/
def nxt (s : ByteArray) (i c : Nat) : Bool := if h : i < s.size then s[i].toNat == c else false
theorem nxt_yes {s : ByteArray} {i c : Nat} (h : nxt s i c = true) : ∃ hi : i < s.size, s[i].toNat = c := by
  unfold nxt at h
  split at h
  · rename_i hi; exact ⟨hi, by simpa using h⟩
  · cases h
theorem nxt_no {s : ByteArray} {i c : Nat} (h : nxt s i c = false) (hi : i < s.size) : s[i].toNat ≠ c := by
  unfold nxt at h
  rw [dif_pos hi] at h
  simpa using h
theorem nxt_is {s : ByteArray} {i c : Nat} (hi : i < s.size) (h : s[i].toNat = c) : nxt s i c = true := by
  unfold nxt; rw [dif_pos hi, h]; simp
theorem nxt_end {s : ByteArray} {i c : Nat} (h : ¬ i < s.size) : nxt s i c = false := by unfold nxt; rw [dif_neg h]
/-- does a - stand here that makes two bytes one member? -/
def joins (s : ByteArray) (i : Nat) : Bool := nxt s i 45 && !nxt s (i + 1) 93
/-- a member of a class: which bytes it has, what is behind it -/
def memP (s : ByteArray) (i : Nat) : Option (BitVec 256 × Nat) :=
  match byteAt s i with
  | none => none
  | some (lo, _, j) => if joins s j then (match byteAt s (j + 1) with
      | none => none
      | some (hi, _, k) => if lo ≤ hi then some (spn lo hi, k) else none)
    else some (one lo, j)
theorem memP_gt {s : ByteArray} {i j : Nat} {t : BitVec 256} (h : memP s i = some (t, j)) : i < j ∧ j ≤ s.size := by
  unfold memP at h
  split at h
  · cases h
  · rename_i lo f j1 h1
    have g1 := byteAt_gt h1
    split at h
    · split at h
      · cases h
      · rename_i hi f2 k h2
        have g2 := byteAt_gt h2
        split at h
        · simp only [Option.some.injEq, Prod.mk.injEq] at h; omega
        · cases h
    · simp only [Option.some.injEq, Prod.mk.injEq] at h; omega
/-- what becomes of a class from a member on, if f are the bytes so far -/
def clsK (s : ByteArray) (n : Bool) (f : Nat → Bool) (i : Nat) : Option (BitVec 256 × Nat) :=
  match gath s i [] with
  | none => none
  | some (l, e) => (rng l 0 f).map fun g => (mkS (fun b => g b != n), e)
theorem clsK_none {s : ByteArray} {n : Bool} {f : Nat → Bool} {i : Nat} (h : gath s i [] = none) : clsK s n f i = none := by unfold clsK; rw [h]
theorem clsK_stop {s : ByteArray} {n : Bool} {f : Nat → Bool} {i : Nat} (hi : i < s.size) (h : s[i].toNat = 93) : clsK s n f i = some (mkS (fun b => f b != n), i) := by
  unfold clsK; rw [gath_stop [] hi h]
  show (rng [] 0 f).map _ = _
  rw [rng_end f (l := []) (by simp)]; rfl
theorem clsQ_first {s : ByteArray} {n : Bool} {i : Nat} (h : nxt s i 93 = true) : clsQ s n i = none := by
  obtain ⟨hi, h⟩ := nxt_yes h
  exact clsQ_empty (gath_stop [] hi h)
theorem clsQ_K {s : ByteArray} {n : Bool} {i : Nat} (h : nxt s i 93 = false) : clsQ s n i = clsK s n (fun _ => false) i := by
  by_cases hi : i < s.size
  · have h93 := nxt_no h hi
    cases hg : gath s i [] with
    | none => rw [clsQ_none hg, clsK_none hg]
    | some p =>
      obtain ⟨l, e⟩ := p
      have hl : l ≠ [] := by
        cases hb : byteAt s i with
        | none => rw [gath_nobyte hb (fun _ => h93)] at hg; cases hg
        | some q =>
          obtain ⟨b, f, j⟩ := q
          rw [gath_byte hb] at hg
          cases hj : gath s j [] with
          | none => rw [hj] at hg; cases hg
          | some r => rw [hj] at hg; simp only [Option.map_some, Option.some.injEq, Prod.mk.injEq] at hg; rw [← hg.1]; simp
      unfold clsQ clsK; rw [hg]
      simp only [if_neg hl]
      cases rng l 0 (fun _ => false) <;> rfl
  · rw [clsQ_none (gath_end [] hi), clsK_none (gath_end [] hi)]
theorem mkS_ext {f g : Nat → Bool} (h : ∀ b, b < 256 → f b = g b) : mkS f = mkS g := inn_ext fun b hb => by rw [inn_mkS _ b hb, inn_mkS _ b hb, h b hb]
theorem rng_ext (l : List (Nat × Bool)) : ∀ (n i : Nat) (f g : Nat → Bool) (m : Bool), l.length - i ≤ n → (∀ b, b < 256 → f b = g b) →
    ((rng l i f).map fun h => mkS (fun b => h b != m)) = ((rng l i g).map fun h => mkS (fun b => h b != m)) := by
  intro n
  induction n with
  | zero =>
    intro i f g m hn hfg
    rw [rng_end f (by omega), rng_end g (by omega)]
    simp only [Option.map_some, Option.some.injEq]
    exact mkS_ext fun b hb => by rw [hfg b hb]
  | succ n ih =>
    intro i f g m hn hfg
    by_cases hi : i < l.length
    · rw [rng.eq_def l i f, rng.eq_def l i g, dif_pos hi, dif_pos hi]
      have h1 : ∀ b, b < 256 → (f b || b == (l[i]).1) = (g b || b == (l[i]).1) := fun b hb => by rw [hfg b hb]
      by_cases h2 : i + 2 < l.length
      · rw [dif_pos h2, dif_pos h2]
        split
        · split
          · rfl
          · exact ih _ _ _ m (by omega) fun b hb => by rw [hfg b hb]
        · exact ih _ _ _ m (by omega) h1
      · rw [dif_neg h2, dif_neg h2]
        exact ih _ _ _ m (by omega) h1
    · rw [rng_end f hi, rng_end g hi]
      simp only [Option.map_some, Option.some.injEq]
      exact mkS_ext fun b hb => by rw [hfg b hb]
theorem clsK_ext {s : ByteArray} {n : Bool} {f g : Nat → Bool} {i : Nat} (h : ∀ b, b < 256 → f b = g b) : clsK s n f i = clsK s n g i := by
  unfold clsK
  cases gath s i [] with
  | none => rfl
  | some p =>
    obtain ⟨l, e⟩ := p
    have := rng_ext l _ 0 f g n (Nat.le_refl _) h
    simp only
    cases h1 : rng l 0 f <;> cases h2 : rng l 0 g <;> rw [h1, h2] at this <;> simp_all
theorem clsK_mem {s : ByteArray} {n : Bool} {f : Nat → Bool} {i : Nat} (h : nxt s i 93 = false) : clsK s n f i = match memP s i with
    | none => none
    | some (t, j) => clsK s n (fun b => f b || inn t b) j := by
  have h93 : ∀ hi : i < s.size, s[i].toNat ≠ 93 := fun hi => nxt_no h hi
  unfold memP
  cases hb : byteAt s i with
  | none => exact clsK_none (gath_nobyte hb h93)
  | some q =>
    obtain ⟨lo, fl, j⟩ := q
    have g1 := byteAt_gt hb
    have hlo := g1.2.2
    have hG := gath_byte hb
    by_cases hj : joins s j = true
    · simp only [hj, if_true]
      unfold joins at hj
      simp only [Bool.and_eq_true, Bool.not_eq_true'] at hj
      obtain ⟨hj1, hj2⟩ := hj
      obtain ⟨hjs, hj45⟩ := nxt_yes hj1
      have hbj : byteAt s j = some (45, true, j + 1) := by unfold byteAt; rw [dif_pos hjs, if_neg (by omega), if_neg (by omega), hj45]
      have hGj := gath_byte hbj
      cases hb2 : byteAt s (j + 1) with
      | none => exact clsK_none (by rw [hG, hGj, gath_nobyte hb2 (fun hi => nxt_no hj2 hi)]; rfl)
      | some q2 =>
        obtain ⟨hi', f2, k⟩ := q2
        have g2 := byteAt_gt hb2
        have hGk := gath_byte hb2
        cases hk : gath s k [] with
        | none =>
          have e1 : gath s i [] = none := by rw [hG, hGj, hGk, hk]; rfl
          rw [clsK_none e1]
          by_cases hle : lo ≤ hi'
          · simp only [hle, if_true]; rw [clsK_none hk]
          · simp only [hle, if_false]
        | some p =>
          obtain ⟨l, e⟩ := p
          have e1 : gath s i [] = some ((lo, fl) :: (45, true) :: (hi', f2) :: l, e) := by rw [hG, hGj, hGk, hk]; rfl
          have e2 : rng ((lo, fl) :: (45, true) :: (hi', f2) :: l) 0 f = if hi' < lo then none else rng l 0 (fun b => f b || decide (lo ≤ b ∧ b ≤ hi')) := by
            rw [rng_two f (i := 0) (lo := lo) (hi' := hi') (x := fl) (y := f2) rfl rfl rfl, rng_tail3]
          unfold clsK
          rw [e1]
          simp only [e2]
          by_cases hle : lo ≤ hi'
          · rw [if_neg (by omega)]
            simp only [hle, if_true, hk]
            have hx := clsK_ext (s := s) (n := n) (f := fun b => f b || decide (lo ≤ b ∧ b ≤ hi')) (g := fun b => f b || inn (spn lo hi') b) (i := k) (fun b hb => by rw [inn_spn _ _ _ hb]; rfl)
            unfold clsK at hx
            rw [hk] at hx
            exact hx
          · rw [if_pos (by omega)]
            simp only [hle, if_false]; rfl
    · have hj' : joins s j = false := by simpa using hj
      simp only [hj', Bool.false_eq_true, if_false]
      cases hk : gath s j [] with
      | none => rw [clsK_none (by rw [hG, hk]; rfl), clsK_none hk]
      | some p =>
        obtain ⟨l, e⟩ := p
        have e1 : gath s i [] = some ((lo, fl) :: l, e) := by rw [hG, hk]; rfl
        have hN : ∀ c b, 0 + 2 < ((lo, fl) :: l).length → ((lo, fl) :: l)[0 + 1]? = some (c, b) → ¬ (c = 45 ∧ b = true) := by
          rintro c b hlen hc ⟨rfl, rfl⟩
          have hc : l[0]? = some (45, true) := by simpa using hc
          -- the next byte is a bare -
          cases hb2 : byteAt s j with
          | none =>
            by_cases h9 : nxt s j 93 = true
            · obtain ⟨hjs, h9⟩ := nxt_yes h9
              rw [gath_stop [] hjs h9] at hk
              cases hk; simp at hc
            · rw [gath_nobyte hb2 (fun hi => nxt_no (by simpa using h9) hi)] at hk; cases hk
          | some q2 =>
            obtain ⟨b2, f2, j2⟩ := q2
            have hG2 := gath_byte hb2
            rw [hG2] at hk
            cases hk2 : gath s j2 [] with
            | none => rw [hk2] at hk; cases hk
            | some p2 =>
              obtain ⟨l2, e3⟩ := p2
              rw [hk2] at hk
              simp only [Option.map_some, Option.some.injEq, Prod.mk.injEq] at hk
              obtain ⟨rfl, rfl⟩ := hk
              simp only [List.getElem?_cons_zero, Option.some.injEq, Prod.mk.injEq] at hc
              obtain ⟨rfl, rfl⟩ := hc
              -- so it is no joint only because a closing bracket follows: but then nothing follows
              unfold byteAt at hb2
              split at hb2
              · rename_i hjs
                split at hb2
                · cases hb2
                · split at hb2
                  · split at hb2
                    · simp at hb2
                    · cases hb2
                  · simp only [Option.some.injEq, Prod.mk.injEq] at hb2
                    obtain ⟨h45, -, rfl⟩ := hb2
                    unfold joins at hj'
                    rw [nxt_is hjs h45] at hj'
                    simp only [Bool.true_and, Bool.not_eq_false'] at hj'
                    obtain ⟨hj1, h93'⟩ := nxt_yes hj'
                    rw [gath_stop [] hj1 h93'] at hk2
                    cases hk2
                    simp at hlen
              · cases hb2
        have e2 := rng_one f (i := 0) (lo := lo) (x := fl) (l := (lo, fl) :: l) rfl hN
        unfold clsK
        rw [e1]
        simp only [e2, Nat.zero_add, rng_tail]
        have hx := clsK_ext (s := s) (n := n) (f := fun b => f b || b == lo) (g := fun b => f b || inn (one lo) b) (i := j) (fun b hb => by rw [inn_one _ _ hb]; congr 1)
        unfold clsK at hx
        rw [hk] at hx
        rw [hk]
        exact hx
end Go.Proofs.YtliefnjhobdphaaDoor

namespace Go.Proofs.YtliefnjhobdphaaDoor
open Go.RowKit

def finM : Mc → Option Nd
  | ⟨[], al, it, _⟩ => some (altN (al ++ [catN it]))
  | _ => none
def fin (s : ByteArray) (i : Nat) (q : Mc) : Option Nd := (sgn s i).bind fun l => (runM l q).bind finM
theorem resE_fin (l : List Sg) (c : Nat) : resE l c = (runM l ⟨[], [], [], c⟩).bind finM := by
  unfold resE
  cases runM l ⟨[], [], [], c⟩ with
  | none => rfl
  | some q =>
    obtain ⟨st, al, it, c'⟩ := q
    cases st <;> rfl
theorem fin_start (s : ByteArray) : fin s 0 ⟨[], [], [], 0⟩ = (sgn s 0).bind fun l => resE l 0 := by
  unfold fin
  congr 1; funext l
  rw [resE_fin]
theorem fin_end {s : ByteArray} {i : Nat} (h : ¬ i < s.size) (q : Mc) : fin s i q = finM q := by
  unfold fin; rw [sgn_end h]; rfl
theorem fin_step {s : ByteArray} {i j : Nat} {x : Sg} (h : sgn s i = (sgn s j).map (x :: ·)) (q : Mc) : fin s i q = (stepM x q).bind (fin s j) := by
  unfold fin
  rw [h]
  cases sgn s j with
  | none => cases stepM x q <;> rfl
  | some l =>
    show ((stepM x q).bind (runM l)).bind finM = _
    cases stepM x q <;> rfl
theorem fin_none {s : ByteArray} {i : Nat} (h : sgn s i = none) (q : Mc) : fin s i q = none := by unfold fin; rw [h]; rfl
theorem fin_set {s : ByteArray} {i j : Nat} {t : BitVec 256} (h : sgn s i = (sgn s j).map (⟨0, t⟩ :: ·)) (st : List (List Nd × List Nd × Nat)) (al it : List Nd) (c : Nat) : fin s i ⟨st, al, it, c⟩ = fin s j ⟨st, al, it ++ [.mk 1 0 t []], c⟩ := by
  rw [fin_step h]; unfold stepM; simp
theorem fin_hat {s : ByteArray} {i : Nat} (h : nxt s i 94 = true) (st : List (List Nd × List Nd × Nat)) (al it : List Nd) (c : Nat) : fin s i ⟨st, al, it, c⟩ = fin s (i + 1) ⟨st, al, it ++ [.mk 8 0 emp []], c⟩ := by
  obtain ⟨hi, h⟩ := nxt_yes h
  rw [fin_step (sgn_mark hi (by omega)), h]; unfold stepM; simp
theorem fin_dollar {s : ByteArray} {i : Nat} (h : nxt s i 36 = true) (st : List (List Nd × List Nd × Nat)) (al it : List Nd) (c : Nat) : fin s i ⟨st, al, it, c⟩ = fin s (i + 1) ⟨st, al, it ++ [.mk 9 0 emp []], c⟩ := by
  obtain ⟨hi, h⟩ := nxt_yes h
  rw [fin_step (sgn_mark hi (by omega)), h]; unfold stepM; simp
theorem fin_bar {s : ByteArray} {i : Nat} (h : nxt s i 124 = true) (st : List (List Nd × List Nd × Nat)) (al it : List Nd) (c : Nat) : fin s i ⟨st, al, it, c⟩ = fin s (i + 1) ⟨st, al ++ [catN it], [], c⟩ := by
  obtain ⟨hi, h⟩ := nxt_yes h
  rw [fin_step (sgn_mark hi (by omega)), h]; unfold stepM; simp
theorem fin_open {s : ByteArray} {i : Nat} (h : nxt s i 40 = true) (st : List (List Nd × List Nd × Nat)) (al it : List Nd) (c : Nat) : fin s i ⟨st, al, it, c⟩ = fin s (i + 1) ⟨(al, it, c + 1) :: st, [], [], c + 1⟩ := by
  obtain ⟨hi, h⟩ := nxt_yes h
  rw [fin_step (sgn_mark hi (by omega)), h]; unfold stepM; simp
theorem fin_close {s : ByteArray} {i : Nat} (h : nxt s i 41 = true) (st : List (List Nd × List Nd × Nat)) (al it al' it' : List Nd) (k c : Nat) : fin s i ⟨(al', it', k) :: st, al, it, c⟩ = fin s (i + 1) ⟨st, al', it' ++ [.mk 7 k emp [altN (al ++ [catN it])]], c⟩ := by
  obtain ⟨hi, h⟩ := nxt_yes h
  rw [fin_step (sgn_mark hi (by omega)), h]; unfold stepM; simp
theorem fin_close0 {s : ByteArray} {i : Nat} (h : nxt s i 41 = true) (al it : List Nd) (c : Nat) : fin s i ⟨[], al, it, c⟩ = none := by
  obtain ⟨hi, h⟩ := nxt_yes h
  rw [fin_step (sgn_mark hi (by omega)), h]; unfold stepM; simp
def isRep (s : ByteArray) (i : Nat) : Bool := nxt s i 42 || nxt s i 43 || nxt s i 63
theorem rep_yes {s : ByteArray} {i : Nat} (h : isRep s i = true) : ∃ hi : i < s.size, s[i].toNat = 42 ∨ s[i].toNat = 43 ∨ s[i].toNat = 63 := by
  unfold isRep at h
  simp only [Bool.or_eq_true] at h
  rcases h with (h | h) | h <;> (obtain ⟨hi, h⟩ := nxt_yes h; exact ⟨hi, by omega⟩)
theorem fin_rep0 {s : ByteArray} {i : Nat} (h : isRep s i = true) (st : List (List Nd × List Nd × Nat)) (al : List Nd) (c : Nat) : fin s i ⟨st, al, [], c⟩ = none := by
  obtain ⟨hi, h⟩ := rep_yes h
  rw [fin_step (sgn_mark hi (by omega))]
  unfold stepM
  rcases h with h | h | h <;> simp [h]
theorem fin_rep {s : ByteArray} {i c1 k : Nat} (h : nxt s i c1 = true) (hk : (c1 = 42 ∧ k = 4) ∨ (c1 = 43 ∧ k = 5) ∨ (c1 = 63 ∧ k = 6)) (st : List (List Nd × List Nd × Nat)) (al it : List Nd) (n : Nd) (c : Nat) :
    fin s i ⟨st, al, it ++ [n], c⟩ = fin s (i + 1) ⟨st, al, it ++ [.mk k 0 emp [n]], c⟩ := by
  obtain ⟨hi, h⟩ := nxt_yes h
  rw [fin_step (sgn_mark hi (by omega))]
  unfold stepM
  rcases hk with ⟨rfl, rfl⟩ | ⟨rfl, rfl⟩ | ⟨rfl, rfl⟩ <;> simp [h]

/-- what an atom, an item, a branch, an expression that is read at a place says of the machine -/
def AtomP (s : ByteArray) (i c : Nat) : Option (Nd × Nat × Nat) → Prop
  | none => ∀ st al it, (it = [] ∨ isRep s i = false) → fin s i ⟨st, al, it, c⟩ = none
  | some (n, j, c2) => i < j ∧ ∀ st al it, fin s i ⟨st, al, it, c⟩ = fin s j ⟨st, al, it ++ [n], c2⟩
def ItemP (s : ByteArray) (i c : Nat) : Option (Nd × Nat × Nat) → Prop
  | none => ∀ st al it, (it = [] ∨ isRep s i = false) → fin s i ⟨st, al, it, c⟩ = none
  | some (n, j, c2) => i < j ∧ isRep s j = false ∧ ∀ st al it, fin s i ⟨st, al, it, c⟩ = fin s j ⟨st, al, it ++ [n], c2⟩
def BrP (s : ByteArray) (i c : Nat) : Option (Nd × Nat × Nat) → Prop
  | none => ∀ st al, fin s i ⟨st, al, [], c⟩ = none
  | some (n, j, c2) => i ≤ j ∧ (j < s.size → nxt s j 41 = true ∨ nxt s j 124 = true) ∧ ∃ l, n = catN l ∧ ∀ st al, fin s i ⟨st, al, [], c⟩ = fin s j ⟨st, al, l, c2⟩
def ExP (s : ByteArray) (i c : Nat) : Option (Nd × Nat × Nat) → Prop
  | none => ∀ st, fin s i ⟨st, [], [], c⟩ = none
  | some (n, j, c2) => i ≤ j ∧ (j < s.size → nxt s j 41 = true) ∧ ∃ al l, n = altN (al ++ [catN l]) ∧ ∀ st, fin s i ⟨st, [], [], c⟩ = fin s j ⟨st, al, l, c2⟩
theorem atom_set {s : ByteArray} {i j : Nat} {t : BitVec 256} (c : Nat) (h : sgn s i = (sgn s j).map (⟨0, t⟩ :: ·)) (hj : i < j) : AtomP s i c (some (.mk 1 0 t [], j, c)) := ⟨hj, fun st al it => fin_set h st al it c⟩
theorem atom_bad {s : ByteArray} {i : Nat} (c : Nat) (h : sgn s i = none) : AtomP s i c none := fun _ _ _ _ => fin_none h _
theorem atom_hat {s : ByteArray} {i : Nat} (c : Nat) (h : nxt s i 94 = true) : AtomP s i c (some (.mk 8 0 emp [], i + 1, c)) := ⟨Nat.lt_succ_self _, fun st al it => fin_hat h st al it c⟩
theorem atom_dollar {s : ByteArray} {i : Nat} (c : Nat) (h : nxt s i 36 = true) : AtomP s i c (some (.mk 9 0 emp [], i + 1, c)) := ⟨Nat.lt_succ_self _, fun st al it => fin_dollar h st al it c⟩
theorem atom_rep {s : ByteArray} {i : Nat} (c : Nat) (h : isRep s i = true) : AtomP s i c none := by
  intro st al it hit
  rcases hit with rfl | hn
  · exact fin_rep0 h st al c
  · rw [h] at hn; cases hn
/-- a group of an expression -/
theorem atom_group {s : ByteArray} {i j c c2 : Nat} {n : Nd} (h : nxt s i 40 = true) (he : ExP s (i + 1) (c + 1) (some (n, j, c2))) (hj : nxt s j 41 = true) : AtomP s i c (some (.mk 7 (c + 1) emp [n], j + 1, c2)) := by
  obtain ⟨h1, -, al', l, rfl, h2⟩ := he
  refine ⟨by omega, fun st al it => ?_⟩
  rw [fin_open h, h2, fin_close hj]
theorem atom_group_bad {s : ByteArray} {i c : Nat} (h : nxt s i 40 = true) (he : ExP s (i + 1) (c + 1) none) : AtomP s i c none := by
  intro st al it _
  rw [fin_open h]; exact he _
theorem atom_group_open {s : ByteArray} {i j c c2 : Nat} {n : Nd} (h : nxt s i 40 = true) (he : ExP s (i + 1) (c + 1) (some (n, j, c2))) (hj : nxt s j 41 = false) : AtomP s i c none := by
  obtain ⟨h1, h3, al', l, rfl, h2⟩ := he
  intro st al it _
  rw [fin_open h, h2, fin_end (by intro hlt; have := h3 hlt; rw [hj] at this; cases this)]; rfl
theorem item_atom {s : ByteArray} {i c j c2 : Nat} {n : Nd} (h : AtomP s i c (some (n, j, c2))) (hr : isRep s j = false) : ItemP s i c (some (n, j, c2)) := ⟨h.1, hr, h.2⟩
theorem atom_more {s : ByteArray} {i c j c2 c1 k : Nat} {n : Nd} (h : AtomP s i c (some (n, j, c2))) (hr : nxt s j c1 = true) (hk : (c1 = 42 ∧ k = 4) ∨ (c1 = 43 ∧ k = 5) ∨ (c1 = 63 ∧ k = 6)) : AtomP s i c (some (.mk k 0 emp [n], j + 1, c2)) :=
  ⟨by have := h.1; omega, fun st al it => by rw [h.2, fin_rep hr hk]⟩

/-- a branch's items so far -/
def BrI (s : ByteArray) (i c : Nat) (L : List Nd) (j c2 : Nat) : Prop := i + L.length ≤ j ∧ (L = [] ∨ isRep s j = false) ∧ ∀ st al, fin s i ⟨st, al, [], c⟩ = fin s j ⟨st, al, L, c2⟩
def BrM (s : ByteArray) (i c : Nat) (L : List Nd) (j c2 : Nat) : Prop := BrI s i c L j c2 ∧ j < s.size ∧ nxt s j 41 = false ∧ nxt s j 124 = false
def BrD (s : ByteArray) (i c : Nat) (L : List Nd) (j c2 : Nat) : Prop := BrI s i c L j c2 ∧ (j < s.size → nxt s j 41 = true ∨ nxt s j 124 = true)
theorem br_start (s : ByteArray) (i c : Nat) : BrI s i c [] i c := ⟨by simp, .inl rfl, fun _ _ => rfl⟩
theorem br_bad {s : ByteArray} {i c j c2 : Nat} {L : List Nd} (h : BrM s i c L j c2) (hp : ItemP s j c2 none) : BrP s i c none := fun st al => by rw [h.1.2.2]; exact hp _ _ _ h.1.2.1
theorem br_on {s : ByteArray} {i c j c2 j' c' : Nat} {L : List Nd} {n : Nd} (h : BrM s i c L j c2) (hp : ItemP s j c2 (some (n, j', c'))) : BrI s i c (L ++ [n]) j' c' := by
  obtain ⟨h1, h2, h3⟩ := hp
  refine ⟨?_, .inr h2, fun st al => by rw [h.1.2.2, h3]⟩
  have := h.1.1
  simp; omega
theorem br_end {s : ByteArray} {i c j c2 : Nat} {L : List Nd} (h : BrD s i c L j c2) : BrP s i c (some (oneN 2 L, j, c2)) := ⟨by have := h.1.1; omega, h.2, L, rfl, h.1.2.2⟩
/-- an expression's branches so far -/
def ExI (s : ByteArray) (i c : Nat) (L : List Nd) (j c2 : Nat) : Prop := (L = [] ∧ j = i ∧ c2 = c) ∨ ∃ al l, L = al ++ [catN l] ∧ i + al.length ≤ j ∧ (j < s.size → nxt s j 41 = true ∨ nxt s j 124 = true) ∧ ∀ st, fin s i ⟨st, [], [], c⟩ = fin s j ⟨st, al, l, c2⟩
def ExM (s : ByteArray) (i c : Nat) (L : List Nd) (j c2 : Nat) : Prop := i + L.length ≤ j ∧ ∀ st, fin s i ⟨st, [], [], c⟩ = fin s j ⟨st, L, [], c2⟩
def ExD (s : ByteArray) (i c : Nat) (L : List Nd) (j c2 : Nat) : Prop := ∃ al l, L = al ++ [catN l] ∧ i + al.length ≤ j ∧ (j < s.size → nxt s j 41 = true) ∧ ∀ st, fin s i ⟨st, [], [], c⟩ = fin s j ⟨st, al, l, c2⟩
theorem ex_start (s : ByteArray) (i c : Nat) : ExI s i c [] i c := .inl ⟨rfl, rfl, rfl⟩
theorem ex_first {s : ByteArray} {i c j c2 : Nat} (h : ExI s i c [] j c2) : ExM s i c [] j c2 := by
  rcases h with ⟨-, rfl, rfl⟩ | ⟨al, l, e, -⟩
  · exact ⟨by simp, fun _ => rfl⟩
  · simp at e
theorem ex_bar {s : ByteArray} {i c j c2 : Nat} {L : List Nd} (h : ExI s i c L j c2) (hL : L ≠ []) (hb : nxt s j 124 = true) : ExM s i c L (j + 1) c2 := by
  rcases h with ⟨e, -⟩ | ⟨al, l, rfl, h1, -, h3⟩
  · exact absurd e hL
  · exact ⟨by simp; omega, fun st => by rw [h3, fin_bar hb]⟩
theorem ex_stop {s : ByteArray} {i c j c2 : Nat} {L : List Nd} (h : ExI s i c L j c2) (hL : L ≠ []) (hb : nxt s j 124 = false) : ExD s i c L j c2 := by
  rcases h with ⟨e, -⟩ | ⟨al, l, rfl, h1, h2, h3⟩
  · exact absurd e hL
  · have h4 : j < s.size → nxt s j 41 = true := by
      intro hj
      rcases h2 hj with h | h
      · exact h
      · rw [hb] at h; cases h
    exact ⟨al, l, rfl, h1, h4, h3⟩
theorem ex_bad {s : ByteArray} {i c j c2 : Nat} {L : List Nd} (h : ExM s i c L j c2) (hp : BrP s j c2 none) : ExP s i c none := fun st => by rw [h.2]; exact hp _ _
theorem ex_on {s : ByteArray} {i c j c2 j' c' : Nat} {L : List Nd} {n : Nd} (h : ExM s i c L j c2) (hp : BrP s j c2 (some (n, j', c'))) : ExI s i c (L ++ [n]) j' c' := by
  obtain ⟨h1, h2, l, rfl, h3⟩ := hp
  exact .inr ⟨L, l, rfl, by have := h.1; omega, h2, fun st => by rw [h.2, h3]⟩
theorem ex_end {s : ByteArray} {i c j c2 : Nat} {L : List Nd} (h : ExD s i c L j c2) : ExP s i c (some (oneN 3 L, j, c2)) := by
  obtain ⟨al, l, rfl, h1, h2, h3⟩ := h
  exact ⟨by omega, h2, al, l, rfl, h3⟩
/-- at the end of the text -/
theorem whole_bad {s : ByteArray} (h : ExP s 0 0 none) : fin s 0 ⟨[], [], [], 0⟩ = none := h []
theorem whole_rest {s : ByteArray} {n : Nd} {j c2 : Nat} (h : ExP s 0 0 (some (n, j, c2))) (hj : j < s.size) : fin s 0 ⟨[], [], [], 0⟩ = none := by
  obtain ⟨-, h2, al, l, -, h3⟩ := h
  rw [h3, fin_close0 (h2 hj)]
theorem whole_all {s : ByteArray} {n : Nd} {j c2 : Nat} (h : ExP s 0 0 (some (n, j, c2))) (hj : ¬ j < s.size) : fin s 0 ⟨[], [], [], 0⟩ = some n := by
  obtain ⟨-, -, al, l, rfl, h3⟩ := h
  rw [h3, fin_end hj]; rfl
end Go.Proofs.YtliefnjhobdphaaDoor

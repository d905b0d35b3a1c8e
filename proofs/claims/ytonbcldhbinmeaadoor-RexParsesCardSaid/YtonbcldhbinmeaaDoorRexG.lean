/- Classes read from the left, member by member (plain). -/
import Derived.Test.YtonbcldhbinmeaaDoorRexF
namespace Go.Proofs.YtonbcldhbinmeaaDoor
open Go.RowKit

theorem gath_acc (s : ByteArray) : ∀ (n i : Nat) (acc : List (Nat × Bool)), s.size - i ≤ n → gath s i acc = (gath s i []).map fun p => (acc ++ p.1, p.2) := by
  intro n
  induction n with
  | zero =>
    intro i acc hn
    rw [gath_end acc (by omega), gath_end [] (by omega)]; rfl
  | succ n ih =>
    intro i acc hn
    by_cases hi : i < s.size
    · by_cases h93 : s[i].toNat = 93
      · rw [gath_stop acc hi h93, gath_stop [] hi h93]; simp
      · by_cases h92 : s[i].toNat = 92
        · by_cases hi1 : i + 1 < s.size
          · rw [gath_esc acc hi h92 hi1, gath_esc [] hi h92 hi1, ih (i + 2) _ (by omega), ih (i + 2) ([] ++ _) (by omega), Option.map_map]
            congr 1; funext p; simp
          · rw [gath_bad acc hi h92 hi1, gath_bad [] hi h92 hi1]; rfl
        · rw [gath_on acc hi h93 h92, gath_on [] hi h93 h92, ih (i + 1) _ (by omega), ih (i + 1) ([] ++ _) (by omega), Option.map_map]
          congr 1; funext p; simp
    · rw [gath_end acc hi, gath_end [] hi]; rfl

theorem rng_shift (x : Nat × Bool) (l : List (Nat × Bool)) : ∀ (n i : Nat) (f : Nat → Bool), l.length - i ≤ n → rng (x :: l) (i + 1) f = rng l i f := by
  intro n
  induction n with
  | zero =>
    intro i f hn
    rw [rng_end f (l := l) (by omega), rng_end f (by simp; omega)]
  | succ n ih =>
    intro i f hn
    by_cases hi : i < l.length
    · rw [rng, rng]
      rw [dif_pos hi, dif_pos (by simp; omega)]
      by_cases h2 : i + 2 < l.length
      · rw [dif_pos h2, dif_pos (by simp; omega)]
        simp only [List.getElem_cons_succ, show i + 1 + 1 = (i + 1) + 1 from rfl, show i + 1 + 2 = (i + 2) + 1 from rfl, show i + 1 + 3 = (i + 3) + 1 from rfl]
        rw [ih (i + 3) _ (by omega), ih (i + 1) _ (by omega)]
      · rw [dif_neg h2, dif_neg (by simp; omega)]
        simp only [List.getElem_cons_succ]
        rw [ih (i + 1) _ (by omega)]
    · rw [rng_end f hi, rng_end f (by simp; omega)]
theorem rng_tail (x : Nat × Bool) (l : List (Nat × Bool)) (f : Nat → Bool) : rng (x :: l) 1 f = rng l 0 f := rng_shift x l _ 0 f (Nat.le_refl _)
theorem rng_tail3 (x y z : Nat × Bool) (l : List (Nat × Bool)) (f : Nat → Bool) : rng (x :: y :: z :: l) 3 f = rng l 0 f := by
  rw [rng_shift x (y :: z :: l) _ 2 f (Nat.le_refl _), rng_shift y (z :: l) _ 1 f (Nat.le_refl _), rng_tail]

/-- a byte of a class: itself, whether it stood bare, what is behind it -/
def byteAt (s : ByteArray) (i : Nat) : Option (Nat × Bool × Nat) :=
  if h : i < s.size then
    if s[i].toNat = 93 then none
    else if s[i].toNat = 92 then (if h2 : i + 1 < s.size then some (s[i + 1].toNat, false, i + 2) else none)
    else some (s[i].toNat, true, i + 1)
  else none
theorem byteAt_gt {s : ByteArray} {i b j : Nat} {f : Bool} (h : byteAt s i = some (b, f, j)) : i < j ∧ j ≤ s.size ∧ b < 256 := by
  unfold byteAt at h
  split at h
  · split at h
    · cases h
    · split at h
      · split at h
        · simp only [Option.some.injEq, Prod.mk.injEq] at h; obtain ⟨rfl, -, rfl⟩ := h; have := UInt8.toNat_lt s[i + 1]; omega
        · cases h
      · simp only [Option.some.injEq, Prod.mk.injEq] at h; obtain ⟨rfl, -, rfl⟩ := h; have := UInt8.toNat_lt s[i]; omega
  · cases h
theorem gath_byte {s : ByteArray} {i b j : Nat} {f : Bool} (h : byteAt s i = some (b, f, j)) : gath s i [] = (gath s j []).map fun p => ((b, f) :: p.1, p.2) := by
  unfold byteAt at h
  split at h
  · rename_i hi
    split at h
    · cases h
    · rename_i h93
      split at h
      · rename_i h92
        split at h
        · rename_i hi1
          simp only [Option.some.injEq, Prod.mk.injEq] at h; obtain ⟨rfl, rfl, rfl⟩ := h
          rw [gath_esc [] hi h92 hi1, gath_acc s _ _ _ (Nat.le_refl _)]; rfl
        · cases h
      · rename_i h92
        simp only [Option.some.injEq, Prod.mk.injEq] at h; obtain ⟨rfl, rfl, rfl⟩ := h
        rw [gath_on [] hi h93 h92, gath_acc s _ _ _ (Nat.le_refl _)]; rfl
  · cases h
theorem gath_nobyte {s : ByteArray} {i : Nat} (h : byteAt s i = none) (h93 : ∀ hi : i < s.size, s[i].toNat ≠ 93) : gath s i [] = none := by
  unfold byteAt at h
  split at h
  · rename_i hi
    rw [if_neg (h93 hi)] at h
    split at h
    · rename_i h92
      split at h
      · cases h
      · rename_i hi1; exact gath_bad [] hi h92 hi1
    · cases h
  · rename_i hi; exact gath_end [] hi
/-- is that byte next? -/
def nxt (s : ByteArray) (i c : Nat) : Bool := if h : i < s.size then s[i].toNat == c else false
theorem nxt_yes {s : ByteArray} {i c : Nat} (h : nxt s i c = true) : ∃ hi : i < s.size, s[i].toNat = c := by
  unfold nxt at h
  split at h
  · rename_i hi; exact ⟨hi, by simpa using h⟩
  · cases h
theorem nxt_no {s : ByteArray} {i c : Nat} (h : nxt s i c = false) (hi : i < s.size) : s[i].toNat ≠ c := by
  unfold nxt at h
  rw [dif_pos hi] at h
  simpa using h
theorem nxt_is {s : ByteArray} {i c : Nat} (hi : i < s.size) (h : s[i].toNat = c) : nxt s i c = true := by
  unfold nxt; rw [dif_pos hi, h]; simp
theorem nxt_end {s : ByteArray} {i c : Nat} (h : ¬ i < s.size) : nxt s i c = false := by unfold nxt; rw [dif_neg h]
/-- does a - stand here that makes two bytes one member? -/
def joins (s : ByteArray) (i : Nat) : Bool := nxt s i 45 && !nxt s (i + 1) 93
/-- a member of a class: which bytes it has, what is behind it -/
def memP (s : ByteArray) (i : Nat) : Option (BitVec 256 × Nat) :=
  match byteAt s i with
  | none => none
  | some (lo, _, j) => if joins s j then (match byteAt s (j + 1) with
      | none => none
      | some (hi, _, k) => if lo ≤ hi then some (spn lo hi, k) else none)
    else some (one lo, j)
theorem memP_gt {s : ByteArray} {i j : Nat} {t : BitVec 256} (h : memP s i = some (t, j)) : i < j ∧ j ≤ s.size := by
  unfold memP at h
  split at h
  · cases h
  · rename_i lo f j1 h1
    have g1 := byteAt_gt h1
    split at h
    · split at h
      · cases h
      · rename_i hi f2 k h2
        have g2 := byteAt_gt h2
        split at h
        · simp only [Option.some.injEq, Prod.mk.injEq] at h; omega
        · cases h
    · simp only [Option.some.injEq, Prod.mk.injEq] at h; omega
/-- what becomes of a class from a member on, if f are the bytes so far -/
def clsK (s : ByteArray) (n : Bool) (f : Nat → Bool) (i : Nat) : Option (BitVec 256 × Nat) :=
  match gath s i [] with
  | none => none
  | some (l, e) => (rng l 0 f).map fun g => (mkS (fun b => g b != n), e)
theorem clsK_none {s : ByteArray} {n : Bool} {f : Nat → Bool} {i : Nat} (h : gath s i [] = none) : clsK s n f i = none := by unfold clsK; rw [h]
theorem clsK_stop {s : ByteArray} {n : Bool} {f : Nat → Bool} {i : Nat} (hi : i < s.size) (h : s[i].toNat = 93) : clsK s n f i = some (mkS (fun b => f b != n), i) := by
  unfold clsK; rw [gath_stop [] hi h]
  show (rng [] 0 f).map _ = _
  rw [rng_end f (l := []) (by simp)]; rfl
theorem clsQ_first {s : ByteArray} {n : Bool} {i : Nat} (h : nxt s i 93 = true) : clsQ s n i = none := by
  obtain ⟨hi, h⟩ := nxt_yes h
  exact clsQ_empty (gath_stop [] hi h)
theorem clsQ_K {s : ByteArray} {n : Bool} {i : Nat} (h : nxt s i 93 = false) : clsQ s n i = clsK s n (fun _ => false) i := by
  by_cases hi : i < s.size
  · have h93 := nxt_no h hi
    cases hg : gath s i [] with
    | none => rw [clsQ_none hg, clsK_none hg]
    | some p =>
      obtain ⟨l, e⟩ := p
      have hl : l ≠ [] := by
        cases hb : byteAt s i with
        | none => rw [gath_nobyte hb (fun _ => h93)] at hg; cases hg
        | some q =>
          obtain ⟨b, f, j⟩ := q
          rw [gath_byte hb] at hg
          cases hj : gath s j [] with
          | none => rw [hj] at hg; cases hg
          | some r => rw [hj] at hg; simp only [Option.map_some, Option.some.injEq, Prod.mk.injEq] at hg; rw [← hg.1]; simp
      unfold clsQ clsK; rw [hg]
      simp only [if_neg hl]
      cases rng l 0 (fun _ => false) <;> rfl
  · rw [clsQ_none (gath_end [] hi), clsK_none (gath_end [] hi)]
theorem mkS_ext {f g : Nat → Bool} (h : ∀ b, b < 256 → f b = g b) : mkS f = mkS g := inn_ext fun b hb => by rw [inn_mkS _ b hb, inn_mkS _ b hb, h b hb]
theorem rng_ext (l : List (Nat × Bool)) : ∀ (n i : Nat) (f g : Nat → Bool) (m : Bool), l.length - i ≤ n → (∀ b, b < 256 → f b = g b) →
    ((rng l i f).map fun h => mkS (fun b => h b != m)) = ((rng l i g).map fun h => mkS (fun b => h b != m)) := by
  intro n
  induction n with
  | zero =>
    intro i f g m hn hfg
    rw [rng_end f (by omega), rng_end g (by omega)]
    simp only [Option.map_some, Option.some.injEq]
    exact mkS_ext fun b hb => by rw [hfg b hb]
  | succ n ih =>
    intro i f g m hn hfg
    by_cases hi : i < l.length
    · rw [rng.eq_def l i f, rng.eq_def l i g, dif_pos hi, dif_pos hi]
      have h1 : ∀ b, b < 256 → (f b || b == (l[i]).1) = (g b || b == (l[i]).1) := fun b hb => by rw [hfg b hb]
      by_cases h2 : i + 2 < l.length
      · rw [dif_pos h2, dif_pos h2]
        split
        · split
          · rfl
          · exact ih _ _ _ m (by omega) fun b hb => by rw [hfg b hb]
        · exact ih _ _ _ m (by omega) h1
      · rw [dif_neg h2, dif_neg h2]
        exact ih _ _ _ m (by omega) h1
    · rw [rng_end f hi, rng_end g hi]
      simp only [Option.map_some, Option.some.injEq]
      exact mkS_ext fun b hb => by rw [hfg b hb]
theorem clsK_ext {s : ByteArray} {n : Bool} {f g : Nat → Bool} {i : Nat} (h : ∀ b, b < 256 → f b = g b) : clsK s n f i = clsK s n g i := by
  unfold clsK
  cases gath s i [] with
  | none => rfl
  | some p =>
    obtain ⟨l, e⟩ := p
    have := rng_ext l _ 0 f g n (Nat.le_refl _) h
    simp only
    cases h1 : rng l 0 f <;> cases h2 : rng l 0 g <;> rw [h1, h2] at this <;> simp_all
theorem clsK_mem {s : ByteArray} {n : Bool} {f : Nat → Bool} {i : Nat} (h : nxt s i 93 = false) : clsK s n f i = match memP s i with
    | none => none
    | some (t, j) => clsK s n (fun b => f b || inn t b) j := by
  have h93 : ∀ hi : i < s.size, s[i].toNat ≠ 93 := fun hi => nxt_no h hi
  unfold memP
  cases hb : byteAt s i with
  | none => exact clsK_none (gath_nobyte hb h93)
  | some q =>
    obtain ⟨lo, fl, j⟩ := q
    have g1 := byteAt_gt hb
    have hlo := g1.2.2
    have hG := gath_byte hb
    by_cases hj : joins s j = true
    · simp only [hj, if_true]
      unfold joins at hj
      simp only [Bool.and_eq_true, Bool.not_eq_true'] at hj
      obtain ⟨hj1, hj2⟩ := hj
      obtain ⟨hjs, hj45⟩ := nxt_yes hj1
      have hbj : byteAt s j = some (45, true, j + 1) := by unfold byteAt; rw [dif_pos hjs, if_neg (by omega), if_neg (by omega), hj45]
      have hGj := gath_byte hbj
      cases hb2 : byteAt s (j + 1) with
      | none => exact clsK_none (by rw [hG, hGj, gath_nobyte hb2 (fun hi => nxt_no hj2 hi)]; rfl)
      | some q2 =>
        obtain ⟨hi', f2, k⟩ := q2
        have g2 := byteAt_gt hb2
        have hGk := gath_byte hb2
        cases hk : gath s k [] with
        | none =>
          have e1 : gath s i [] = none := by rw [hG, hGj, hGk, hk]; rfl
          rw [clsK_none e1]
          by_cases hle : lo ≤ hi'
          · simp only [hle, if_true]; rw [clsK_none hk]
          · simp only [hle, if_false]
        | some p =>
          obtain ⟨l, e⟩ := p
          have e1 : gath s i [] = some ((lo, fl) :: (45, true) :: (hi', f2) :: l, e) := by rw [hG, hGj, hGk, hk]; rfl
          have e2 : rng ((lo, fl) :: (45, true) :: (hi', f2) :: l) 0 f = if hi' < lo then none else rng l 0 (fun b => f b || decide (lo ≤ b ∧ b ≤ hi')) := by
            rw [rng_two f (i := 0) (lo := lo) (hi' := hi') (x := fl) (y := f2) rfl rfl rfl, rng_tail3]
          unfold clsK
          rw [e1]
          simp only [e2]
          by_cases hle : lo ≤ hi'
          · rw [if_neg (by omega)]
            simp only [hle, if_true, hk]
            have hx := clsK_ext (s := s) (n := n) (f := fun b => f b || decide (lo ≤ b ∧ b ≤ hi')) (g := fun b => f b || inn (spn lo hi') b) (i := k) (fun b hb => by rw [inn_spn _ _ _ hb]; rfl)
            unfold clsK at hx
            rw [hk] at hx
            exact hx
          · rw [if_pos (by omega)]
            simp only [hle, if_false]; rfl
    · have hj' : joins s j = false := by simpa using hj
      simp only [hj', Bool.false_eq_true, if_false]
      cases hk : gath s j [] with
      | none => rw [clsK_none (by rw [hG, hk]; rfl), clsK_none hk]
      | some p =>
        obtain ⟨l, e⟩ := p
        have e1 : gath s i [] = some ((lo, fl) :: l, e) := by rw [hG, hk]; rfl
        have hN : ∀ c b, 0 + 2 < ((lo, fl) :: l).length → ((lo, fl) :: l)[0 + 1]? = some (c, b) → ¬ (c = 45 ∧ b = true) := by
          rintro c b hlen hc ⟨rfl, rfl⟩
          have hc : l[0]? = some (45, true) := by simpa using hc
          -- the next byte is a bare -
          cases hb2 : byteAt s j with
          | none =>
            by_cases h9 : nxt s j 93 = true
            · obtain ⟨hjs, h9⟩ := nxt_yes h9
              rw [gath_stop [] hjs h9] at hk
              cases hk; simp at hc
            · rw [gath_nobyte hb2 (fun hi => nxt_no (by simpa using h9) hi)] at hk; cases hk
          | some q2 =>
            obtain ⟨b2, f2, j2⟩ := q2
            have hG2 := gath_byte hb2
            rw [hG2] at hk
            cases hk2 : gath s j2 [] with
            | none => rw [hk2] at hk; cases hk
            | some p2 =>
              obtain ⟨l2, e3⟩ := p2
              rw [hk2] at hk
              simp only [Option.map_some, Option.some.injEq, Prod.mk.injEq] at hk
              obtain ⟨rfl, rfl⟩ := hk
              simp only [List.getElem?_cons_zero, Option.some.injEq, Prod.mk.injEq] at hc
              obtain ⟨rfl, rfl⟩ := hc
              -- so it is no joint only because a closing bracket follows: but then nothing follows
              unfold byteAt at hb2
              split at hb2
              · rename_i hjs
                split at hb2
                · cases hb2
                · split at hb2
                  · split at hb2
                    · simp at hb2
                    · cases hb2
                  · simp only [Option.some.injEq, Prod.mk.injEq] at hb2
                    obtain ⟨h45, -, rfl⟩ := hb2
                    unfold joins at hj'
                    rw [nxt_is hjs h45] at hj'
                    simp only [Bool.true_and, Bool.not_eq_false'] at hj'
                    obtain ⟨hj1, h93'⟩ := nxt_yes hj'
                    rw [gath_stop [] hj1 h93'] at hk2
                    cases hk2
                    simp at hlen
              · cases hb2
        have e2 := rng_one f (i := 0) (lo := lo) (x := fl) (l := (lo, fl) :: l) rfl hN
        unfold clsK
        rw [e1]
        simp only [e2, Nat.zero_add, rng_tail]
        have hx := clsK_ext (s := s) (n := n) (f := fun b => f b || b == lo) (g := fun b => f b || inn (one lo) b) (i := j) (fun b hb => by rw [inn_one _ _ hb]; congr 1)
        unfold clsK at hx
        rw [hk] at hx
        rw [hk]
        exact hx
end Go.Proofs.YtonbcldhbinmeaaDoor

/- The ones of a number of 64 bits, as math/bits counts them. -/
import Derived.Test.YtgpmhnpacpgckaaDoorClsPlain
namespace Go.Proofs.YtgpmhnpacpgckaaDoor

/-- a number out of its bytes, the lowest first -/
def val : List Nat → Nat
  | [] => 0
  | b :: l => b + 256 * val l
def mask (m : Nat) : Nat → Nat
  | 0 => 0
  | n + 1 => m + 256 * mask m n

theorem and_cons (b m x y : Nat) (hb : b < 256) (hm : m < 256) : (b + 256 * x) &&& (m + 256 * y) = (b &&& m) + 256 * (x &&& y) := by
  have h1 : ((b + 256 * x) &&& (m + 256 * y)) % 2 ^ 8 = (b &&& m) := by
    rw [Nat.and_mod_two_pow]
    congr 1 <;> omega
  have h2 : ((b + 256 * x) &&& (m + 256 * y)) / 2 ^ 8 = (x &&& y) := by
    rw [Nat.and_div_two_pow]
    congr 1 <;> omega
  have := Nat.div_add_mod ((b + 256 * x) &&& (m + 256 * y)) (2 ^ 8)
  rw [h1, h2] at this
  omega

def f8 (b : Nat) : Nat := (b / 2 &&& 85) + (b &&& 85)
def g8 (b : Nat) : Nat := (b / 4 &&& 51) + (b &&& 51)
def h8 (b : Nat) : Nat := (b / 16 + b) &&& 15

theorem f_low : ∀ (c : Fin 2) (b : Fin 256), (128 * c.val + b.val / 2) &&& 85 = b.val / 2 &&& 85 := by decide +kernel
theorem g_low : ∀ (c : Fin 4) (b : Fin 256), (64 * c.val + b.val / 4) &&& 51 = b.val / 4 &&& 51 := by decide +kernel
theorem h_low : ∀ (c : Fin 5) (b : Fin 256), b.val % 16 ≤ 4 → b.val / 16 ≤ 4 → (16 * c.val + b.val / 16 + b.val) &&& 15 = h8 b.val ∧ (16 * c.val + b.val / 16 + b.val) < 256 := by decide +kernel
theorem fg_small : ∀ b : Fin 256, f8 b.val < 256 ∧ g8 b.val < 256 := by decide +kernel
theorem all_small : ∀ b : Fin 256, g8 (f8 b.val) % 16 ≤ 4 ∧ g8 (f8 b.val) / 16 ≤ 4 ∧ h8 (g8 (f8 b.val)) = popN 8 b.val := by decide +kernel

theorem step_f : ∀ l : List Nat, (∀ b ∈ l, b < 256) → (val l / 2 &&& mask 85 l.length) + (val l &&& mask 85 l.length) = val (l.map f8)
  | [], _ => rfl
  | b :: l, h => by
    have hb := h b (by simp)
    have ih := step_f l (fun x hx => h x (by simp [hx]))
    have e : (b + 256 * val l) / 2 = (128 * (val l % 2) + b / 2) + 256 * (val l / 2) := by omega
    have e2 := f_low ⟨val l % 2, by omega⟩ ⟨b, hb⟩
    simp only at e2
    show ((b + 256 * val l) / 2 &&& (85 + 256 * mask 85 l.length)) + ((b + 256 * val l) &&& (85 + 256 * mask 85 l.length)) = f8 b + 256 * val (l.map f8)
    rw [e, and_cons _ _ _ _ (by omega) (by omega), and_cons _ _ _ _ hb (by omega), e2, ← ih]
    unfold f8; omega
theorem step_g : ∀ l : List Nat, (∀ b ∈ l, b < 256) → (val l / 4 &&& mask 51 l.length) + (val l &&& mask 51 l.length) = val (l.map g8)
  | [], _ => rfl
  | b :: l, h => by
    have hb := h b (by simp)
    have ih := step_g l (fun x hx => h x (by simp [hx]))
    have e : (b + 256 * val l) / 4 = (64 * (val l % 4) + b / 4) + 256 * (val l / 4) := by omega
    have e2 := g_low ⟨val l % 4, by omega⟩ ⟨b, hb⟩
    simp only at e2
    show ((b + 256 * val l) / 4 &&& (51 + 256 * mask 51 l.length)) + ((b + 256 * val l) &&& (51 + 256 * mask 51 l.length)) = g8 b + 256 * val (l.map g8)
    rw [e, and_cons _ _ _ _ (by omega) (by omega), and_cons _ _ _ _ hb (by omega), e2, ← ih]
    unfold g8; omega
theorem val_low (l : List Nat) (h : ∀ b ∈ l, b % 16 ≤ 4) : val l % 16 ≤ 4 := by
  cases l with
  | nil => simp [val]
  | cons b l => have := h b (by simp); show (b + 256 * val l) % 16 ≤ 4; omega
theorem step_h : ∀ l : List Nat, (∀ b ∈ l, b < 256 ∧ b % 16 ≤ 4 ∧ b / 16 ≤ 4) → ((val l / 16 + val l) &&& mask 15 l.length) = val (l.map h8)
  | [], _ => rfl
  | b :: l, h => by
    obtain ⟨hb, h1, h2⟩ := h b (by simp)
    have ih := step_h l (fun x hx => h x (by simp [hx]))
    have hl := val_low l (fun x hx => (h x (by simp [hx])).2.1)
    have e2 := h_low ⟨val l % 16, by omega⟩ ⟨b, hb⟩ h1 h2
    simp only at e2
    have e : (b + 256 * val l) / 16 + (b + 256 * val l) = (16 * (val l % 16) + b / 16 + b) + 256 * (val l / 16 + val l) := by omega
    show ((b + 256 * val l) / 16 + (b + 256 * val l) &&& (15 + 256 * mask 15 l.length)) = h8 b + 256 * val (l.map h8)
    rw [e, and_cons _ _ _ _ e2.2 (by omega), e2.1, ih]

theorem popN_add (m n x : Nat) : popN (m + n) x = popN m x + popN n (x / 2 ^ m) := by
  induction m generalizing x with
  | zero => simp [popN]
  | succ m ih =>
    rw [show m + 1 + n = (m + n) + 1 by omega]
    show x % 2 + popN (m + n) (x / 2) = x % 2 + popN m (x / 2) + popN n (x / 2 ^ (m + 1))
    rw [ih, Nat.div_div_eq_div_mul, Nat.pow_succ, Nat.mul_comm 2]
    omega
theorem popN_cut (m x : Nat) : popN m x = popN m (x % 2 ^ m) := by
  induction m generalizing x with
  | zero => rfl
  | succ m ih =>
    show x % 2 + popN m (x / 2) = x % 2 ^ (m + 1) % 2 + popN m (x % 2 ^ (m + 1) / 2)
    rw [ih (x / 2), ih (x % 2 ^ (m + 1) / 2)]
    have e1 : x % 2 ^ (m + 1) % 2 = x % 2 := by rw [Nat.mod_mod_of_dvd _ ⟨2 ^ m, by rw [Nat.pow_succ]; omega⟩]
    have e2 : x % 2 ^ (m + 1) / 2 = x / 2 % 2 ^ m := by
      rw [Nat.pow_succ, Nat.mul_comm, Nat.mod_mul_right_div_self]
    rw [e1, e2, Nat.mod_mod]

/-- what math/bits does, step by step -/
def p1 (x : Nat) : Nat := (x / 2 &&& 6148914691236517205) + (x &&& 6148914691236517205)
def p2 (x : Nat) : Nat := (x / 4 &&& 3689348814741910323) + (x &&& 3689348814741910323)
def p3 (x : Nat) : Nat := (x / 16 + x) &&& 1085102592571150095
def p4 (x : Nat) : Nat := x + x / 256
def p5 (x : Nat) : Nat := x + x / 65536
def p6 (x : Nat) : Nat := x + x / 4294967296
theorem bytes8 (x : Nat) (h : x < 18446744073709551616) : ∃ l : List Nat, l.length = 8 ∧ (∀ b ∈ l, b < 256) ∧ x = val l ∧ popN 64 x = (l.map (popN 8)).sum := by
  refine ⟨[x % 256, x / 256 % 256, x / 65536 % 256, x / 16777216 % 256, x / 4294967296 % 256, x / 1099511627776 % 256, x / 281474976710656 % 256, x / 72057594037927936 % 256], rfl, ?_, ?_, ?_⟩
  · intro b hb; simp at hb; omega
  · simp only [val]; omega
  · have e : ∀ y, popN 8 y = popN 8 (y % 256) := fun y => popN_cut 8 y
    have a1 := popN_add 8 56 x
    have a2 := popN_add 8 48 (x / 2 ^ 8)
    have a3 := popN_add 8 40 (x / 2 ^ 8 / 2 ^ 8)
    have a4 := popN_add 8 32 (x / 2 ^ 8 / 2 ^ 8 / 2 ^ 8)
    have a5 := popN_add 8 24 (x / 2 ^ 8 / 2 ^ 8 / 2 ^ 8 / 2 ^ 8)
    have a6 := popN_add 8 16 (x / 2 ^ 8 / 2 ^ 8 / 2 ^ 8 / 2 ^ 8 / 2 ^ 8)
    have a7 := popN_add 8 8 (x / 2 ^ 8 / 2 ^ 8 / 2 ^ 8 / 2 ^ 8 / 2 ^ 8 / 2 ^ 8)
    simp only [Nat.reduceAdd, Nat.div_div_eq_div_mul, Nat.reducePow, Nat.reduceMul] at a1 a2 a3 a4 a5 a6 a7
    rw [a1, a2, a3, a4, a5, a6, a7]
    rw [e x, e (x / 256), e (x / 65536), e (x / 16777216), e (x / 4294967296), e (x / 1099511627776), e (x / 281474976710656), e (x / 72057594037927936)]
    simp only [List.map_cons, List.map_nil, List.sum_cons, List.sum_nil]
    omega
theorem val_cons (b M : Nat) (l : List Nat) (hb : b < 256) (h : val l ≤ M) : val (b :: l) ≤ 255 + 256 * M := by
  show b + 256 * val l ≤ _; omega
theorem val_le8 (b0 b1 b2 b3 b4 b5 b6 b7 m : Nat) (h0 : b0 < 256) (h1 : b1 < 256) (h2 : b2 < 256) (h3 : b3 < 256) (h4 : b4 < 256) (h5 : b5 < 256) (h6 : b6 < 256) (h7 : b7 ≤ m) :
    val [b0, b1, b2, b3, b4, b5, b6, b7] ≤ 255 + 256 * (255 + 256 * (255 + 256 * (255 + 256 * (255 + 256 * (255 + 256 * (255 + 256 * m)))))) :=
  val_cons _ _ _ h0 (val_cons _ _ _ h1 (val_cons _ _ _ h2 (val_cons _ _ _ h3 (val_cons _ _ _ h4 (val_cons _ _ _ h5 (val_cons _ _ _ h6 (by show b7 + 256 * 0 ≤ m; omega)))))))
theorem val_lt8 (b0 b1 b2 b3 b4 b5 b6 b7 : Nat) (h0 : b0 < 256) (h1 : b1 < 256) (h2 : b2 < 256) (h3 : b3 < 256) (h4 : b4 < 256) (h5 : b5 < 256) (h6 : b6 < 256) (h7 : b7 < 256) :
    val [b0, b1, b2, b3, b4, b5, b6, b7] < 18446744073709551616 := by
  have := val_le8 b0 b1 b2 b3 b4 b5 b6 b7 255 h0 h1 h2 h3 h4 h5 h6 (by omega)
  omega
theorem val_lt8' (b0 b1 b2 b3 b4 b5 b6 b7 : Nat) (h0 : b0 < 256) (h1 : b1 < 256) (h2 : b2 < 256) (h3 : b3 < 256) (h4 : b4 < 256) (h5 : b5 < 256) (h6 : b6 < 256) (h7 : b7 ≤ 68) :
    val [b0, b1, b2, b3, b4, b5, b6, b7] / 16 + val [b0, b1, b2, b3, b4, b5, b6, b7] < 18446744073709551616 := by
  have := val_le8 b0 b1 b2 b3 b4 b5 b6 b7 68 h0 h1 h2 h3 h4 h5 h6 h7
  omega
theorem k4 (c0 c1 c2 c3 c4 c5 c6 c7 : Nat) (h0 : c0 ≤ 8) :
    p4 (val [c0, c1, c2, c3, c4, c5, c6, c7]) = val [c0 + c1, c1 + c2, c2 + c3, c3 + c4, c4 + c5, c5 + c6, c6 + c7, c7] := by
  unfold p4; simp only [val]; omega
theorem k5 (c0 c1 c2 c3 c4 c5 c6 c7 : Nat) (h0 : c0 ≤ 16) (h1 : c1 ≤ 16) :
    p5 (val [c0, c1, c2, c3, c4, c5, c6, c7]) = val [c0 + c2, c1 + c3, c2 + c4, c3 + c5, c4 + c6, c5 + c7, c6, c7] := by
  unfold p5; simp only [val]; omega
theorem k6 (c0 c1 c2 c3 c4 c5 c6 c7 : Nat) (h0 : c0 ≤ 32) (h1 : c1 ≤ 32) (h2 : c2 ≤ 32) (h3 : c3 ≤ 32) :
    p6 (val [c0, c1, c2, c3, c4, c5, c6, c7]) = val [c0 + c4, c1 + c5, c2 + c6, c3 + c7, c4, c5, c6, c7] := by
  unfold p6; simp only [val]; omega
theorem k7 (c0 c1 c2 c3 c4 c5 c6 c7 : Nat) (h0 : c0 ≤ 127) (h7 : c7 ≤ 32) (h1 : c1 ≤ 127) (h2 : c2 ≤ 127) (h3 : c3 ≤ 127) (h4 : c4 ≤ 127) (h5 : c5 ≤ 127) (h6 : c6 ≤ 127) :
    val [c0, c1, c2, c3, c4, c5, c6, c7] < 9223372036854775808 ∧ val [c0, c1, c2, c3, c4, c5, c6, c7] % 128 = c0 := by
  simp only [val]; omega
theorem pop_sum (c0 c1 c2 c3 c4 c5 c6 c7 : Nat) (h0 : c0 ≤ 8) (h1 : c1 ≤ 8) (h2 : c2 ≤ 8) (h3 : c3 ≤ 8) (h4 : c4 ≤ 8) (h5 : c5 ≤ 8) (h6 : c6 ≤ 8) (h7 : c7 ≤ 8) (v : Nat) (hv : v = val [c0, c1, c2, c3, c4, c5, c6, c7]) :
    v < 18446744073709551616 ∧ p4 v < 18446744073709551616 ∧ p5 (p4 v) < 18446744073709551616 ∧ p6 (p5 (p4 v)) < 9223372036854775808 ∧ p6 (p5 (p4 v)) % 128 = c0 + (c1 + (c2 + (c3 + (c4 + (c5 + (c6 + (c7 + 0))))))) := by
  subst hv
  have e4 := k4 c0 c1 c2 c3 c4 c5 c6 c7 h0
  have e5 := k5 (c0 + c1) (c1 + c2) (c2 + c3) (c3 + c4) (c4 + c5) (c5 + c6) (c6 + c7) c7 (by omega) (by omega)
  have e6 := k6 (c0 + c1 + (c2 + c3)) (c1 + c2 + (c3 + c4)) (c2 + c3 + (c4 + c5)) (c3 + c4 + (c5 + c6)) (c4 + c5 + (c6 + c7)) (c5 + c6 + c7) (c6 + c7) c7 (show c0 + c1 + (c2 + c3) ≤ 32 by omega) (show c1 + c2 + (c3 + c4) ≤ 32 by omega) (show c2 + c3 + (c4 + c5) ≤ 32 by omega) (show c3 + c4 + (c5 + c6) ≤ 32 by omega)
  rw [e4, e5, e6]
  have f7 := k7 _ _ _ _ _ _ _ _ (show c0 + c1 + (c2 + c3) + (c4 + c5 + (c6 + c7)) ≤ 127 by omega) (show c7 ≤ 32 by omega) (show c1 + c2 + (c3 + c4) + (c5 + c6 + c7) ≤ 127 by omega) (show c2 + c3 + (c4 + c5) + (c6 + c7) ≤ 127 by omega) (show c3 + c4 + (c5 + c6) + c7 ≤ 127 by omega) (show c4 + c5 + (c6 + c7) ≤ 127 by omega) (show c5 + c6 + c7 ≤ 127 by omega) (show c6 + c7 ≤ 127 by omega)
  exact ⟨val_lt8 _ _ _ _ _ _ _ _ (by omega) (by omega) (by omega) (by omega) (by omega) (by omega) (by omega) (by omega), val_lt8 _ _ _ _ _ _ _ _ (by omega) (by omega) (by omega) (by omega) (by omega) (by omega) (by omega) (by omega), val_lt8 _ _ _ _ _ _ _ _ (by omega) (by omega) (by omega) (by omega) (by omega) (by omega) (by omega) (by omega), f7.1, by rw [f7.2]; omega⟩
theorem eight (l : List Nat) (h : l.length = 8) : ∃ b0 b1 b2 b3 b4 b5 b6 b7, l = [b0, b1, b2, b3, b4, b5, b6, b7] := by
  rcases l with _ | ⟨b0, _ | ⟨b1, _ | ⟨b2, _ | ⟨b3, _ | ⟨b4, _ | ⟨b5, _ | ⟨b6, _ | ⟨b7, _ | ⟨b8, l⟩⟩⟩⟩⟩⟩⟩⟩⟩
  all_goals first | exact ⟨b0, b1, b2, b3, b4, b5, b6, b7, rfl⟩ | (simp at h)
theorem pop_all (x : Nat) (h : x < 18446744073709551616) :
    p1 x < 18446744073709551616 ∧ p2 (p1 x) < 18446744073709551616 ∧ p2 (p1 x) / 16 + p2 (p1 x) < 18446744073709551616 ∧ p3 (p2 (p1 x)) < 18446744073709551616 ∧ p4 (p3 (p2 (p1 x))) < 18446744073709551616 ∧ p5 (p4 (p3 (p2 (p1 x)))) < 18446744073709551616 ∧ p6 (p5 (p4 (p3 (p2 (p1 x))))) < 9223372036854775808 ∧ p6 (p5 (p4 (p3 (p2 (p1 x))))) % 128 = popN 64 x := by
  obtain ⟨l, hl, hb, hx, hp⟩ := bytes8 x h
  have m1 : mask 85 8 = 6148914691236517205 := by decide
  have m2 : mask 51 8 = 3689348814741910323 := by decide
  have m3 : mask 15 8 = 1085102592571150095 := by decide
  have s1 := step_f l hb
  have hb1 : ∀ b ∈ l.map f8, b < 256 := by
    intro b hb'; obtain ⟨c, hc, rfl⟩ := List.mem_map.1 hb'; exact (fg_small ⟨c, hb c hc⟩).1
  have s2 := step_g _ hb1
  have hb2 : ∀ b ∈ (l.map f8).map g8, b < 256 ∧ b % 16 ≤ 4 ∧ b / 16 ≤ 4 := by
    intro b hb'
    rw [List.map_map] at hb'
    obtain ⟨c, hc, rfl⟩ := List.mem_map.1 hb'
    have k1 := all_small ⟨c, hb c hc⟩
    have k2 := (fg_small ⟨f8 c, (fg_small ⟨c, hb c hc⟩).1⟩).2
    exact ⟨k2, k1.1, k1.2.1⟩
  have s3 := step_h _ hb2
  rw [List.length_map, List.length_map, hl, m3] at s3
  rw [List.length_map, hl, m2] at s2
  rw [hl, m1, ← hx] at s1
  have e1 : p1 x = val (l.map f8) := s1
  have e2 : p2 (p1 x) = val ((l.map f8).map g8) := by rw [e1]; exact s2
  have e3 : p3 (p2 (p1 x)) = val (((l.map f8).map g8).map h8) := by rw [e2]; exact s3
  have e4 : ((l.map f8).map g8).map h8 = l.map (popN 8) := by
    rw [List.map_map, List.map_map]
    apply List.map_congr_left
    intro c hc
    exact (all_small ⟨c, hb c hc⟩).2.2
  rw [e4] at e3
  clear s1 s2 s3 m1 m2 m3 e4
  obtain ⟨b0, b1, b2, b3, b4, b5, b6, b7, rfl⟩ := eight l hl
  · clear hl hx
    have S := pop_sum _ _ _ _ _ _ _ _ (popN_le 8 b0) (popN_le 8 b1) (popN_le 8 b2) (popN_le 8 b3) (popN_le 8 b4) (popN_le 8 b5) (popN_le 8 b6) (popN_le 8 b7) _ e3
    have B1 := val_lt8 _ _ _ _ _ _ _ _ (hb1 (f8 b0) (by simp)) (hb1 (f8 b1) (by simp)) (hb1 (f8 b2) (by simp)) (hb1 (f8 b3) (by simp)) (hb1 (f8 b4) (by simp)) (hb1 (f8 b5) (by simp)) (hb1 (f8 b6) (by simp)) (hb1 (f8 b7) (by simp))
    have t (i : Nat) (b : Nat) (hi : [b0, b1, b2, b3, b4, b5, b6, b7][i]? = some b) : g8 (f8 b) < 256 ∧ g8 (f8 b) ≤ 68 := by
      have hm := List.mem_of_getElem? hi
      have := hb2 (g8 (f8 b)) (List.mem_map.2 ⟨_, List.mem_map.2 ⟨b, hm, rfl⟩, rfl⟩)
      omega
    have B2 := val_lt8 _ _ _ _ _ _ _ _ (t 0 b0 rfl).1 (t 1 b1 rfl).1 (t 2 b2 rfl).1 (t 3 b3 rfl).1 (t 4 b4 rfl).1 (t 5 b5 rfl).1 (t 6 b6 rfl).1 (t 7 b7 rfl).1
    have B3 := val_lt8' _ _ _ _ _ _ _ _ (t 0 b0 rfl).1 (t 1 b1 rfl).1 (t 2 b2 rfl).1 (t 3 b3 rfl).1 (t 4 b4 rfl).1 (t 5 b5 rfl).1 (t 6 b6 rfl).1 (t 7 b7 rfl).2
    refine ⟨by rw [e1]; exact B1, by rw [e2]; exact B2, by rw [e2]; exact B3, S.1, S.2.1, S.2.2.1, S.2.2.2.1, ?_⟩
    rw [S.2.2.2.2, hp]; simp only [List.map_cons, List.map_nil, List.sum_cons, List.sum_nil]
end Go.Proofs.YtgpmhnpacpgckaaDoor

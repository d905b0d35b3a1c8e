/- The ones of a number of 64 bits, as math/bits counts them. Sets of bytes as lists, as rows of bools, word by word; how they lie in memory; two of them compared. Walks of layer 6: Of. Walks of layer 6: the bytes that are as asked, rising; the bytes between two. Walks of layer 6: Empty. Walks of layer 6: Has. The document's own answer whether a byte is in a set, bit by bit. The document's own set of a row of bools, bit by bit. -/
import Derived.Test.YtdganemgldocoaaGreatDoorClsBase
import Derived.Laws.Rows
import Derived.Laws.StructEq
import Derived.OneCell
import Derived.Deep.AppendLies
import Derived.Deep.WholeRow
namespace Go.Proofs.YtdganemgldocoaaGreatDoor

/-- a number out of its bytes, the lowest first -/
def val : List Nat → Nat
  | [] => 0
  | b :: l => b + 256 * val l
def mask (m : Nat) : Nat → Nat
  | 0 => 0
  | n + 1 => m + 256 * mask m n

theorem and_cons (b m x y : Nat) (hb : b < 256) (hm : m < 256) : (b + 256 * x) &&& (m + 256 * y) = (b &&& m) + 256 * (x &&& y) := by
  have h1 : ((b + 256 * x) &&& (m + 256 * y)) % 2 ^ 8 = (b &&& m) := by
    rw [Nat.and_mod_two_pow]
    congr 1 <;> omega
  have h2 : ((b + 256 * x) &&& (m + 256 * y)) / 2 ^ 8 = (x &&& y) := by
    rw [Nat.and_div_two_pow]
    congr 1 <;> omega
  have := Nat.div_add_mod ((b + 256 * x) &&& (m + 256 * y)) (2 ^ 8)
  rw [h1, h2] at this
  omega

def f8 (b : Nat) : Nat := (b / 2 &&& 85) + (b &&& 85)
def g8 (b : Nat) : Nat := (b / 4 &&& 51) + (b &&& 51)
def h8 (b : Nat) : Nat := (b / 16 + b) &&& 15

theorem f_low : ∀ (c : Fin 2) (b : Fin 256), (128 * c.val + b.val / 2) &&& 85 = b.val / 2 &&& 85 := by decide +kernel
theorem g_low : ∀ (c : Fin 4) (b : Fin 256), (64 * c.val + b.val / 4) &&& 51 = b.val / 4 &&& 51 := by decide +kernel
theorem h_low : ∀ (c : Fin 5) (b : Fin 256), b.val % 16 ≤ 4 → b.val / 16 ≤ 4 → (16 * c.val + b.val / 16 + b.val) &&& 15 = h8 b.val ∧ (16 * c.val + b.val / 16 + b.val) < 256 := by decide +kernel
theorem fg_small : ∀ b : Fin 256, f8 b.val < 256 ∧ g8 b.val < 256 := by decide +kernel
theorem all_small : ∀ b : Fin 256, g8 (f8 b.val) % 16 ≤ 4 ∧ g8 (f8 b.val) / 16 ≤ 4 ∧ h8 (g8 (f8 b.val)) = popN 8 b.val := by decide +kernel

theorem step_f : ∀ l : List Nat, (∀ b ∈ l, b < 256) → (val l / 2 &&& mask 85 l.length) + (val l &&& mask 85 l.length) = val (l.map f8)
  | [], _ => rfl
  | b :: l, h => by
    have hb := h b (by simp)
    have ih := step_f l (fun x hx => h x (by simp [hx]))
    have e : (b + 256 * val l) / 2 = (128 * (val l % 2) + b / 2) + 256 * (val l / 2) := by omega
    have e2 := f_low ⟨val l % 2, by omega⟩ ⟨b, hb⟩
    simp only at e2
    show ((b + 256 * val l) / 2 &&& (85 + 256 * mask 85 l.length)) + ((b + 256 * val l) &&& (85 + 256 * mask 85 l.length)) = f8 b + 256 * val (l.map f8)
    rw [e, and_cons _ _ _ _ (by omega) (by omega), and_cons _ _ _ _ hb (by omega), e2, ← ih]
    unfold f8; omega
theorem step_g : ∀ l : List Nat, (∀ b ∈ l, b < 256) → (val l / 4 &&& mask 51 l.length) + (val l &&& mask 51 l.length) = val (l.map g8)
  | [], _ => rfl
  | b :: l, h => by
    have hb := h b (by simp)
    have ih := step_g l (fun x hx => h x (by simp [hx]))
    have e : (b + 256 * val l) / 4 = (64 * (val l % 4) + b / 4) + 256 * (val l / 4) := by omega
    have e2 := g_low ⟨val l % 4, by omega⟩ ⟨b, hb⟩
    simp only at e2
    show ((b + 256 * val l) / 4 &&& (51 + 256 * mask 51 l.length)) + ((b + 256 * val l) &&& (51 + 256 * mask 51 l.length)) = g8 b + 256 * val (l.map g8)
    rw [e, and_cons _ _ _ _ (by omega) (by omega), and_cons _ _ _ _ hb (by omega), e2, ← ih]
    unfold g8; omega
theorem val_low (l : List Nat) (h : ∀ b ∈ l, b % 16 ≤ 4) : val l % 16 ≤ 4 := by
  cases l with
  | nil => simp [val]
  | cons b l => have := h b (by simp); show (b + 256 * val l) % 16 ≤ 4; omega
theorem step_h : ∀ l : List Nat, (∀ b ∈ l, b < 256 ∧ b % 16 ≤ 4 ∧ b / 16 ≤ 4) → ((val l / 16 + val l) &&& mask 15 l.length) = val (l.map h8)
  | [], _ => rfl
  | b :: l, h => by
    obtain ⟨hb, h1, h2⟩ := h b (by simp)
    have ih := step_h l (fun x hx => h x (by simp [hx]))
    have hl := val_low l (fun x hx => (h x (by simp [hx])).2.1)
    have e2 := h_low ⟨val l % 16, by omega⟩ ⟨b, hb⟩ h1 h2
    simp only at e2
    have e : (b + 256 * val l) / 16 + (b + 256 * val l) = (16 * (val l % 16) + b / 16 + b) + 256 * (val l / 16 + val l) := by omega
    show ((b + 256 * val l) / 16 + (b + 256 * val l) &&& (15 + 256 * mask 15 l.length)) = h8 b + 256 * val (l.map h8)
    rw [e, and_cons _ _ _ _ e2.2 (by omega), e2.1, ih]

theorem popN_add (m n x : Nat) : popN (m + n) x = popN m x + popN n (x / 2 ^ m) := by
  induction m generalizing x with
  | zero => simp [popN]
  | succ m ih =>
    rw [show m + 1 + n = (m + n) + 1 by omega]
    show x % 2 + popN (m + n) (x / 2) = x % 2 + popN m (x / 2) + popN n (x / 2 ^ (m + 1))
    rw [ih, Nat.div_div_eq_div_mul, Nat.pow_succ, Nat.mul_comm 2]
    omega
theorem popN_cut (m x : Nat) : popN m x = popN m (x % 2 ^ m) := by
  induction m generalizing x with
  | zero => rfl
  | succ m ih =>
    show x % 2 + popN m (x / 2) = x % 2 ^ (m + 1) % 2 + popN m (x % 2 ^ (m + 1) / 2)
    rw [ih (x / 2), ih (x % 2 ^ (m + 1) / 2)]
    have e1 : x % 2 ^ (m + 1) % 2 = x % 2 := by rw [Nat.mod_mod_of_dvd _ ⟨2 ^ m, by rw [Nat.pow_succ]; omega⟩]
    have e2 : x % 2 ^ (m + 1) / 2 = x / 2 % 2 ^ m := by
      rw [Nat.pow_succ, Nat.mul_comm, Nat.mod_mul_right_div_self]
    rw [e1, e2, Nat.mod_mod]

/-- what math/bits does, step by step -/
def p1 (x : Nat) : Nat := (x / 2 &&& 6148914691236517205) + (x &&& 6148914691236517205)
def p2 (x : Nat) : Nat := (x / 4 &&& 3689348814741910323) + (x &&& 3689348814741910323)
def p3 (x : Nat) : Nat := (x / 16 + x) &&& 1085102592571150095
def p4 (x : Nat) : Nat := x + x / 256
def p5 (x : Nat) : Nat := x + x / 65536
def p6 (x : Nat) : Nat := x + x / 4294967296
theorem bytes8 (x : Nat) (h : x < 18446744073709551616) : ∃ l : List Nat, l.length = 8 ∧ (∀ b ∈ l, b < 256) ∧ x = val l ∧ popN 64 x = (l.map (popN 8)).sum := by
  refine ⟨[x % 256, x / 256 % 256, x / 65536 % 256, x / 16777216 % 256, x / 4294967296 % 256, x / 1099511627776 % 256, x / 281474976710656 % 256, x / 72057594037927936 % 256], rfl, ?_, ?_, ?_⟩
  · intro b hb; simp at hb; omega
  · simp only [val]; omega
  · have e : ∀ y, popN 8 y = popN 8 (y % 256) := fun y => popN_cut 8 y
    have a1 := popN_add 8 56 x
    have a2 := popN_add 8 48 (x / 2 ^ 8)
    have a3 := popN_add 8 40 (x / 2 ^ 8 / 2 ^ 8)
    have a4 := popN_add 8 32 (x / 2 ^ 8 / 2 ^ 8 / 2 ^ 8)
    have a5 := popN_add 8 24 (x / 2 ^ 8 / 2 ^ 8 / 2 ^ 8 / 2 ^ 8)
    have a6 := popN_add 8 16 (x / 2 ^ 8 / 2 ^ 8 / 2 ^ 8 / 2 ^ 8 / 2 ^ 8)
    have a7 := popN_add 8 8 (x / 2 ^ 8 / 2 ^ 8 / 2 ^ 8 / 2 ^ 8 / 2 ^ 8 / 2 ^ 8)
    simp only [Nat.reduceAdd, Nat.div_div_eq_div_mul, Nat.reducePow, Nat.reduceMul] at a1 a2 a3 a4 a5 a6 a7
    rw [a1, a2, a3, a4, a5, a6, a7]
    rw [e x, e (x / 256), e (x / 65536), e (x / 16777216), e (x / 4294967296), e (x / 1099511627776), e (x / 281474976710656), e (x / 72057594037927936)]
    simp only [List.map_cons, List.map_nil, List.sum_cons, List.sum_nil]
    omega
theorem val_cons (b M : Nat) (l : List Nat) (hb : b < 256) (h : val l ≤ M) : val (b :: l) ≤ 255 + 256 * M := by
  show b + 256 * val l ≤ _; omega
theorem val_le8 (b0 b1 b2 b3 b4 b5 b6 b7 m : Nat) (h0 : b0 < 256) (h1 : b1 < 256) (h2 : b2 < 256) (h3 : b3 < 256) (h4 : b4 < 256) (h5 : b5 < 256) (h6 : b6 < 256) (h7 : b7 ≤ m) :
    val [b0, b1, b2, b3, b4, b5, b6, b7] ≤ 255 + 256 * (255 + 256 * (255 + 256 * (255 + 256 * (255 + 256 * (255 + 256 * (255 + 256 * m)))))) :=
  val_cons _ _ _ h0 (val_cons _ _ _ h1 (val_cons _ _ _ h2 (val_cons _ _ _ h3 (val_cons _ _ _ h4 (val_cons _ _ _ h5 (val_cons _ _ _ h6 (by show b7 + 256 * 0 ≤ m; omega)))))))
theorem val_lt8 (b0 b1 b2 b3 b4 b5 b6 b7 : Nat) (h0 : b0 < 256) (h1 : b1 < 256) (h2 : b2 < 256) (h3 : b3 < 256) (h4 : b4 < 256) (h5 : b5 < 256) (h6 : b6 < 256) (h7 : b7 < 256) :
    val [b0, b1, b2, b3, b4, b5, b6, b7] < 18446744073709551616 := by
  have := val_le8 b0 b1 b2 b3 b4 b5 b6 b7 255 h0 h1 h2 h3 h4 h5 h6 (by omega)
  omega
theorem val_lt8' (b0 b1 b2 b3 b4 b5 b6 b7 : Nat) (h0 : b0 < 256) (h1 : b1 < 256) (h2 : b2 < 256) (h3 : b3 < 256) (h4 : b4 < 256) (h5 : b5 < 256) (h6 : b6 < 256) (h7 : b7 ≤ 68) :
    val [b0, b1, b2, b3, b4, b5, b6, b7] / 16 + val [b0, b1, b2, b3, b4, b5, b6, b7] < 18446744073709551616 := by
  have := val_le8 b0 b1 b2 b3 b4 b5 b6 b7 68 h0 h1 h2 h3 h4 h5 h6 h7
  omega
theorem k4 (c0 c1 c2 c3 c4 c5 c6 c7 : Nat) (h0 : c0 ≤ 8) :
    p4 (val [c0, c1, c2, c3, c4, c5, c6, c7]) = val [c0 + c1, c1 + c2, c2 + c3, c3 + c4, c4 + c5, c5 + c6, c6 + c7, c7] := by
  unfold p4; simp only [val]; omega
theorem k5 (c0 c1 c2 c3 c4 c5 c6 c7 : Nat) (h0 : c0 ≤ 16) (h1 : c1 ≤ 16) :
    p5 (val [c0, c1, c2, c3, c4, c5, c6, c7]) = val [c0 + c2, c1 + c3, c2 + c4, c3 + c5, c4 + c6, c5 + c7, c6, c7] := by
  unfold p5; simp only [val]; omega
theorem k6 (c0 c1 c2 c3 c4 c5 c6 c7 : Nat) (h0 : c0 ≤ 32) (h1 : c1 ≤ 32) (h2 : c2 ≤ 32) (h3 : c3 ≤ 32) :
    p6 (val [c0, c1, c2, c3, c4, c5, c6, c7]) = val [c0 + c4, c1 + c5, c2 + c6, c3 + c7, c4, c5, c6, c7] := by
  unfold p6; simp only [val]; omega
theorem k7 (c0 c1 c2 c3 c4 c5 c6 c7 : Nat) (h0 : c0 ≤ 127) (h7 : c7 ≤ 32) (h1 : c1 ≤ 127) (h2 : c2 ≤ 127) (h3 : c3 ≤ 127) (h4 : c4 ≤ 127) (h5 : c5 ≤ 127) (h6 : c6 ≤ 127) :
    val [c0, c1, c2, c3, c4, c5, c6, c7] < 9223372036854775808 ∧ val [c0, c1, c2, c3, c4, c5, c6, c7] % 128 = c0 := by
  simp only [val]; omega
theorem pop_sum (c0 c1 c2 c3 c4 c5 c6 c7 : Nat) (h0 : c0 ≤ 8) (h1 : c1 ≤ 8) (h2 : c2 ≤ 8) (h3 : c3 ≤ 8) (h4 : c4 ≤ 8) (h5 : c5 ≤ 8) (h6 : c6 ≤ 8) (h7 : c7 ≤ 8) (v : Nat) (hv : v = val [c0, c1, c2, c3, c4, c5, c6, c7]) :
    v < 18446744073709551616 ∧ p4 v < 18446744073709551616 ∧ p5 (p4 v) < 18446744073709551616 ∧ p6 (p5 (p4 v)) < 9223372036854775808 ∧ p6 (p5 (p4 v)) % 128 = c0 + (c1 + (c2 + (c3 + (c4 + (c5 + (c6 + (c7 + 0))))))) := by
  subst hv
  have e4 := k4 c0 c1 c2 c3 c4 c5 c6 c7 h0
  have e5 := k5 (c0 + c1) (c1 + c2) (c2 + c3) (c3 + c4) (c4 + c5) (c5 + c6) (c6 + c7) c7 (by omega) (by omega)
  have e6 := k6 (c0 + c1 + (c2 + c3)) (c1 + c2 + (c3 + c4)) (c2 + c3 + (c4 + c5)) (c3 + c4 + (c5 + c6)) (c4 + c5 + (c6 + c7)) (c5 + c6 + c7) (c6 + c7) c7 (show c0 + c1 + (c2 + c3) ≤ 32 by omega) (show c1 + c2 + (c3 + c4) ≤ 32 by omega) (show c2 + c3 + (c4 + c5) ≤ 32 by omega) (show c3 + c4 + (c5 + c6) ≤ 32 by omega)
  rw [e4, e5, e6]
  have f7 := k7 _ _ _ _ _ _ _ _ (show c0 + c1 + (c2 + c3) + (c4 + c5 + (c6 + c7)) ≤ 127 by omega) (show c7 ≤ 32 by omega) (show c1 + c2 + (c3 + c4) + (c5 + c6 + c7) ≤ 127 by omega) (show c2 + c3 + (c4 + c5) + (c6 + c7) ≤ 127 by omega) (show c3 + c4 + (c5 + c6) + c7 ≤ 127 by omega) (show c4 + c5 + (c6 + c7) ≤ 127 by omega) (show c5 + c6 + c7 ≤ 127 by omega) (show c6 + c7 ≤ 127 by omega)
  exact ⟨val_lt8 _ _ _ _ _ _ _ _ (by omega) (by omega) (by omega) (by omega) (by omega) (by omega) (by omega) (by omega), val_lt8 _ _ _ _ _ _ _ _ (by omega) (by omega) (by omega) (by omega) (by omega) (by omega) (by omega) (by omega), val_lt8 _ _ _ _ _ _ _ _ (by omega) (by omega) (by omega) (by omega) (by omega) (by omega) (by omega) (by omega), f7.1, by rw [f7.2]; omega⟩
theorem eight (l : List Nat) (h : l.length = 8) : ∃ b0 b1 b2 b3 b4 b5 b6 b7, l = [b0, b1, b2, b3, b4, b5, b6, b7] := by
  rcases l with _ | ⟨b0, _ | ⟨b1, _ | ⟨b2, _ | ⟨b3, _ | ⟨b4, _ | ⟨b5, _ | ⟨b6, _ | ⟨b7, _ | ⟨b8, l⟩⟩⟩⟩⟩⟩⟩⟩⟩
  all_goals first | exact ⟨b0, b1, b2, b3, b4, b5, b6, b7, rfl⟩ | (simp at h)
theorem pop_all (x : Nat) (h : x < 18446744073709551616) :
    p1 x < 18446744073709551616 ∧ p2 (p1 x) < 18446744073709551616 ∧ p2 (p1 x) / 16 + p2 (p1 x) < 18446744073709551616 ∧ p3 (p2 (p1 x)) < 18446744073709551616 ∧ p4 (p3 (p2 (p1 x))) < 18446744073709551616 ∧ p5 (p4 (p3 (p2 (p1 x)))) < 18446744073709551616 ∧ p6 (p5 (p4 (p3 (p2 (p1 x))))) < 9223372036854775808 ∧ p6 (p5 (p4 (p3 (p2 (p1 x))))) % 128 = popN 64 x := by
  obtain ⟨l, hl, hb, hx, hp⟩ := bytes8 x h
  have m1 : mask 85 8 = 6148914691236517205 := by decide
  have m2 : mask 51 8 = 3689348814741910323 := by decide
  have m3 : mask 15 8 = 1085102592571150095 := by decide
  have s1 := step_f l hb
  have hb1 : ∀ b ∈ l.map f8, b < 256 := by
    intro b hb'; obtain ⟨c, hc, rfl⟩ := List.mem_map.1 hb'; exact (fg_small ⟨c, hb c hc⟩).1
  have s2 := step_g _ hb1
  have hb2 : ∀ b ∈ (l.map f8).map g8, b < 256 ∧ b % 16 ≤ 4 ∧ b / 16 ≤ 4 := by
    intro b hb'
    rw [List.map_map] at hb'
    obtain ⟨c, hc, rfl⟩ := List.mem_map.1 hb'
    have k1 := all_small ⟨c, hb c hc⟩
    have k2 := (fg_small ⟨f8 c, (fg_small ⟨c, hb c hc⟩).1⟩).2
    exact ⟨k2, k1.1, k1.2.1⟩
  have s3 := step_h _ hb2
  rw [List.length_map, List.length_map, hl, m3] at s3
  rw [List.length_map, hl, m2] at s2
  rw [hl, m1, ← hx] at s1
  have e1 : p1 x = val (l.map f8) := s1
  have e2 : p2 (p1 x) = val ((l.map f8).map g8) := by rw [e1]; exact s2
  have e3 : p3 (p2 (p1 x)) = val (((l.map f8).map g8).map h8) := by rw [e2]; exact s3
  have e4 : ((l.map f8).map g8).map h8 = l.map (popN 8) := by
    rw [List.map_map, List.map_map]
    apply List.map_congr_left
    intro c hc
    exact (all_small ⟨c, hb c hc⟩).2.2
  rw [e4] at e3
  clear s1 s2 s3 m1 m2 m3 e4
  obtain ⟨b0, b1, b2, b3, b4, b5, b6, b7, rfl⟩ := eight l hl
  · clear hl hx
    have S := pop_sum _ _ _ _ _ _ _ _ (popN_le 8 b0) (popN_le 8 b1) (popN_le 8 b2) (popN_le 8 b3) (popN_le 8 b4) (popN_le 8 b5) (popN_le 8 b6) (popN_le 8 b7) _ e3
    have B1 := val_lt8 _ _ _ _ _ _ _ _ (hb1 (f8 b0) (by simp)) (hb1 (f8 b1) (by simp)) (hb1 (f8 b2) (by simp)) (hb1 (f8 b3) (by simp)) (hb1 (f8 b4) (by simp)) (hb1 (f8 b5) (by simp)) (hb1 (f8 b6) (by simp)) (hb1 (f8 b7) (by simp))
    have t (i : Nat) (b : Nat) (hi : [b0, b1, b2, b3, b4, b5, b6, b7][i]? = some b) : g8 (f8 b) < 256 ∧ g8 (f8 b) ≤ 68 := by
      have hm := List.mem_of_getElem? hi
      have := hb2 (g8 (f8 b)) (List.mem_map.2 ⟨_, List.mem_map.2 ⟨b, hm, rfl⟩, rfl⟩)
      omega
    have B2 := val_lt8 _ _ _ _ _ _ _ _ (t 0 b0 rfl).1 (t 1 b1 rfl).1 (t 2 b2 rfl).1 (t 3 b3 rfl).1 (t 4 b4 rfl).1 (t 5 b5 rfl).1 (t 6 b6 rfl).1 (t 7 b7 rfl).1
    have B3 := val_lt8' _ _ _ _ _ _ _ _ (t 0 b0 rfl).1 (t 1 b1 rfl).1 (t 2 b2 rfl).1 (t 3 b3 rfl).1 (t 4 b4 rfl).1 (t 5 b5 rfl).1 (t 6 b6 rfl).1 (t 7 b7 rfl).2
    refine ⟨by rw [e1]; exact B1, by rw [e2]; exact B2, by rw [e2]; exact B3, S.1, S.2.1, S.2.2.1, S.2.2.2.1, ?_⟩
    rw [S.2.2.2.2, hp]; simp only [List.map_cons, List.map_nil, List.sum_cons, List.sum_nil]
end Go.Proofs.YtdganemgldocoaaGreatDoor

namespace Go.Proofs.YtdganemgldocoaaGreatDoor
open Go.RowKit


theorem i64_and127 (x : Int) (h0 : 0 ≤ x) (h1 : x < 9223372036854775808) : bits .and .i64 x 127 = x % 128 :=
  bits_mask .i64 63 (by decide) (fun n a b => by rw [IntKind.wrap_i64]; omega) 7 (by decide) x h0 h1

theorem u64_and_n (x : Nat) (m : Nat) (hx : x < 18446744073709551616) (hm : m < 18446744073709551616) : bits .and .u64 (x : Int) (m : Int) = ((x &&& m : Nat) : Int) := bits_and_u64_nat x m hx hm

theorem wrap_n (x : Nat) (hx : x < 18446744073709551616) : IntKind.u64.wrap (x : Int) = x := by rw [IntKind.wrap_u64]; omega

theorem has_and (s : BitVec 256) (b : Nat) : (bits .and .u64 (wd s (b / 64) / 2 ^ (b % 64)) 1 == (1 : Int)) = inn s b := by
  have hj : b % 64 < 64 := by omega
  have h := has_bit s (b / 64) (b % 64) hj
  rw [show 64 * (b / 64) + b % 64 = b by omega] at h
  have e : wd s (b / 64) / 2 ^ (b % 64) = ((wn s (b / 64) / 2 ^ (b % 64) : Nat) : Int) := by
    unfold wd; rw [Int.natCast_ediv, Int.natCast_pow]; rfl
  have hl : wn s (b / 64) / 2 ^ (b % 64) < 18446744073709551616 := Nat.lt_of_le_of_lt (Nat.div_le_self _ _) (wn_lt s _)
  have a := u64_and_n _ 1 hl (by omega)
  rw [e]
  rw [show ((1 : Nat) : Int) = 1 from rfl] at a
  rw [a, Nat.and_one_is_mod, h]
  cases inn s b <;> rfl


/-- the first k words of a set, the rest 0 -/
def outC (s : BitVec 256) (k : Nat) : Array Value :=
  #[.int .u64 (if 0 < k then wd s 0 else 0), .int .u64 (if 1 < k then wd s 1 else 0), .int .u64 (if 2 < k then wd s 2 else 0), .int .u64 (if 3 < k then wd s 3 else 0)]

theorem outC_set (s : BitVec 256) (k : Nat) (hk : k < 4) : (outC s k).setIfInBounds k (.int .u64 (wd s k)) = outC s (k + 1) := by
  obtain rfl | rfl | rfl | rfl : k = 0 ∨ k = 1 ∨ k = 2 ∨ k = 3 := by omega
  all_goals rfl

theorem outC_get (s : BitVec 256) (k : Nat) (hk : k < 4) : (outC s k)[k]? = some (.int .u64 0) := by
  obtain rfl | rfl | rfl | rfl : k = 0 ∨ k = 1 ∨ k = 2 ∨ k = 3 := by omega
  all_goals rfl

theorem setV_emp : setV emp = .agg #[.int .u64 0, .int .u64 0, .int .u64 0, .int .u64 0] := by
  unfold setV; rw [wd_emp, wd_emp, wd_emp, wd_emp]


theorem eq_one (d : Nat) (a b : Int) (w : World) : (Op.equalIn (d + 1) 164 (.int .u64 a) (.int .u64 b)).run Tryz.prog w = .ok (a == b) w := by
  simp only [Op.equalIn, Sem.run_bind, run_underlying Tryz.underlying164, Result.andThen_ok]
  simp

theorem part0 (v0 v1 v2 v3 : Value) (w : World) : (part 164 #[v0, v1, v2, v3] 0).run Tryz.prog w = .ok v0 w := by kernel_rfl

theorem part1 (v0 v1 v2 v3 : Value) (w : World) : (part 164 #[v0, v1, v2, v3] 1).run Tryz.prog w = .ok v1 w := by kernel_rfl

theorem part2 (v0 v1 v2 v3 : Value) (w : World) : (part 164 #[v0, v1, v2, v3] 2).run Tryz.prog w = .ok v2 w := by kernel_rfl

theorem part3 (v0 v1 v2 v3 : Value) (w : World) : (part 164 #[v0, v1, v2, v3] 3).run Tryz.prog w = .ok v3 w := by kernel_rfl

theorem eq_run (T : TypeId) (hT : Tryz.prog.underlying T = some (.array 4 164)) (s t : BitVec 256) (w : World) : (Op.equalIn 10000 T (setV s) (setV t)).run Tryz.prog w = .ok (s == t) w := by
  rw [show (10000 : Nat) = 9998 + 1 + 1 from rfl]
  unfold Op.equalIn
  simp only [Sem.run_bind, run_underlying hT, Result.andThen_ok]
  have e : ∀ a b w, (Op.equalIn 9999 164 (.int .u64 a) (.int .u64 b)).run Tryz.prog w = .ok (a == b) w := fun a b w => eq_one 9998 a b w
  simp [Sem.run_bind, List.range', e, part0, part1, part2, part3]
  by_cases h0 : wd s 0 = wd t 0
  · by_cases h1 : wd s 1 = wd t 1
    · by_cases h2 : wd s 2 = wd t 2
      · by_cases h3 : wd s 3 = wd t 3
        · have := wd_ext h0 h1 h2 h3
          simp [this]
        · have : s ≠ t := fun h => h3 (by rw [h])
          simp [h0, h1, h2, h3, this]
      · have : s ≠ t := fun h => h2 (by rw [h])
        simp [h0, h1, h2, this]
    · have : s ≠ t := fun h => h1 (by rw [h])
      simp [h0, h1, this]
  · have : s ≠ t := fun h => h0 (by rw [h])
    simp [h0, this]

theorem idx (s : BitVec 256) (k : Nat) (hk : k < 4) (w : World) : (Instr.index 166 (setV s) (.int .i64 k)).run Tryz.prog w = .ok (.int .u64 (wd s k)) w := by
  obtain rfl | rfl | rfl | rfl : k = 0 ∨ k = 1 ∨ k = 2 ∨ k = 3 := by omega
  all_goals kernel_rfl

def cntTo (s : BitVec 256) : Nat → Nat
  | 0 => 0
  | k + 1 => cntTo s k + popN 64 (wn s k)

theorem cntTo_le (s : BitVec 256) : ∀ k, cntTo s k ≤ 64 * k
  | 0 => Nat.le_refl _
  | k + 1 => by have := cntTo_le s k; have := popN_le 64 (wn s k); show cntTo s k + popN 64 (wn s k) ≤ _; omega

theorem cntTo_all (s : BitVec 256) : cntTo s 4 = cnt s := by
  rw [cnt_words]; simp only [cntTo, Nat.zero_add]


/-- the first n bytes that are as asked -/
def whr (f : Nat → Bool) (n : Nat) : List Nat := (List.range n).filter f

def byteV (b : Nat) : Value := .int .u8 b

theorem whr_yes {f : Nat → Bool} {n : Nat} (h : f n = true) : whr f (n + 1) = whr f n ++ [n] := by
  unfold whr; rw [List.range_succ, List.filter_append]; simp [h]

theorem whr_no {f : Nat → Bool} {n : Nat} (h : f n = false) : whr f (n + 1) = whr f n := by
  unfold whr; rw [List.range_succ, List.filter_append]; simp [h]

theorem whr_len (f : Nat → Bool) (n : Nat) : (whr f n).length ≤ n := by
  unfold whr; have := List.length_filter_le f (List.range n); simpa using this

theorem owns_kept {w w' : World} {base : Nat} {e : TypeId} {size n : Nat} {v : Value} {xs : List Value} (h : w.ownsRow base e size v n xs) (hg : w.grownBy w' none) : w'.ownsRow base e size v n xs :=
  h.kept hg (by cases hv : v.ownBlock <;> simp)

theorem infoByte : (Tryz.prog.info? 5).map (fun i => (i.zero, i.size, i.bytes)) = some (some (.int .u8 0), 1, 1) := by kernel_rfl

theorem new_byte (w : World) (s : Int) (t : TypeId) (n : Nat) (hn : n = w.heap.size) : ∀ j u, ([.int .u8 s] : List Value)[j]? = some u → (w.alloc (.cells #[.int .u8 s] t)).cell? ((⟨n, 0, none⟩ : Addr).add j) = some u := by
  subst hn
  exact World.news_of_block (cs := #[.int .u8 s]) (t := t) (fr := (0, 0)) (heap_alloc_new w _)

theorem one_byte (s : Int) : ∀ u ∈ ([.int .u8 s] : List Value), u.oneCell' = true := by intro u hu; simp at hu; subst hu; rfl

/-- a slice of bytes that lies in memory -/
def BRow (w : World) (v : Value) (l : List Nat) : Prop :=
  ∃ a c, v = .slice a l.length c ∧ (l.length ≤ 300 ∧ ∀ b ∈ l, b < 256) ∧ (l ≠ [] → ∃ b off, a = some ⟨b, off, none⟩ ∧ b < w.heap.size ∧ ∀ k x, l[k]? = some x → w.cell? ⟨b, off + k, none⟩ = some (byteV x))

theorem BRow.grown {w w' : World} {v : Value} {l : List Nat} (h : BRow w v l) (g : w.grownBy w' none) : BRow w' v l := by
  obtain ⟨a, c, hv, hl, hr⟩ := h
  refine ⟨a, c, hv, hl, fun hn => ?_⟩
  obtain ⟨b, off, ha, hb, hc⟩ := hr hn
  exact ⟨b, off, ha, Nat.lt_of_lt_of_le hb g.size, fun k x hx => g.cell (hc k x hx) (by simp)⟩

theorem brow_of_owns {w : World} {base : Nat} {v : Value} {l : List Nat} (h : w.ownsRow base 5 1 v l.length (l.map byteV)) (hn : l.length ≤ 300) (hb : ∀ b ∈ l, b < 256) : BRow w v l := by
  rcases h.2 with ⟨rfl, h0⟩ | ⟨g, cap, cur, rfl, hb', hg, h1, h2, h3, h4⟩
  · exact ⟨none, 0, by rw [h0], ⟨hn, hb⟩, fun hne => absurd (List.eq_nil_of_length_eq_zero h0) hne⟩
  · refine ⟨_, cap, rfl, ⟨hn, hb⟩, fun _ => ⟨g, 0, rfl, (Array.getElem?_eq_some_iff.1 hg).1, fun j x hx => ?_⟩⟩
    have := h.cells (g := g) rfl j (byteV x) (by rw [List.getElem?_map, hx]; rfl)
    rwa [Addr.add_lit] at this

theorem whr_lt (f : Nat → Bool) : ∀ b ∈ whr f 256, b < 256 := by
  intro b hb; unfold whr at hb; have := (List.mem_filter.1 hb).1; simpa using this

def btw (lo hi : Nat) (b : Nat) : Bool := decide (lo ≤ b ∧ b ≤ hi)

/-- a byte alone; a set with one byte more; the set of a list -/
def one (b : Nat) : BitVec 256 := BitVec.ofNat 256 (2 ^ b)

def ins (s : BitVec 256) (b : Nat) : BitVec 256 := un s (one b)

def ofL (l : List Nat) : BitVec 256 := l.foldl ins emp

theorem inn_one (b j : Nat) (hj : j < 256) : inn (one b) j = decide (j = b) := by
  unfold inn one
  rw [BitVec.getLsbD_ofNat, Nat.testBit_two_pow]
  simp only [hj, decide_true, Bool.true_and]
  by_cases h : b = j
  · simp [h]
  · have h' : j ≠ b := fun e => h e.symm
    simp [h, h']

theorem wn_one (b i : Nat) (hi : i < 4) : wn (one b) i = if i = b / 64 then 2 ^ (b % 64) else 0 := by
  apply Nat.eq_of_testBit_eq; intro j
  rw [wn_bit]
  by_cases hj : j < 64
  · rw [inn_one b _ (by omega)]
    by_cases h : i = b / 64
    · rw [if_pos h, Nat.testBit_two_pow]
      by_cases h2 : b % 64 = j
      · have : 64 * i + j = b := by omega
        simp [hj, h2, this]
      · have : ¬ 64 * i + j = b := by omega
        simp [h2, this]
    · have : ¬ 64 * i + j = b := by omega
      simp [h, this]
  · by_cases h : i = b / 64
    · have h2 : ¬ b % 64 = j := by omega
      rw [if_pos h, Nat.testBit_two_pow]; simp [hj, h2]
    · simp [hj, h]

theorem ins_same (s : BitVec 256) (b : Nat) (hb : b < 256) : bits .or .u64 (wd s (b / 64)) (IntKind.u64.wrap ((2 : Int) ^ (b % 64))) = wd (ins s b) (b / 64) := by
  have h := wd_or s (one b) (b / 64)
  have e : wd (one b) (b / 64) = (2 : Int) ^ (b % 64) := by
    unfold wd; rw [wn_one b _ (by omega), if_pos rfl, Int.natCast_pow]; rfl
  have hw : IntKind.u64.wrap (wd (one b) (b / 64)) = wd (one b) (b / 64) := by
    have h0 := wd_ge (one b) (b / 64); have h1 := wd_lt (one b) (b / 64)
    rw [IntKind.wrap_u64]; omega
  rw [← e, hw]; exact h

theorem ins_other (s : BitVec 256) (b i : Nat) (hi : i < 4) (h : i ≠ b / 64) : wd (ins s b) i = wd s i := by
  unfold ins wd; rw [wn_or, wn_one b i hi, if_neg h, Nat.or_zero]

/-- the four words, as they lie -/
def setC (s : BitVec 256) : Array Value := #[.int .u64 (wd s 0), .int .u64 (wd s 1), .int .u64 (wd s 2), .int .u64 (wd s 3)]

theorem setC_ins (s : BitVec 256) (b : Nat) (hb : b < 256) : (setC s).setIfInBounds (b / 64) (.int .u64 (wd (ins s b) (b / 64))) = setC (ins s b) := by
  have h0 := ins_other s b 0 (by omega); have h1 := ins_other s b 1 (by omega); have h2 := ins_other s b 2 (by omega); have h3 := ins_other s b 3 (by omega)
  obtain e | e | e | e : b / 64 = 0 ∨ b / 64 = 1 ∨ b / 64 = 2 ∨ b / 64 = 3 := by omega
  · rw [e]; unfold setC; rw [h1 (by omega), h2 (by omega), h3 (by omega)]; rfl
  · rw [e]; unfold setC; rw [h0 (by omega), h2 (by omega), h3 (by omega)]; rfl
  · rw [e]; unfold setC; rw [h0 (by omega), h1 (by omega), h3 (by omega)]; rfl
  · rw [e]; unfold setC; rw [h0 (by omega), h1 (by omega), h2 (by omega)]; rfl

theorem setC_get (s : BitVec 256) (i : Nat) (hi : i < 4) : (setC s)[i]? = some (.int .u64 (wd s i)) := by
  obtain rfl | rfl | rfl | rfl : i = 0 ∨ i = 1 ∨ i = 2 ∨ i = 3 := by omega
  all_goals rfl

theorem ofL_take {l : List Nat} {k x : Nat} (h : l[k]? = some x) : ofL (l.take (k + 1)) = ins (ofL (l.take k)) x := by
  have : l.take (k + 1) = l.take k ++ [x] := by
    obtain ⟨hk, e⟩ := List.getElem?_eq_some_iff.1 h
    rw [List.take_succ_eq_append_getElem hk, e]
  unfold ofL; rw [this, List.foldl_append]; rfl

def spn (lo hi : Nat) : BitVec 256 := ofL (whr (btw lo hi) 256)

/-! what is in these sets -/
theorem inn_un (s t : BitVec 256) (b : Nat) : inn (un s t) b = (inn s b || inn t b) := by unfold inn un; exact BitVec.getLsbD_or

theorem inn_me (s t : BitVec 256) (b : Nat) : inn (me s t) b = (inn s b && inn t b) := by unfold inn me; exact BitVec.getLsbD_and

theorem inn_no (s : BitVec 256) (b : Nat) (hb : b < 256) : inn (no s) b = !inn s b := by unfold inn no; simp [hb]

theorem inn_emp (b : Nat) : inn emp b = false := by unfold inn emp; simp

theorem inn_foldl (b : Nat) (hb : b < 256) : ∀ (l : List Nat) (s : BitVec 256), inn (l.foldl ins s) b = (inn s b || l.contains b)
  | [], s => by simp
  | x :: l, s => by
    show inn (l.foldl ins (ins s x)) b = _
    rw [inn_foldl b hb l]
    unfold ins
    rw [inn_un, inn_one x b hb, List.contains_cons, Bool.or_assoc]
    congr 1

theorem inn_ofL (l : List Nat) (b : Nat) (hb : b < 256) : inn (ofL l) b = l.contains b := by
  unfold ofL; rw [inn_foldl b hb, inn_emp, Bool.false_or]

theorem inn_spn (lo hi b : Nat) (hb : b < 256) : inn (spn lo hi) b = btw lo hi b := by
  unfold spn; rw [inn_ofL _ _ hb]
  unfold whr
  rw [Bool.eq_iff_iff]
  simp [hb]

theorem inn_ext {s t : BitVec 256} (h : ∀ b, b < 256 → inn s b = inn t b) : s = t := BitVec.eq_of_getLsbD_eq h


theorem half (x k : Nat) : x / 2 ^ k / 2 = x / 2 ^ (k + 1) := by rw [Nat.div_div_eq_div_mul, Nat.pow_succ]

/-- 256 bools -/
def arrV (f : Nat → Bool) : Array Value := ((List.range 256).map fun b => Value.bool (f b)).toArray

theorem arr_get (f : Nat → Bool) (b : Nat) (hb : b < 256) : (arrV f)[b]? = some (.bool (f b)) := by
  unfold arrV; simp [hb]

theorem arr_size (f : Nat → Bool) : (arrV f).size = 256 := by unfold arrV; simp

/-- the set of a row of bools; what the document has of its words when the bytes from n on are done -/
def mkS (f : Nat → Bool) : BitVec 256 := ofL (whr f 256)

theorem inn_mkS (f : Nat → Bool) (b : Nat) (hb : b < 256) : inn (mkS f) b = f b := by
  unfold mkS; rw [inn_ofL _ _ hb]; unfold whr
  rw [Bool.eq_iff_iff]; simp [hb]

def rwd (s : BitVec 256) (n i : Nat) : Nat := wn s i / 2 ^ (n - 64 * i)

theorem rwd_lt (s : BitVec 256) (n i : Nat) : rwd s n i < 18446744073709551616 := Nat.lt_of_le_of_lt (Nat.div_le_self _ _) (wn_lt s i)

theorem big_pow (x e : Nat) (hx : x < 18446744073709551616) (he : 64 ≤ e) : x / 2 ^ e = 0 := by
  apply Nat.div_eq_of_lt
  exact Nat.lt_of_lt_of_le hx (show 2 ^ 64 ≤ 2 ^ e from Nat.pow_le_pow_right (by decide) he)

theorem rwd_start (s : BitVec 256) (i : Nat) (hi : i < 4) : rwd s 256 i = 0 := big_pow _ _ (wn_lt s i) (by omega)

theorem rwd_end (s : BitVec 256) (i : Nat) : rwd s 0 i = wn s i := by unfold rwd; simp

theorem rwd_other (s : BitVec 256) (m i : Nat) (h : i ≠ m / 64) : rwd s (m + 1) i = rwd s m i := by
  unfold rwd
  by_cases hl : i < m / 64
  · rw [big_pow _ _ (wn_lt s i) (by omega), big_pow _ _ (wn_lt s i) (by omega)]
  · have e1 : m + 1 - 64 * i = 0 := by omega
    have e2 : m - 64 * i = 0 := by omega
    rw [e1, e2]

theorem rwd_same (s : BitVec 256) (m : Nat) : rwd s m (m / 64) = rwd s (m + 1) (m / 64) * 2 + (if inn s m then 1 else 0) := by
  have h := has_bit s (m / 64) (m % 64) (by omega)
  rw [show 64 * (m / 64) + m % 64 = m by omega] at h
  unfold rwd
  rw [show m + 1 - 64 * (m / 64) = m % 64 + 1 by omega, show m - 64 * (m / 64) = m % 64 by omega, ← half, ← h]
  omega

def rC (s : BitVec 256) (n : Nat) : Array Value := #[.int .u64 (rwd s n 0), .int .u64 (rwd s n 1), .int .u64 (rwd s n 2), .int .u64 (rwd s n 3)]

theorem rC_get (s : BitVec 256) (n i : Nat) (hi : i < 4) : (rC s n)[i]? = some (.int .u64 (rwd s n i)) := by
  obtain rfl | rfl | rfl | rfl : i = 0 ∨ i = 1 ∨ i = 2 ∨ i = 3 := by omega
  all_goals rfl

theorem rC_set (s : BitVec 256) (m : Nat) (hm : m < 256) : (rC s (m + 1)).setIfInBounds (m / 64) (.int .u64 (rwd s m (m / 64))) = rC s m := by
  have h0 := rwd_other s m 0; have h1 := rwd_other s m 1; have h2 := rwd_other s m 2; have h3 := rwd_other s m 3
  obtain e | e | e | e : m / 64 = 0 ∨ m / 64 = 1 ∨ m / 64 = 2 ∨ m / 64 = 3 := by omega
  · rw [e]; unfold rC; rw [h1 (by omega), h2 (by omega), h3 (by omega)]; rfl
  · rw [e]; unfold rC; rw [h0 (by omega), h2 (by omega), h3 (by omega)]; rfl
  · rw [e]; unfold rC; rw [h0 (by omega), h1 (by omega), h3 (by omega)]; rfl
  · rw [e]; unfold rC; rw [h0 (by omega), h1 (by omega), h2 (by omega)]; rfl

theorem rC_end (s : BitVec 256) : rC s 0 = setC s := by unfold rC setC wd; rw [rwd_end, rwd_end, rwd_end, rwd_end]

theorem rC_start (s : BitVec 256) : rC s 256 = #[.int .u64 0, .int .u64 0, .int .u64 0, .int .u64 0] := by
  unfold rC; rw [rwd_start s 0 (by omega), rwd_start s 1 (by omega), rwd_start s 2 (by omega), rwd_start s 3 (by omega)]; rfl
theorem row_same {w : World} {g : Nat} {cs : Array Value} {t : TypeId} (hg : w.heap[g]? = some (.cells cs t (0, 0))) : w.setRow g cs = w := by
  obtain ⟨heap, tape, drawn, os, output⟩ := w
  simp only [World.setRow]
  congr 1
  apply Array.ext_getElem?
  intro i
  rw [Array.getElem?_modify]
  by_cases h : g = i
  · subst h
    simp only at hg
    simp [hg]
  · simp [h]
theorem arr_one (f : Nat → Bool) : (arrV f).all (·.oneCell') = true := by
  unfold arrV; rw [Array.all_eq_true']; intro x hx; simp at hx; obtain ⟨b, -, rfl⟩ := hx; rfl
/-- an array laid onto itself -/
theorem store_same {P : Program} {w : World} {g : Nat} {t : TypeId} {cs : Array Value} (hg : w.heap[g]? = some (.cells cs t (0, 0))) (hi : (P.info? t).map (·.size) = some cs.size) (h1 : cs.all (·.oneCell') = true) :
    (storeCells ⟨g, 0, none⟩ cs.toList 0).run P w = .ok () w := by
  have := run_storeVar_row (P := P) w g t t cs cs hg hi rfl h1
  rw [row_same hg] at this
  cases hq : P.info? t with
  | none => simp [hq] at hi
  | some i =>
    have hs : cs.size = i.size := by simp [hq] at hi; omega
    simpa [storeVar, sizeOf, typeInfo, hq, Value.cells, hs] using this

theorem arr_set (f g : Nat → Bool) (x : Nat) (hg : ∀ b, b < 256 → g b = (f b || b == x)) : (arrV f).setIfInBounds x (.bool true) = arrV g := by
  apply Array.ext_getElem?; intro i
  by_cases hi : i < 256
  · rw [arr_get g i hi, hg i hi, Array.getElem?_setIfInBounds]
    by_cases h : x = i
    · subst h; simp [arr_size, hi]
    · have h' : ¬ i = x := fun e => h e.symm
      simp [h, arr_get f i hi, h']
  · rw [Array.getElem?_eq_none (by simp [arr_size]; omega), Array.getElem?_eq_none (by simp [arr_size]; omega)]
theorem arr_ext {f g : Nat → Bool} (h : ∀ b, b < 256 → f b = g b) : arrV f = arrV g := by
  apply Array.ext_getElem?; intro i
  by_cases hi : i < 256
  · rw [arr_get f i hi, arr_get g i hi, h i hi]
  · rw [Array.getElem?_eq_none (by simp [arr_size]; omega), Array.getElem?_eq_none (by simp [arr_size]; omega)]
theorem load_row {P : Program} {w : World} {g n : Nat} {t : TypeId} {cs : Array Value} (hg : w.heap[g]? = some (.cells cs t (0, 0))) (hn : cs.size = n) :
    (loadCellsFrom ⟨g, 0, none⟩ 0 n #[]).run P w = .ok cs w := by
  subst hn
  have := run_loadCells_list (P := P) w ⟨g, 0, none⟩ cs.toList (fun j v hv => by
    have hadd : (⟨g, 0, none⟩ : Addr).add j = ⟨g, j, none⟩ := by unfold Addr.add; split <;> simp_all
    rw [hadd, cell_of_row _ _ j cs t (0, 0) hg]
    simpa using hv)
  simpa [loadCells] using this
/-- a whole array read in a region that draws -/
theorem wpQuiet_load_row {P : Program} {ops : Array Oper} {C : World → Prop} {Q : Act → Prop} {o : Oper} {rest : List Oper} {a : Act} (T : TypeId) (x : Operand) (ho : o.op = .load T x)
    (hw : Region.wanted o (yielded ops a.tmps) = true) (g : Nat) (hx : a.eval x = .pointer (some ⟨g, 0, none⟩)) (cs : Array Value) (n : Nat) (e : TypeId) (hu : P.underlying T = some (.array n e)) (hi : (P.info? T).map (·.size) = some cs.size)
    (hg : ∀ w, C w → w.heap[g]? = some (.cells cs T (0, 0))) (h : wpQuiet P ops C Q rest (a.put o.dst (.agg cs))) : wpQuiet P ops C Q (o :: rest) a := by
  unfold wpQuiet
  rw [if_pos hw]
  refine ⟨.agg cs, fun w hC => ?_, h⟩
  unfold Oper.quietAt execOp
  simp only [ho, hx, Instr.loadAt, Instr.sureAddr, Sem.run_bind, Sem.run_pure, Result.andThen_ok, run_loadVar_row w g T T cs (0, 0) _ (hg w hC) hu rfl hi]
  exact ⟨rfl, rfl⟩
end Go.Proofs.YtdganemgldocoaaGreatDoor

namespace Go.Proofs.YtdganemgldocoaaGreatDoor
open Go.RowKit

set_option maxHeartbeats 1000000 in
theorem cOf (v : Value) (l : List Nat) (w : World) (h : BRow w v l) :
    Calls Tryz.prog 89 #[v] w fun e w' => e = .returned (setV (ofL l)) ∧ w.grownBy w' none := by
  have H := Lib.hid h
  obtain ⟨a, c, rfl, ⟨hn, hlt⟩, -⟩ := h
  have HL := Lib.hid hlt
  clear hlt
  go_enter Tryz.func89, Tryz.ntmps89
  go_wp2
  obtain ⟨b1, b2, g⟩ := heap2 w (.cells #[.int .u64 0, .int .u64 0, .int .u64 0, .int .u64 0] 166) (.cells #[.int .u64 0, .int .u64 0, .int .u64 0, .int .u64 0] 166)
  generalize ((w.alloc _).alloc _) = w1 at b1 b2 g ⊢
  have hne : w.heap.size ≠ w.heap.size + 1 := by omega
  obtain ⟨r, er⟩ : ∃ r, r = w.heap.size := ⟨_, rfl⟩
  obtain ⟨p, ep⟩ : ∃ p, p = w.heap.size + 1 := ⟨_, rfl⟩
  have HP := Lib.hid (show w.heap.size ≤ p by omega)
  have HR := Lib.hid (show w.heap.size ≤ r by omega)
  rw [← ep] at b2 hne ⊢
  rw [← er] at b1 hne ⊢
  have B1 := Lib.hid b1
  have B2 := Lib.hid (show w1.heap[p]? = some (.cells (setC (ofL [])) 166 (0, 0)) by rw [b2]; unfold setC ofL; simp [wd_emp])
  have G := Lib.hid g
  clear er ep b1 b2 g
  go_loopw [5, 8] (fun _ i wr => ∃ k : Nat, k ≤ l.length ∧ i = .int .i64 k ∧ Hid (w.grownBy wr none) ∧ Hid (wr.heap[r]? = some (.cells #[.int .u64 0, .int .u64 0, .int .u64 0, .int .u64 0] 166 (0, 0))) ∧ Hid (wr.heap[p]? = some (.cells (setC (ofL (l.take k))) 166 (0, 0)))) (fun _ i _ => l.length - (intOf i).toNat)
  case atStart => exact ⟨0, Nat.zero_le _, rfl, G, B1, B2⟩
  case round =>
    obtain ⟨k, hk, rfl, hG, hB1, hB2⟩ := hrel
    by_cases hlt : k < l.length
    · obtain ⟨x, hx⟩ : ∃ x, l[k]? = some x := ⟨_, List.getElem?_eq_getElem hlt⟩
      have hx256 := HL.out x (List.mem_of_getElem? hx)
      obtain ⟨a', c', e, -, hr⟩ := H.out.grown hG.out
      cases e
      obtain ⟨b, off, rfl, -, hc⟩ := hr (by intro e; rw [e] at hlt; simp at hlt)
      have hcell : wr.cell? ⟨b, off + k, none⟩ = some (.int .u8 x) := hc k x hx
      have HX := Lib.hid (ofL_take hx)
      clear hc hx hr
      generalize ofL (l.take k) = s at hB2 HX
      have c0 := (cell_of_row wr p (x / 64) _ _ _ hB2.out).trans (setC_get s (x / 64) (by omega))
      have f0 := four_free hB2.out (x / 64)
      have v0 := wd_ge s (x / 64); have v1 := wd_le s (x / 64)
      have HI := Lib.hid (ins_same s x hx256)
      have HC := Lib.hid (setC_ins s x hx256)
      go_wp2
      go_roundw
      case rel =>
        rw [HI.out]
        exact ⟨k + 1, by omega, by go_num, Lib.hid (grown_set hG.out _ _ HP.out), Lib.hid ((heap_setCell_other wr _ r _ hne).trans hB1.out), Lib.hid (by rw [HX.out, ← HC.out]; exact heap_setCell_same wr p (x / 64) _ _ _ hB2.out)⟩
      case measure => simp [intOf]; omega
    · obtain rfl : k = l.length := by omega
      have hB2' := hB2.out
      rw [List.take_length] at hB2'
      have hB := Lib.hid hB2'
      clear hB2 hB2'
      obtain ⟨p0, p1, p2, p3⟩ := four_cells hB.out
      obtain ⟨r0, r1, r2, r3⟩ := four_cells hB1.out
      have fr := four_free hB1.out
      go_wp2
      refine bodyPost_ret (v := setV (ofL l)) (back_set Tryz.results89 rfl (set_four hB1.out _ _ _ _)) rfl ⟨rfl, ?_⟩
      exact grown_set (grown_set (grown_set (grown_set hG.out _ _ HR.out) _ _ HR.out) _ _ HR.out) _ _ HR.out
end Go.Proofs.YtdganemgldocoaaGreatDoor

namespace Go.Proofs.YtdganemgldocoaaGreatDoor
open Go.RowKit

end Go.Proofs.YtdganemgldocoaaGreatDoor

namespace Go.Proofs.YtdganemgldocoaaGreatDoor
open Go.RowKit

end Go.Proofs.YtdganemgldocoaaGreatDoor

namespace Go.Proofs.YtdganemgldocoaaGreatDoor
open Go.RowKit

theorem cHas (s : BitVec 256) (b : Nat) (w : World) (hb : b < 256) :
    Calls Tryz.prog 93 #[setV s, .int .u8 b] w fun e w' => e = .returned (.bool (inn s b)) ∧ w.grownBy w' none := by
  go_enter Tryz.func93, Tryz.ntmps93
  go_upto_region 1 with fail
  have G := Lib.hid (World.grownBy_alloc w (.cells #[.int .u64 (wd s 0), .int .u64 (wd s 1), .int .u64 (wd s 2), .int .u64 (wd s 3)] 166) none)
  have S := set_new w s 166
  have h1 := S.at (b / 64) (by omega)
  clear S
  generalize w.heap.size = p at h1 ⊢
  generalize w.alloc (.cells #[.int .u64 (wd s 0), .int .u64 (wd s 1), .int .u64 (wd s 2), .int .u64 (wd s 3)] 166) = w1 at G h1 ⊢
  have v0 := wd_ge s (b / 64); have v1 := wd_le s (b / 64)
  have H := Lib.hid (has_and s b)
  go_wp2
  go_ret
  exact ⟨ret_bool H.out, G.out⟩
end Go.Proofs.YtdganemgldocoaaGreatDoor

namespace Go.Proofs.YtdganemgldocoaaGreatDoor
open Go.RowKit

end Go.Proofs.YtdganemgldocoaaGreatDoor

namespace Go.Proofs.YtdganemgldocoaaGreatDoor
open Go.RowKit

end Go.Proofs.YtdganemgldocoaaGreatDoor

/- Same: nodes compared. The document's Same; a law's Of and sums. Literal. A text with backslashes is parsed as its bytes (plain); what a law on expressions asks first. -/
import Derived.Test.YtlkjejmmoalliaaGreatDoorRexV
import Derived.Laws.MakeOwn
namespace Go.Proofs.YtlkjejmmoalliaaGreatDoor
open Go.RowKit

theorem bool_int (a b : Nat) : ((a : Int) == (b : Int)) = (a == b) := by rw [Bool.eq_iff_iff]; simp only [beq_iff_eq]; omega
theorem len_le_cnt : ∀ l : List Nd, l.length ≤ cntL (fun _ => true) l
  | [] => by simp
  | n :: l => by have := len_le_cnt l; rw [cntL, cntN_eq]; simp; omega

end Go.Proofs.YtlkjejmmoalliaaGreatDoor

namespace Go.Proofs.YtlkjejmmoalliaaGreatDoor
open Go.RowKit

theorem bool_ne (a b : Nat) : ((a : Int) != (b : Int)) = !(a == b) := by unfold bne; rw [bool_int]
end Go.Proofs.YtlkjejmmoalliaaGreatDoor

namespace Go.Proofs.YtlkjejmmoalliaaGreatDoor
open Go.RowKit

/-- the bytes' nodes -/
def onesOf (s : ByteArray) (k : Nat) : List Nd := (s.data.toList.take k).map fun b => .mk 1 0 (one b.toNat) []
def litN (s : ByteArray) : Nd := oneN 2 (onesOf s s.size)
theorem ones_next (s : ByteArray) {k : Nat} (h : k < s.size) : onesOf s (k + 1) = onesOf s k ++ [.mk 1 0 (one s[k].toNat) []] := by
  unfold onesOf
  rw [List.take_succ_eq_append_getElem (by simpa using h), List.map_append]; rfl
theorem ones_len (s : ByteArray) {k : Nat} (h : k ≤ s.size) : (onesOf s k).length = k := by
  unfold onesOf; rw [List.length_map, List.length_take]
  have : s.data.toList.length = s.size := rfl
  omega

end Go.Proofs.YtlkjejmmoalliaaGreatDoor

namespace Go.Proofs.YtlkjejmmoalliaaGreatDoor
open Go.RowKit

/-- the first k bytes of a text with a backslash each -/
def EscT (s : ByteArray) (k : Nat) (t : ByteArray) : Prop := t.data.toList = (s.data.toList.take k).flatMap fun b => [92, b]
theorem esc_get : ∀ (l : List UInt8) (k : Nat) (h : k < l.length), (l.flatMap fun b => [92, b])[2 * k]? = some 92 ∧ (l.flatMap fun b => [92, b])[2 * k + 1]? = some l[k] := by
  intro l
  induction l with
  | nil => intro k h; simp at h
  | cons b l ih =>
    intro k h
    cases k with
    | zero => simp
    | succ k =>
      have := ih k (by simpa using h)
      rw [List.flatMap_cons, show 2 * (k + 1) = 2 * k + 2 by omega, show 2 * k + 2 + 1 = (2 * k + 1) + 2 by omega]
      simpa using this
theorem esc_len : ∀ l : List UInt8, (l.flatMap fun b => [92, b]).length = 2 * l.length
  | [] => rfl
  | b :: l => by rw [List.flatMap_cons, List.length_append, esc_len l]; simp; omega
theorem EscT.size {s : ByteArray} {k : Nat} {t : ByteArray} (h : EscT s k t) (hk : k ≤ s.size) : t.size = 2 * k := by
  have h1 : t.size = t.data.toList.length := rfl
  have h2 : s.data.toList.length = s.size := rfl
  rw [h1, h, esc_len, List.length_take]; omega
theorem EscT.step {s : ByteArray} {k : Nat} {t : ByteArray} (h : EscT s k t) (hk : k < s.size) : EscT s (k + 1) (t ++ ((⟨#[92]⟩ : ByteArray) ++ s.extract k (k + 1))) := by
  unfold EscT at *
  have e1 : (t ++ ((⟨#[92]⟩ : ByteArray) ++ s.extract k (k + 1))).data.toList = t.data.toList ++ (92 :: (s.extract k (k + 1)).data.toList) := by simp
  have e2 : (s.extract k (k + 1)).data.toList = [s[k]] := by
    rw [Lib.extract_data, show k + 1 - k = 1 by omega, List.drop_eq_getElem_cons (by simpa using hk)]; rfl
  rw [e1, e2, h, List.take_succ_eq_append_getElem (by simpa using hk), List.flatMap_append]
  rfl
theorem EscT.fin {s t : ByteArray} (h : EscT s s.size t) : ∀ (m k : Nat), s.size - k ≤ m → k ≤ s.size → fin t (2 * k) ⟨[], [], onesOf s k, 0⟩ = some (litN s) := by
  have hts := h.size (Nat.le_refl _)
  have hl : s.data.toList.length = s.size := rfl
  intro m
  induction m with
  | zero =>
    intro k hm hk
    obtain rfl : k = s.size := by omega
    rw [fin_end (by omega)]
    rfl
  | succ m ih =>
    intro k hm hk
    by_cases hlt : k < s.size
    · have h1 : 2 * k < t.size := by omega
      have h2 : 2 * k + 1 < t.size := by omega
      have hh : t.data.toList = s.data.toList.flatMap fun b => [92, b] := by have := h; unfold EscT at this; rwa [List.take_of_length_le (by omega)] at this
      obtain ⟨g1, g2⟩ := esc_get s.data.toList k (by omega)
      rw [← hh] at g1 g2
      have e1 : t[2 * k] = 92 := by
        have : t.data.toList[2 * k]? = some t[2 * k] := List.getElem?_eq_getElem (by exact h1)
        rw [this] at g1; exact Option.some.inj g1
      have e2 : t[2 * k + 1] = s[k] := by
        have : t.data.toList[2 * k + 1]? = some t[2 * k + 1] := List.getElem?_eq_getElem (by exact h2)
        rw [this] at g2; exact Option.some.inj g2
      rw [fin_set (sgn_esc h1 (by rw [e1]; rfl) h2), e2, show 2 * k + 2 = 2 * (k + 1) by omega, ← ones_next s hlt]
      exact ih (k + 1) (by omega) (by omega)
    · obtain rfl : k = s.size := by omega
      rw [fin_end (by omega)]
      rfl
theorem cnt_ones (s : ByteArray) (k : Nat) : cntL (fun k => k == 7) (onesOf s k) = 0 := by
  unfold onesOf
  generalize s.data.toList.take k = l
  induction l with
  | nil => simp [cntL]
  | cons b l ih => rw [List.map_cons, cntL, ih]; simp [cntN, cntL]
theorem par_esc {s t : ByteArray} (h : EscT s s.size t) (hs : s.size ≤ 30) : parN t = (litN s, 0) := by
  have hts := h.size (Nat.le_refl _)
  refine par_ok (by omega) (h.fin _ 0 (Nat.le_refl _) (Nat.zero_le _)) ?_
  have := cnt_one (fun k => k == 7) 2 (onesOf s s.size) rfl rfl
  unfold grpN litN
  rw [this, cnt_ones]; omega
theorem lit_kids {s : ByteArray} (h : 2 ≤ s.size) : (litN s).kind = 2 ∧ (litN s).kids = onesOf s s.size := by
  have hl := ones_len s (Nat.le_refl s.size)
  unfold litN oneN
  match hm : onesOf s s.size, hl with
  | [], hl => simp at hl; omega
  | [n], hl => simp at hl; omega
  | a :: b :: l, _ => exact ⟨rfl, rfl⟩
theorem lit_small {s : ByteArray} (h : s.size < 2) : sizN (litN s) = 1 ∧ (litN s).kind = s.size := by
  obtain h0 | h1 : s.size = 0 ∨ s.size = 1 := by omega
  · have hl := ones_len s (Nat.le_refl s.size)
    rw [h0] at hl
    have : onesOf s s.size = [] := by rw [h0]; exact List.eq_nil_of_length_eq_zero hl
    unfold litN; rw [this, h0]
    exact ⟨siz_E, rfl⟩
  · have := ones_next s (show 0 < s.size by omega)
    obtain ⟨x, hx⟩ : ∃ x, x = one s[0].toNat := ⟨_, rfl⟩
    rw [← hx] at this
    clear hx
    have e : onesOf s s.size = [.mk 1 0 x []] := by rw [h1, this]; rfl
    unfold litN; rw [e, h1]
    exact ⟨by simp [oneN, sizN, cntN, cntL], rfl⟩
theorem ones_get {s : ByteArray} {j : Nat} {n : Nd} (h : (onesOf s s.size)[j]? = some n) : ∃ hj : j < s.size, n = .mk 1 0 (one s[j].toNat) [] := by
  unfold onesOf at h
  have hl : s.data.toList.length = s.size := rfl
  rw [List.take_of_length_le (by omega), List.getElem?_map] at h
  cases hx : s.data.toList[j]? with
  | none => rw [hx] at h; cases h
  | some b =>
    rw [hx] at h
    obtain ⟨hj, e⟩ := List.getElem?_eq_some_iff.1 hx
    simp only [Option.map_some, Option.some.injEq] at h
    refine ⟨by omega, ?_⟩
    rw [← h, ← e]; rfl
theorem cnt_one1 (b : Nat) (hb : b < 256) : cnt (one b) = 1 := by
  unfold cnt
  have : ∀ n, n ≤ 256 → (List.range n).countP (inn (one b)) = if b < n then 1 else 0 := by
    intro n
    induction n with
    | zero => intro _; rfl
    | succ n ih =>
      intro hn
      rw [List.range_succ, List.countP_append, ih (by omega)]
      simp only [List.countP_cons, List.countP_nil, inn_one b n (by omega)]
      by_cases h1 : n = b
      · subst h1; simp
      · by_cases h2 : b < n
        · have : b < n + 1 := by omega
          simp [h1, h2, this]
        · have : ¬ b < n + 1 := by omega
          simp [h1, h2, this]
  rw [this 256 (Nat.le_refl _), if_pos hb]

/-! the chapter's example -/
def exT : ByteArray := ⟨#[97, 124, 98, 99]⟩
def exN : Nd := .mk 3 0 emp [.mk 1 0 (one 97) [], .mk 2 0 emp [.mk 1 0 (one 98) [], .mk 1 0 (one 99) []]]
theorem par_ex : parN exT = (exN, 0) := by
  have hs : exT.size = 4 := rfl
  have h0 : sgn exT 0 = (sgn exT 1).map (⟨0, one 97⟩ :: ·) := sgn_lit (show 0 < exT.size by decide) (by decide)
  have h1 : nxt exT 1 124 = true := nxt_is (show 1 < exT.size by decide) (by decide)
  have h2 : sgn exT 2 = (sgn exT 3).map (⟨0, one 98⟩ :: ·) := sgn_lit (show 2 < exT.size by decide) (by decide)
  have h3 : sgn exT 3 = (sgn exT 4).map (⟨0, one 99⟩ :: ·) := sgn_lit (show 3 < exT.size by decide) (by decide)
  refine par_ok (by rw [hs]; decide) (n := exN) ?_ (by simp [grpN, exN, cntN, cntL])
  rw [fin_set h0, fin_bar h1, fin_set h2, fin_set h3, fin_end (by rw [hs]; decide)]
  rfl
end Go.Proofs.YtlkjejmmoalliaaGreatDoor

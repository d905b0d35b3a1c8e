/- The document's own answers on sets of bytes, bit by bit. -/
import Derived.Test.YtkemhpjgmnibpaaClsD
import Derived.Deep.WholeRow
namespace Go.Proofs.Ytkemhpjgmnibpaa
open Go.RowKit

theorem half (x k : Nat) : x / 2 ^ k / 2 = x / 2 ^ (k + 1) := by rw [Nat.div_div_eq_div_mul, Nat.pow_succ]

set_option maxHeartbeats 1000000 in
theorem cRHas (s : BitVec 256) (b : Nat) (w : World) (hb : b < 256) :
    Calls Try.prog 14 #[.agg #[.int .u64 (wd s 0), .int .u64 (wd s 1), .int .u64 (wd s 2), .int .u64 (wd s 3)], .int .i64 b] w fun e w' => e = .returned (.bool (inn s b)) ∧ w.grownBy w' none := by
  go_enter Try.func14, Try.ntmps14
  go_upto_region 1 with fail
  have G := Lib.hid (World.grownBy_alloc w (.cells #[.int .u64 (wd s 0), .int .u64 (wd s 1), .int .u64 (wd s 2), .int .u64 (wd s 3)] 26) none)
  have S := set_new w s 26
  have h1 := S.at (b / 64) (by omega)
  clear S
  generalize w.heap.size = p at h1 ⊢
  generalize w.alloc (.cells #[.int .u64 (wd s 0), .int .u64 (wd s 1), .int .u64 (wd s 2), .int .u64 (wd s 3)] 26) = w1 at G h1 ⊢
  have hm : b % 64 < 64 := by omega
  have HX := Lib.hid (has_bit s (b / 64) (b % 64) hm)
  have HE := Lib.hid (show 64 * (b / 64) + b % 64 = b by omega)
  obtain ⟨x, hx⟩ : ∃ x, x = wn s (b / 64) := ⟨_, rfl⟩
  have hv : wd s (b / 64) = x := by rw [hx]; rfl
  have hxl : x < 18446744073709551616 := by rw [hx]; exact wn_lt _ _
  rw [hv] at h1
  rw [← hx] at HX
  clear hv hx
  go_wp2
  go_loop [5, 6] (fun v i => ∃ k : Nat, k ≤ b % 64 ∧ i = .int .i64 k ∧ ∃ y : Nat, Hid (y = x / 2 ^ k) ∧ y < 18446744073709551616 ∧ v = .int .u64 y) (fun _ i => b % 64 - (intOf i).toNat)
  case atStart => exact ⟨0, Nat.zero_le _, rfl, x, Lib.hid (by simp), hxl, rfl⟩
  case round =>
    obtain ⟨k, hk, rfl, y, hy, hyl, rfl⟩ := hrel
    by_cases hlt : k < b % 64
    · have HY := Lib.hid (show y / 2 = x / 2 ^ (k + 1) by rw [hy.out, half])
      go_wp2
      go_round
      case rel => exact ⟨k + 1, by omega, by go_num, y / 2, HY, by omega, by go_num⟩
      case measure => simp [intOf]; omega
    · obtain rfl : k = b % 64 := by omega
      have HB := Lib.hid (show (((y : Nat) : Int) % 2 == (1 : Int)) = inn s b by
        have := HX.out
        rw [← hy.out, HE.out] at this
        cases h : inn s b
        · rw [h] at this; simp at this; simp; omega
        · rw [h] at this; simp at this; simp; omega)
      go_wp2
      go_ret
      exact ⟨ret_bool HB.out, G.out⟩

/-- 256 bools -/
def arrV (f : Nat → Bool) : Array Value := ((List.range 256).map fun b => Value.bool (f b)).toArray
theorem arr_get (f : Nat → Bool) (b : Nat) (hb : b < 256) : (arrV f)[b]? = some (.bool (f b)) := by
  unfold arrV; simp [hb]
theorem arr_size (f : Nat → Bool) : (arrV f).size = 256 := by unfold arrV; simp

/-- the set of a row of bools; what the document has of its words when the bytes from n on are done -/
def mkS (f : Nat → Bool) : BitVec 256 := ofL (whr f 256)
theorem inn_mkS (f : Nat → Bool) (b : Nat) (hb : b < 256) : inn (mkS f) b = f b := by
  unfold mkS; rw [inn_ofL _ _ hb]; unfold whr
  rw [Bool.eq_iff_iff]; simp [hb]
def rwd (s : BitVec 256) (n i : Nat) : Nat := wn s i / 2 ^ (n - 64 * i)
theorem rwd_lt (s : BitVec 256) (n i : Nat) : rwd s n i < 18446744073709551616 := Nat.lt_of_le_of_lt (Nat.div_le_self _ _) (wn_lt s i)
theorem big_pow (x e : Nat) (hx : x < 18446744073709551616) (he : 64 ≤ e) : x / 2 ^ e = 0 := by
  apply Nat.div_eq_of_lt
  exact Nat.lt_of_lt_of_le hx (show 2 ^ 64 ≤ 2 ^ e from Nat.pow_le_pow_right (by decide) he)
theorem rwd_start (s : BitVec 256) (i : Nat) (hi : i < 4) : rwd s 256 i = 0 := big_pow _ _ (wn_lt s i) (by omega)
theorem rwd_end (s : BitVec 256) (i : Nat) : rwd s 0 i = wn s i := by unfold rwd; simp
theorem rwd_other (s : BitVec 256) (m i : Nat) (h : i ≠ m / 64) : rwd s (m + 1) i = rwd s m i := by
  unfold rwd
  by_cases hl : i < m / 64
  · rw [big_pow _ _ (wn_lt s i) (by omega), big_pow _ _ (wn_lt s i) (by omega)]
  · have e1 : m + 1 - 64 * i = 0 := by omega
    have e2 : m - 64 * i = 0 := by omega
    rw [e1, e2]
theorem rwd_same (s : BitVec 256) (m : Nat) : rwd s m (m / 64) = rwd s (m + 1) (m / 64) * 2 + (if inn s m then 1 else 0) := by
  have h := has_bit s (m / 64) (m % 64) (by omega)
  rw [show 64 * (m / 64) + m % 64 = m by omega] at h
  unfold rwd
  rw [show m + 1 - 64 * (m / 64) = m % 64 + 1 by omega, show m - 64 * (m / 64) = m % 64 by omega, ← half, ← h]
  omega
def rC (s : BitVec 256) (n : Nat) : Array Value := #[.int .u64 (rwd s n 0), .int .u64 (rwd s n 1), .int .u64 (rwd s n 2), .int .u64 (rwd s n 3)]
theorem rC_get (s : BitVec 256) (n i : Nat) (hi : i < 4) : (rC s n)[i]? = some (.int .u64 (rwd s n i)) := by
  obtain rfl | rfl | rfl | rfl : i = 0 ∨ i = 1 ∨ i = 2 ∨ i = 3 := by omega
  all_goals rfl
theorem rC_set (s : BitVec 256) (m : Nat) (hm : m < 256) : (rC s (m + 1)).setIfInBounds (m / 64) (.int .u64 (rwd s m (m / 64))) = rC s m := by
  have h0 := rwd_other s m 0; have h1 := rwd_other s m 1; have h2 := rwd_other s m 2; have h3 := rwd_other s m 3
  obtain e | e | e | e : m / 64 = 0 ∨ m / 64 = 1 ∨ m / 64 = 2 ∨ m / 64 = 3 := by omega
  · rw [e]; unfold rC; rw [h1 (by omega), h2 (by omega), h3 (by omega)]; rfl
  · rw [e]; unfold rC; rw [h0 (by omega), h2 (by omega), h3 (by omega)]; rfl
  · rw [e]; unfold rC; rw [h0 (by omega), h1 (by omega), h3 (by omega)]; rfl
  · rw [e]; unfold rC; rw [h0 (by omega), h1 (by omega), h2 (by omega)]; rfl
theorem rC_end (s : BitVec 256) : rC s 0 = setC s := by unfold rC setC wd; rw [rwd_end, rwd_end, rwd_end, rwd_end]
theorem rC_start (s : BitVec 256) : rC s 256 = #[.int .u64 0, .int .u64 0, .int .u64 0, .int .u64 0] := by
  unfold rC; rw [rwd_start s 0 (by omega), rwd_start s 1 (by omega), rwd_start s 2 (by omega), rwd_start s 3 (by omega)]; rfl

set_option maxHeartbeats 2000000 in
theorem cROf (f : Nat → Bool) (w : World) :
    Calls Try.prog 8 #[.agg (arrV f)] w fun e w' => e = .returned (setV (mkS f)) ∧ w.grownBy w' none := by
  have AG := Lib.hid (arr_get f)
  have IM := Lib.hid (inn_mkS f)
  generalize arrV f = cs at AG
  generalize mkS f = s at IM ⊢
  go_enter Try.func8, Try.ntmps8
  go_wp2
  obtain ⟨b1, b2, b3, g⟩ := heap3 w (.cells cs 24) (.cells #[.int .u64 0, .int .u64 0, .int .u64 0, .int .u64 0] 26) (.cells #[.int .u64 0, .int .u64 0, .int .u64 0, .int .u64 0] 26)
  generalize (((w.alloc _).alloc _).alloc _) = w1 at b1 b2 b3 g ⊢
  obtain ⟨q, eq⟩ : ∃ q, q = w.heap.size := ⟨_, rfl⟩
  obtain ⟨r, er⟩ : ∃ r, r = w.heap.size + 1 := ⟨_, rfl⟩
  obtain ⟨p, ep⟩ : ∃ p, p = w.heap.size + 1 + 1 := ⟨_, rfl⟩
  have HR := Lib.hid (show w.heap.size ≤ r by omega)
  have HP := Lib.hid (show w.heap.size ≤ p by omega)
  have n1 : q ≠ p := by omega
  have n2 : r ≠ p := by omega
  rw [← ep] at b3 ⊢
  rw [← er] at b2 ⊢
  rw [← eq] at b1 ⊢
  have B1 := Lib.hid b1; have B2 := Lib.hid b2; have B3 := Lib.hid (show w1.heap[p]? = some (.cells (rC s 256) 26 (0, 0)) by rw [rC_start]; exact b3); have G := Lib.hid g
  clear b1 b2 b3 g ep eq er
  go_loopw [4] (fun i wr => ∃ n : Nat, n ≤ 256 ∧ i = .int .i64 ((n : Int) - 1) ∧ Hid (w.grownBy wr none) ∧ Hid (wr.heap[q]? = some (.cells cs 24 (0, 0))) ∧ Hid (wr.heap[r]? = some (.cells #[.int .u64 0, .int .u64 0, .int .u64 0, .int .u64 0] 26 (0, 0))) ∧ Hid (wr.heap[p]? = some (.cells (rC s n) 26 (0, 0)))) (fun i _ => (intOf i + 1).toNat)
  case atStart => exact ⟨256, Nat.le_refl _, rfl, G, B1, B2, B3⟩
  case round =>
    obtain ⟨n, hn, rfl, hG, hB1, hB2, hB3⟩ := hrel
    cases n with
    | zero =>
      have hB := Lib.hid (show wr.heap[p]? = some (.cells (setC s) 26 (0, 0)) by rw [← rC_end]; exact hB3.out)
      obtain ⟨p0, p1, p2, p3⟩ := four_cells hB.out
      obtain ⟨r0, r1, r2, r3⟩ := four_cells hB2.out
      have fr := four_free hB2.out
      rw [show (((0 : Nat) : Int) - 1) = -1 from rfl]
      go_wp2
      refine bodyPost_ret (v := setV s) (back_setT 26 Try.underlying26 (by kernel_rfl) Try.results8 rfl (set_four hB2.out _ _ _ _)) rfl ⟨rfl, ?_⟩
      exact grown_set (grown_set (grown_set (grown_set hG.out _ _ HR.out) _ _ HR.out) _ _ HR.out) _ _ HR.out
    | succ m =>
      rw [show (((m + 1 : Nat) : Int) - 1) = m by omega]
      have hm : m < 256 := by omega
      have c0 := (cell_of_row wr p (m / 64) _ _ _ hB3.out).trans (rC_get s (m + 1) (m / 64) (by omega))
      have f0 := four_free hB3.out (m / 64)
      have c1 := (cell_of_row wr q m _ _ _ hB1.out).trans (AG.out m hm)
      have RS := Lib.hid (rwd_same s m)
      rw [IM.out m hm] at RS
      have RL := rwd_lt s m (m / 64)
      have HS := Lib.hid (rC_set s m hm)
      generalize rwd s (m + 1) (m / 64) = a at c0 RS
      generalize rwd s m (m / 64) = d at RS RL HS
      cases hf : f m
      · rw [hf] at c1 RS
        have e1 : IntKind.u64.wrap ((a : Int) * 2) = d := by
          have := RS.out; simp at this; rw [IntKind.wrap_u64]; omega
        clear hf RS
        go_wp2
        go_roundw
        case rel => exact ⟨m, by omega, rfl, Lib.hid (grown_set hG.out _ _ HP.out), Lib.hid ((heap_setCell_other wr _ q _ n1).trans hB1.out), Lib.hid ((heap_setCell_other wr _ r _ n2).trans hB2.out), Lib.hid ((heap_setCell_same wr p (m / 64) _ _ _ hB3.out).trans (by rw [HS.out]))⟩
        case measure => simp [intOf]
      · rw [hf] at c1 RS
        obtain ⟨c, hc⟩ : ∃ c : Nat, c = a * 2 := ⟨_, rfl⟩
        have hcd : c + 1 = d := by have := RS.out; simp at this; omega
        have e1 : IntKind.u64.wrap ((a : Int) * 2) = c := by rw [IntKind.wrap_u64]; omega
        have hcl : c + 1 < 18446744073709551616 := by omega
        subst hcd
        clear hf RS hc RL
        go_wp2
        go_roundw
        case rel => exact ⟨m, by omega, rfl, Lib.hid (grown_set (grown_set hG.out _ _ HP.out) _ _ HP.out), Lib.hid ((heap_setCell_other _ _ q _ n1).trans ((heap_setCell_other wr _ q _ n1).trans hB1.out)), Lib.hid ((heap_setCell_other _ _ r _ n2).trans ((heap_setCell_other wr _ r _ n2).trans hB2.out)), Lib.hid ((heap_setCell_same _ p (m / 64) _ _ _ (heap_setCell_same wr p (m / 64) _ _ _ hB3.out)).trans (by rw [Array.setIfInBounds_setIfInBounds, ← HS.out]; rfl))⟩
        case measure => simp [intOf]
end Go.Proofs.Ytkemhpjgmnibpaa

/- The document's own set of a row of bools, bit by bit. -/
import Derived.Test.YtliefnjhobdphaaDoorClsPlainB
namespace Go.Proofs.YtliefnjhobdphaaDoor
open Go.RowKit

set_option maxHeartbeats 2000000 in
theorem cROf (f : Nat → Bool) (w : World) :
    Calls Tryd.prog 42 #[.agg (arrV f)] w fun e w' => e = .returned (setV (mkS f)) ∧ w.grownBy w' none := by
  have AG := Lib.hid (arr_get f)
  have IM := Lib.hid (inn_mkS f)
  generalize arrV f = cs at AG
  generalize mkS f = s at IM ⊢
  go_enter Tryd.func42, Tryd.ntmps42
  go_wp2
  obtain ⟨b1, b2, b3, g⟩ := heap3 w (.cells cs 85) (.cells #[.int .u64 0, .int .u64 0, .int .u64 0, .int .u64 0] 29) (.cells #[.int .u64 0, .int .u64 0, .int .u64 0, .int .u64 0] 29)
  generalize (((w.alloc _).alloc _).alloc _) = w1 at b1 b2 b3 g ⊢
  obtain ⟨q, eq⟩ : ∃ q, q = w.heap.size := ⟨_, rfl⟩
  obtain ⟨r, er⟩ : ∃ r, r = w.heap.size + 1 := ⟨_, rfl⟩
  obtain ⟨p, ep⟩ : ∃ p, p = w.heap.size + 1 + 1 := ⟨_, rfl⟩
  have HR := Lib.hid (show w.heap.size ≤ r by omega)
  have HP := Lib.hid (show w.heap.size ≤ p by omega)
  have n1 : q ≠ p := by omega
  have n2 : r ≠ p := by omega
  rw [← ep] at b3 ⊢
  rw [← er] at b2 ⊢
  rw [← eq] at b1 ⊢
  have B1 := Lib.hid b1; have B2 := Lib.hid b2; have B3 := Lib.hid (show w1.heap[p]? = some (.cells (rC s 256) 29 (0, 0)) by rw [rC_start]; exact b3); have G := Lib.hid g
  clear b1 b2 b3 g ep eq er
  go_loopw [4] (fun i wr => ∃ n : Nat, n ≤ 256 ∧ i = .int .i64 ((n : Int) - 1) ∧ Hid (w.grownBy wr none) ∧ Hid (wr.heap[q]? = some (.cells cs 85 (0, 0))) ∧ Hid (wr.heap[r]? = some (.cells #[.int .u64 0, .int .u64 0, .int .u64 0, .int .u64 0] 29 (0, 0))) ∧ Hid (wr.heap[p]? = some (.cells (rC s n) 29 (0, 0)))) (fun i _ => (intOf i + 1).toNat)
  case atStart => exact ⟨256, Nat.le_refl _, rfl, G, B1, B2, B3⟩
  case round =>
    obtain ⟨n, hn, rfl, hG, hB1, hB2, hB3⟩ := hrel
    cases n with
    | zero =>
      have hB := Lib.hid (show wr.heap[p]? = some (.cells (setC s) 29 (0, 0)) by rw [← rC_end]; exact hB3.out)
      obtain ⟨p0, p1, p2, p3⟩ := four_cells hB.out
      obtain ⟨r0, r1, r2, r3⟩ := four_cells hB2.out
      have fr := four_free hB2.out
      rw [show (((0 : Nat) : Int) - 1) = -1 from rfl]
      go_wp2
      refine bodyPost_ret (v := setV s) (back_setT 29 Tryd.underlying29 (by kernel_rfl) Tryd.results42 rfl (set_four hB2.out _ _ _ _)) rfl ⟨rfl, ?_⟩
      exact grown_set (grown_set (grown_set (grown_set hG.out _ _ HR.out) _ _ HR.out) _ _ HR.out) _ _ HR.out
    | succ m =>
      rw [show (((m + 1 : Nat) : Int) - 1) = m by omega]
      have hm : m < 256 := by omega
      have c0 := (cell_of_row wr p (m / 64) _ _ _ hB3.out).trans (rC_get s (m + 1) (m / 64) (by omega))
      have f0 := four_free hB3.out (m / 64)
      have c1 := (cell_of_row wr q m _ _ _ hB1.out).trans (AG.out m hm)
      have RS := Lib.hid (rwd_same s m)
      rw [IM.out m hm] at RS
      have RL := rwd_lt s m (m / 64)
      have HS := Lib.hid (rC_set s m hm)
      generalize rwd s (m + 1) (m / 64) = a at c0 RS
      generalize rwd s m (m / 64) = d at RS RL HS
      cases hf : f m
      · rw [hf] at c1 RS
        have e1 : IntKind.u64.wrap ((a : Int) * 2) = d := by
          have := RS.out; simp at this; rw [IntKind.wrap_u64]; omega
        clear hf RS
        go_wp2
        go_roundw
        case rel => exact ⟨m, by omega, rfl, Lib.hid (grown_set hG.out _ _ HP.out), Lib.hid ((heap_setCell_other wr _ q _ n1).trans hB1.out), Lib.hid ((heap_setCell_other wr _ r _ n2).trans hB2.out), Lib.hid ((heap_setCell_same wr p (m / 64) _ _ _ hB3.out).trans (by rw [HS.out]))⟩
        case measure => simp [intOf]
      · rw [hf] at c1 RS
        obtain ⟨c, hc⟩ : ∃ c : Nat, c = a * 2 := ⟨_, rfl⟩
        have hcd : c + 1 = d := by have := RS.out; simp at this; omega
        have e1 : IntKind.u64.wrap ((a : Int) * 2) = c := by rw [IntKind.wrap_u64]; omega
        have hcl : c + 1 < 18446744073709551616 := by omega
        subst hcd
        clear hf RS hc RL
        go_wp2
        go_roundw
        case rel => exact ⟨m, by omega, rfl, Lib.hid (grown_set (grown_set hG.out _ _ HP.out) _ _ HP.out), Lib.hid ((heap_setCell_other _ _ q _ n1).trans ((heap_setCell_other wr _ q _ n1).trans hB1.out)), Lib.hid ((heap_setCell_other _ _ r _ n2).trans ((heap_setCell_other wr _ r _ n2).trans hB2.out)), Lib.hid ((heap_setCell_same _ p (m / 64) _ _ _ (heap_setCell_same wr p (m / 64) _ _ _ hB3.out)).trans (by rw [Array.setIfInBounds_setIfInBounds, ← HS.out]; rfl))⟩
        case measure => simp [intOf]
end Go.Proofs.YtliefnjhobdphaaDoor

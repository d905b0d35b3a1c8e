/- Walks of layer 6: Of. -/
import Derived.Test.YtgpmhnpacpgckaaDoorClsPlainB
namespace Go.Proofs.YtgpmhnpacpgckaaDoor
open Go.RowKit

set_option maxHeartbeats 1000000 in
theorem cOf (v : Value) (l : List Nat) (w : World) (h : BRow w v l) :
    Calls Tryd.prog 67 #[v] w fun e w' => e = .returned (setV (ofL l)) ∧ w.grownBy w' none := by
  have H := Lib.hid h
  obtain ⟨a, c, rfl, ⟨hn, hlt⟩, -⟩ := h
  have HL := Lib.hid hlt
  clear hlt
  go_enter Tryd.func67, Tryd.ntmps67
  go_wp2
  obtain ⟨b1, b2, g⟩ := heap2 w (.cells #[.int .u64 0, .int .u64 0, .int .u64 0, .int .u64 0] 56) (.cells #[.int .u64 0, .int .u64 0, .int .u64 0, .int .u64 0] 56)
  generalize ((w.alloc _).alloc _) = w1 at b1 b2 g ⊢
  have hne : w.heap.size ≠ w.heap.size + 1 := by omega
  obtain ⟨r, er⟩ : ∃ r, r = w.heap.size := ⟨_, rfl⟩
  obtain ⟨p, ep⟩ : ∃ p, p = w.heap.size + 1 := ⟨_, rfl⟩
  have HP := Lib.hid (show w.heap.size ≤ p by omega)
  have HR := Lib.hid (show w.heap.size ≤ r by omega)
  rw [← ep] at b2 hne ⊢
  rw [← er] at b1 hne ⊢
  have B1 := Lib.hid b1
  have B2 := Lib.hid (show w1.heap[p]? = some (.cells (setC (ofL [])) 56 (0, 0)) by rw [b2]; unfold setC ofL; simp [wd_emp])
  have G := Lib.hid g
  clear er ep b1 b2 g
  go_loopw [5, 8] (fun _ i wr => ∃ k : Nat, k ≤ l.length ∧ i = .int .i64 k ∧ Hid (w.grownBy wr none) ∧ Hid (wr.heap[r]? = some (.cells #[.int .u64 0, .int .u64 0, .int .u64 0, .int .u64 0] 56 (0, 0))) ∧ Hid (wr.heap[p]? = some (.cells (setC (ofL (l.take k))) 56 (0, 0)))) (fun _ i _ => l.length - (intOf i).toNat)
  case atStart => exact ⟨0, Nat.zero_le _, rfl, G, B1, B2⟩
  case round =>
    obtain ⟨k, hk, rfl, hG, hB1, hB2⟩ := hrel
    by_cases hlt : k < l.length
    · obtain ⟨x, hx⟩ : ∃ x, l[k]? = some x := ⟨_, List.getElem?_eq_getElem hlt⟩
      have hx256 := HL.out x (List.mem_of_getElem? hx)
      obtain ⟨a', c', e, -, hr⟩ := H.out.grown hG.out
      cases e
      obtain ⟨b, off, rfl, -, hc⟩ := hr (by intro e; rw [e] at hlt; simp at hlt)
      have hcell : wr.cell? ⟨b, off + k, none⟩ = some (.int .u8 x) := hc k x hx
      have HX := Lib.hid (ofL_take hx)
      clear hc hx hr
      generalize ofL (l.take k) = s at hB2 HX
      have c0 := (cell_of_row wr p (x / 64) _ _ _ hB2.out).trans (setC_get s (x / 64) (by omega))
      have f0 := four_free hB2.out (x / 64)
      have v0 := wd_ge s (x / 64); have v1 := wd_le s (x / 64)
      have HI := Lib.hid (ins_same s x hx256)
      have HC := Lib.hid (setC_ins s x hx256)
      go_wp2
      go_roundw
      case rel =>
        rw [HI.out]
        exact ⟨k + 1, by omega, by go_num, Lib.hid (grown_set hG.out _ _ HP.out), Lib.hid ((heap_setCell_other wr _ r _ hne).trans hB1.out), Lib.hid (by rw [HX.out, ← HC.out]; exact heap_setCell_same wr p (x / 64) _ _ _ hB2.out)⟩
      case measure => simp [intOf]; omega
    · obtain rfl : k = l.length := by omega
      have hB2' := hB2.out
      rw [List.take_length] at hB2'
      have hB := Lib.hid hB2'
      clear hB2 hB2'
      obtain ⟨p0, p1, p2, p3⟩ := four_cells hB.out
      obtain ⟨r0, r1, r2, r3⟩ := four_cells hB1.out
      have fr := four_free hB1.out
      go_wp2
      refine bodyPost_ret (v := setV (ofL l)) (back_set Tryd.results67 rfl (set_four hB1.out _ _ _ _)) rfl ⟨rfl, ?_⟩
      exact grown_set (grown_set (grown_set (grown_set hG.out _ _ HR.out) _ _ HR.out) _ _ HR.out) _ _ HR.out
end Go.Proofs.YtgpmhnpacpgckaaDoor

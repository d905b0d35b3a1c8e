/- Walks of layer 6: Of. Walks of layer 6: the bytes that are as asked, rising; the bytes between two. -/
import Derived.Test.YtlkjejmmoalliaaGreatDoorClsPlainB
namespace Go.Proofs.YtlkjejmmoalliaaGreatDoor
open Go.RowKit

set_option maxHeartbeats 1000000 in
theorem cOf (v : Value) (l : List Nat) (w : World) (h : BRow w v l) :
    Calls Tryz.prog 82 #[v] w fun e w' => e = .returned (setV (ofL l)) ∧ w.grownBy w' none := by
  have H := Lib.hid h
  obtain ⟨a, c, rfl, ⟨hn, hlt⟩, -⟩ := h
  have HL := Lib.hid hlt
  clear hlt
  go_enter Tryz.func82, Tryz.ntmps82
  go_wp2
  obtain ⟨b1, b2, g⟩ := heap2 w (.cells #[.int .u64 0, .int .u64 0, .int .u64 0, .int .u64 0] 25) (.cells #[.int .u64 0, .int .u64 0, .int .u64 0, .int .u64 0] 25)
  generalize ((w.alloc _).alloc _) = w1 at b1 b2 g ⊢
  have hne : w.heap.size ≠ w.heap.size + 1 := by omega
  obtain ⟨r, er⟩ : ∃ r, r = w.heap.size := ⟨_, rfl⟩
  obtain ⟨p, ep⟩ : ∃ p, p = w.heap.size + 1 := ⟨_, rfl⟩
  have HP := Lib.hid (show w.heap.size ≤ p by omega)
  have HR := Lib.hid (show w.heap.size ≤ r by omega)
  rw [← ep] at b2 hne ⊢
  rw [← er] at b1 hne ⊢
  have B1 := Lib.hid b1
  have B2 := Lib.hid (show w1.heap[p]? = some (.cells (setC (ofL [])) 25 (0, 0)) by rw [b2]; unfold setC ofL; simp [wd_emp])
  have G := Lib.hid g
  clear er ep b1 b2 g
  go_loopw [5, 8] (fun _ i wr => ∃ k : Nat, k ≤ l.length ∧ i = .int .i64 k ∧ Hid (w.grownBy wr none) ∧ Hid (wr.heap[r]? = some (.cells #[.int .u64 0, .int .u64 0, .int .u64 0, .int .u64 0] 25 (0, 0))) ∧ Hid (wr.heap[p]? = some (.cells (setC (ofL (l.take k))) 25 (0, 0)))) (fun _ i _ => l.length - (intOf i).toNat)
  case atStart => exact ⟨0, Nat.zero_le _, rfl, G, B1, B2⟩
  case round =>
    obtain ⟨k, hk, rfl, hG, hB1, hB2⟩ := hrel
    by_cases hlt : k < l.length
    · obtain ⟨x, hx⟩ : ∃ x, l[k]? = some x := ⟨_, List.getElem?_eq_getElem hlt⟩
      have hx256 := HL.out x (List.mem_of_getElem? hx)
      obtain ⟨a', c', e, -, hr⟩ := H.out.grown hG.out
      cases e
      obtain ⟨b, off, rfl, -, hc⟩ := hr (by intro e; rw [e] at hlt; simp at hlt)
      have hcell : wr.cell? ⟨b, off + k, none⟩ = some (.int .u8 x) := hc k x hx
      have HX := Lib.hid (ofL_take hx)
      clear hc hx hr
      generalize ofL (l.take k) = s at hB2 HX
      have c0 := (cell_of_row wr p (x / 64) _ _ _ hB2.out).trans (setC_get s (x / 64) (by omega))
      have f0 := four_free hB2.out (x / 64)
      have v0 := wd_ge s (x / 64); have v1 := wd_le s (x / 64)
      have HI := Lib.hid (ins_same s x hx256)
      have HC := Lib.hid (setC_ins s x hx256)
      go_wp2
      go_roundw
      case rel =>
        rw [HI.out]
        exact ⟨k + 1, by omega, by go_num, Lib.hid (grown_set hG.out _ _ HP.out), Lib.hid ((heap_setCell_other wr _ r _ hne).trans hB1.out), Lib.hid (by rw [HX.out, ← HC.out]; exact heap_setCell_same wr p (x / 64) _ _ _ hB2.out)⟩
      case measure => simp [intOf]; omega
    · obtain rfl : k = l.length := by omega
      have hB2' := hB2.out
      rw [List.take_length] at hB2'
      have hB := Lib.hid hB2'
      clear hB2 hB2'
      obtain ⟨p0, p1, p2, p3⟩ := four_cells hB.out
      obtain ⟨r0, r1, r2, r3⟩ := four_cells hB1.out
      have fr := four_free hB1.out
      go_wp2
      refine bodyPost_ret (v := setV (ofL l)) (back_set Tryz.results82 rfl (set_four hB1.out _ _ _ _)) rfl ⟨rfl, ?_⟩
      exact grown_set (grown_set (grown_set (grown_set hG.out _ _ HR.out) _ _ HR.out) _ _ HR.out) _ _ HR.out
end Go.Proofs.YtlkjejmmoalliaaGreatDoor

namespace Go.Proofs.YtlkjejmmoalliaaGreatDoor
open Go.RowKit

set_option maxRecDepth 100000 in
set_option maxHeartbeats 2000000 in
theorem cWhere (fn : Nat) (first cap : Array Value) (A : Nat → Array Value) (hA : ∀ b : Nat, first ++ #[.int .u8 b] ++ cap = A b) (f : Nat → Bool) (w : World)
    (hent : ∀ args w, (callFunc fn args).run Tryz.prog w = .ok (.enter fn args) w)
    (hcall : ∀ b, b < 256 → ∀ wr, w.grownBy wr none → Calls Tryz.prog fn (A b) wr fun e w' => e = .returned (.bool (f b)) ∧ wr.grownBy w' none) :
    Calls Tryz.prog 101 #[.func (.func fn) first cap] w fun e w' => ∃ v, e = .returned v ∧ w'.ownsRow w.heap.size 5 1 v (whr f 256).length ((whr f 256).map byteV) ∧ w.grownBy w' none := by
  have HC := Lib.hid (show ∀ b, b < 256 → ∀ wr, w.grownBy wr none → Calls Tryz.prog fn (first ++ #[.int .u8 b] ++ cap) wr fun e w' => e = .returned (.bool (f b)) ∧ wr.grownBy w' none from fun i hi wr hg => by rw [hA]; exact hcall i hi wr hg)
  clear hcall hA
  obtain ⟨i0, hi, hz0, hz1, hz2⟩ := info_parts infoByte
  have I := Lib.hid hi; have Z0 := Lib.hid hz0; have Z1 := Lib.hid hz1; have Z2 := Lib.hid hz2
  clear hi hz0 hz1 hz2
  go_enter Tryz.func101, Tryz.ntmps101
  go_wp2
  go_loopw [3, 4, 5] (fun out _ i wr => ∃ k : Nat, k ≤ 256 ∧ i = .int .i64 k ∧ Hid (wr.ownsRow w.heap.size 5 1 out (whr f k).length ((whr f k).map byteV)) ∧ Hid (w.grownBy wr none)) (fun _ _ i _ => 256 - (intOf i).toNat)
  case atStart => exact ⟨0, by omega, rfl, Lib.hid (World.ownsRow_nil _ _ _ _), Lib.hid (World.grownBy.refl _ _)⟩
  case round =>
    obtain ⟨k, hk, rfl, hrow, hG⟩ := hrel
    by_cases hlt : k < 256
    · have CK := Lib.hid (HC.out k hlt wr hG.out)
      have L := Lib.hid (whr_len f k)
      cases hfk : f k
      · have W := Lib.hid (whr_no hfk)
        have CK2 := Lib.hid (hfk ▸ CK.out)
        clear hfk CK
        go_wp2_with fail
        refine CK2.out.mono ?_
        rintro e w1 ⟨rfl, g1⟩
        have G1 := Lib.hid (hG.out.trans g1); have O1 := Lib.hid (owns_kept hrow.out g1)
        clear g1
        go_wp2
        go_roundw
        case rel => exact ⟨k + 1, by omega, by go_num, Lib.hid (by rw [W.out]; exact O1.out), G1⟩
        case measure => simp [intOf]; omega
      · have W := Lib.hid (whr_yes hfk)
        have CK2 := Lib.hid (hfk ▸ CK.out)
        clear hfk CK
        go_wp2_with fail
        refine CK2.out.mono ?_
        rintro e w1 ⟨rfl, g1⟩
        have G1 := Lib.hid (hG.out.trans g1); have O1 := Lib.hid (owns_kept hrow.out g1)
        clear g1
        go_wp2_with (at_builtin; refine wpList_append_own _ rfl _ _ 143 rfl w.heap.size 5 i0 _ 1 1 Tryz.underlying143 I.out Z0.out Z1.out Z2.out rfl (by decide) _ _ _ rfl (O1.out.alloc _) ⟨_, 0, none⟩ 1 1 [.int .u8 k] rfl rfl (new_byte _ k _ _ (by simp)) (one_byte k) (by have := L.out; unfold maxLen; omega) (by have := L.out; omega) (by have := G1.out.size; simp; omega) ?_; intro v' w2 hown' hgrow2 hnil2; have HOWN := Lib.hid hown'; have G2 := Lib.hid ((G1.out.trans (World.grownBy_alloc w1 (.cells #[.int .u8 k] 5) none)).andThen hgrow2 (fun j e => .inl (O1.out.lt j e).1)); clear hown' hgrow2 hnil2)
        go_roundw
        case rel => exact ⟨k + 1, by omega, by go_num, Lib.hid (by rw [W.out, List.length_append, List.map_append]; exact HOWN.out), G2⟩
        case measure => simp [intOf]; omega
    · obtain rfl : k = 256 := by omega
      go_wp2
      go_ret
      exact ⟨_, rfl, hrow.out, hG.out⟩

theorem cBtw (lo hi b p q : Nat) (w : World) (h1 : w.cell? ⟨p, 0, none⟩ = some (.int .u8 lo)) (h2 : w.cell? ⟨q, 0, none⟩ = some (.int .u8 hi)) :
    Calls Tryz.prog 102 #[.int .u8 b, .pointer (some ⟨p, 0, none⟩), .pointer (some ⟨q, 0, none⟩)] w fun e w' => e = .returned (.bool (btw lo hi b)) ∧ w.grownBy w' none := by
  unfold btw
  by_cases k1 : lo ≤ b
  · by_cases k2 : b ≤ hi
    · have H : decide (lo ≤ b ∧ b ≤ hi) = true := by simp [k1, k2]
      have H' := Lib.hid H
      clear H
      go_enter Tryz.func102, Tryz.ntmps102
      go_wp2
      go_ret
      exact ⟨ret_bool (by rw [H'.out]), World.grownBy.refl _ _⟩
    · have H : decide (lo ≤ b ∧ b ≤ hi) = false := by simp [k2]
      have H' := Lib.hid H
      clear H
      go_enter Tryz.func102, Tryz.ntmps102
      go_wp2
      go_ret
      exact ⟨ret_bool (by rw [H'.out]), World.grownBy.refl _ _⟩
  · have H : decide (lo ≤ b ∧ b ≤ hi) = false := by simp [k1]
    have H' := Lib.hid H
    clear H
    have k1' : decide (lo ≤ b) = false := by simpa using k1
    go_enter Tryz.func102, Tryz.ntmps102
    go_wp2
    go_ret
    exact ⟨ret_bool (by rw [H'.out]), World.grownBy.refl _ _⟩

set_option maxHeartbeats 1000000 in
theorem cSpan (lo hi : Nat) (w : World) :
    Calls Tryz.prog 98 #[.int .u8 lo, .int .u8 hi] w fun e w' => e = .returned (setV (spn lo hi)) ∧ w.grownBy w' none := by
  have hmf : ∀ (fn : Fn) (first cap : Array Value) (w : World), (Instr.makeFunc fn first cap).run Tryz.prog w = .ok (.func fn first cap) w := fun _ _ _ _ => rfl
  have e1 : ∀ args w, (callFunc 102 args).run Tryz.prog w = .ok (.enter 102 args) w := enters_of Tryz.func102 (by kernel_rfl) rfl
  have E1 := Lib.hid e1
  clear e1
  go_enter Tryz.func98, Tryz.ntmps98
  go_upto_region 1 with fail
  obtain ⟨b1, b2, b3, g⟩ := heap3 w (.cells #[.int .u8 lo] 5) (.cells #[.int .u8 hi] 5) (.cells #[.int .u64 0, .int .u64 0, .int .u64 0, .int .u64 0] 25)
  generalize (((w.alloc _).alloc _).alloc _) = w1 at b1 b2 b3 g ⊢
  obtain ⟨p, ep⟩ : ∃ p, p = w.heap.size := ⟨_, rfl⟩
  obtain ⟨q, eq⟩ : ∃ q, q = w.heap.size + 1 := ⟨_, rfl⟩
  obtain ⟨r, er⟩ : ∃ r, r = w.heap.size + 1 + 1 := ⟨_, rfl⟩
  have HR := Lib.hid (show w.heap.size ≤ r by omega)
  rw [← er] at b3 ⊢
  rw [← eq] at b2 ⊢
  rw [← ep] at b1 ⊢
  have C1 := Lib.hid (cell_of_one b1); have C2 := Lib.hid (cell_of_one b2); have B3 := Lib.hid b3; have G := Lib.hid g
  clear b1 b2 b3 g ep eq er
  have C := Lib.hid (fun b (_ : b < 256) wr (hg : w1.grownBy wr none) => cBtw lo hi b p q wr (hg.cell C1.out (by simp)) (hg.cell C2.out (by simp)))
  go_wp2_with fail
  refine (cWhere 102 #[] #[.pointer (some ⟨p, 0, none⟩), .pointer (some ⟨q, 0, none⟩)] (fun b => #[.int .u8 b, .pointer (some ⟨p, 0, none⟩), .pointer (some ⟨q, 0, none⟩)]) (fun b => by simp) (btw lo hi) w1 E1.out C.out).mono ?_
  rintro e w2 ⟨v, rfl, o2, g2⟩
  have R := Lib.hid (brow_of_owns o2 (Nat.le_trans (whr_len _ _) (by omega)) (whr_lt _))
  have B4 := Lib.hid (heap_grown g2 B3.out)
  have G2 := Lib.hid (G.out.trans g2)
  clear o2 g2 C
  go_wp2_with fail
  refine (cOf v (whr (btw lo hi) 256) w2 R.out).mono ?_
  rintro e w3 ⟨rfl, g3⟩
  have B5 := Lib.hid (heap_grown g3 B4.out)
  obtain ⟨r0, r1, r2, r3⟩ := four_cells B5.out
  have fr := four_free B5.out
  have G3 := Lib.hid (G2.out.trans g3)
  clear g3
  have HS := Lib.hid (show ofL (whr (btw lo hi) 256) = spn lo hi from rfl)
  generalize ofL (whr (btw lo hi) 256) = z at HS ⊢
  go_wp2
  refine bodyPost_ret (v := setV z) (back_set Tryz.results98 rfl (set_four B5.out _ _ _ _)) rfl ⟨by rw [HS.out], ?_⟩
  exact grown_set (grown_set (grown_set (grown_set G3.out _ _ HR.out) _ _ HR.out) _ _ HR.out) _ _ HR.out
end Go.Proofs.YtlkjejmmoalliaaGreatDoor

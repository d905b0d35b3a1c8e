/- Walks of layer 6: the closures over words. Walks of layer 6: the four words of a set, made one by one; Union, Not. -/
import Derived.Test.YtlkjejmmoalliaaGreatDoorClsPlainB
namespace Go.Proofs.YtlkjejmmoalliaaGreatDoor
open Go.RowKit

theorem cOr (s t : BitVec 256) (i p q : Nat) (w : World) (hi : i < 4) (hs : SetAt w p s) (ht : SetAt w q t) :
    Calls Tryz.prog 99 #[.int .i64 i, .pointer (some ⟨p, 0, none⟩), .pointer (some ⟨q, 0, none⟩)] w fun e w' => e = .returned (.int .u64 (wd (un s t) i)) ∧ w.grownBy w' none := by
  have h1 := hs.at i hi
  have h2 := ht.at i hi
  have H := Lib.hid (wd_or s t i)
  clear hs ht
  go_enter Tryz.func99, Tryz.ntmps99
  go_wp2
  go_quiet (fail)
  go_wp2
  go_ret
  exact ⟨congrArg (fun x => Ending.returned (Value.int IntKind.u64 x)) H.out, grown_drewN (World.grownBy.refl _ _) _⟩

theorem cNot1 (s : BitVec 256) (i p : Nat) (w : World) (hi : i < 4) (hs : SetAt w p s) :
    Calls Tryz.prog 92 #[.int .i64 i, .pointer (some ⟨p, 0, none⟩)] w fun e w' => e = .returned (.int .u64 (wd (no s) i)) ∧ w = w' := by
  have h1 := hs.at i hi
  have H := Lib.hid (wd_not s i hi)
  clear hs
  go_enter Tryz.func92, Tryz.ntmps92
  go_wp2
  go_ret
  all_goals exact ⟨congrArg (fun x => Ending.returned (Value.int IntKind.u64 x)) H.out, rfl⟩
end Go.Proofs.YtlkjejmmoalliaaGreatDoor

namespace Go.Proofs.YtlkjejmmoalliaaGreatDoor
open Go.RowKit

set_option maxHeartbeats 1000000 in
theorem cWords (fn : Nat) (cap : Array Value) (A : Nat → Array Value) (hA : ∀ i : Nat, #[.int .i64 i] ++ cap = A i) (s : BitVec 256) (w : World)
    (hent : ∀ args w, (callFunc fn args).run Tryz.prog w = .ok (.enter fn args) w)
    (hcall : ∀ i, i < 4 → ∀ wr, w.grownBy wr none → Calls Tryz.prog fn (A i) wr fun e w' => e = .returned (.int .u64 (wd s i)) ∧ wr.grownBy w' none) :
    Calls Tryz.prog 91 #[.func (.func fn) #[] cap] w fun e w' => e = .returned (setV s) ∧ w.grownBy w' none := by
  have HC := Lib.hid (show ∀ i, i < 4 → ∀ wr, w.grownBy wr none → Calls Tryz.prog fn (#[.int .i64 i] ++ cap) wr fun e w' => e = .returned (.int .u64 (wd s i)) ∧ wr.grownBy w' none from fun i hi wr hg => by rw [hA]; exact hcall i hi wr hg)
  clear hcall hA
  go_enter Tryz.func91, Tryz.ntmps91
  go_wp2
  have B1 := heap_alloc2_old w (.cells #[.int .u64 0, .int .u64 0, .int .u64 0, .int .u64 0] 25) (.cells #[.int .u64 0, .int .u64 0, .int .u64 0, .int .u64 0] 25)
  have B2 := heap_alloc2_new w (.cells #[.int .u64 0, .int .u64 0, .int .u64 0, .int .u64 0] 25) (.cells #[.int .u64 0, .int .u64 0, .int .u64 0, .int .u64 0] 25)
  have G := (World.grownBy_alloc w (.cells #[.int .u64 0, .int .u64 0, .int .u64 0, .int .u64 0] 25) none).trans (World.grownBy_alloc _ (.cells #[.int .u64 0, .int .u64 0, .int .u64 0, .int .u64 0] 25) none)
  generalize ((w.alloc _).alloc _) = w1 at B1 B2 G ⊢
  have hr : w.heap.size ≤ w.heap.size := Nat.le_refl _
  have hp : w.heap.size ≤ w.heap.size + 1 := Nat.le_succ _
  have hne : w.heap.size ≠ w.heap.size + 1 := by omega
  obtain ⟨r, er⟩ : ∃ r, r = w.heap.size := ⟨_, rfl⟩
  obtain ⟨p, ep⟩ : ∃ p, p = w.heap.size + 1 := ⟨_, rfl⟩
  rw [← ep] at B2 hp hne ⊢
  rw [← er] at B1 hne ⊢
  have HP := Lib.hid hp
  have HR := Lib.hid (show w.heap.size ≤ r by omega)
  have B1' := Lib.hid B1; have B2' := Lib.hid B2; have G' := Lib.hid G
  clear hr hp er ep B1 B2 G
  go_loopw [4, 5] (fun _ i wr => ∃ k : Nat, k ≤ 4 ∧ i = .int .i64 k ∧ Hid (w.grownBy wr none) ∧ Hid (wr.heap[r]? = some (.cells (outC s 0) 25 (0, 0))) ∧ Hid (wr.heap[p]? = some (.cells (outC s k) 25 (0, 0)))) (fun _ i _ => 4 - (intOf i).toNat)
  case atStart => exact ⟨0, by omega, rfl, G', B1', B2'⟩
  case round =>
    obtain ⟨k, hk, rfl, hG, hB1, hB2⟩ := hrel
    by_cases hlt : k < 4
    · go_wp2_with fail
      refine (HC.out k hlt wr hG.out).mono ?_
      rintro e w2 ⟨rfl, g2⟩
      have hB1' := Lib.hid (heap_grown g2 hB1.out)
      have hB2' := Lib.hid (heap_grown g2 hB2.out)
      have hG' := Lib.hid (hG.out.trans g2)
      have c0 := (cell_of_row w2 p k _ _ _ hB2'.out).trans (outC_get s k hlt)
      have f0 := four_free hB2'.out k
      clear hG hB1 hB2 g2
      go_wp2
      go_roundw
      case rel => exact ⟨k + 1, by omega, by go_num, Lib.hid (grown_set hG'.out k _ HP.out), Lib.hid ((heap_setCell_other w2 _ r _ hne).trans hB1'.out), Lib.hid ((heap_setCell_same w2 p k _ _ _ hB2'.out).trans (by rw [outC_set s k hlt]))⟩
      case measure => simp [intOf]; omega
    · obtain rfl : k = 4 := by omega
      obtain ⟨p0, p1, p2, p3⟩ := four_cells hB2.out
      obtain ⟨r0, r1, r2, r3⟩ := four_cells hB1.out
      have fr := four_free hB1.out
      simp only [Nat.lt_irrefl, Nat.not_lt_zero, if_false, if_true, Nat.zero_lt_succ, Nat.reduceLT] at p0 p1 p2 p3 r0 r1 r2 r3
      go_wp2
      refine bodyPost_ret (v := setV s) (back_set Tryz.results91 rfl (set_four hB1.out _ _ _ _)) rfl ⟨rfl, ?_⟩
      exact grown_set (grown_set (grown_set (grown_set hG.out _ _ HR.out) _ _ HR.out) _ _ HR.out) _ _ HR.out

theorem cNot2 (s : BitVec 256) (i p : Nat) (w : World) (hi : i < 4) (hs : SetAt w p s) :
    Calls Tryz.prog 92 #[.int .i64 i, .pointer (some ⟨p, 0, none⟩)] w fun e w' => e = .returned (.int .u64 (wd (no s) i)) ∧ w.grownBy w' none :=
  (cNot1 s i p w hi hs).mono fun _ _ ⟨he, hw⟩ => ⟨he, by subst hw; exact World.grownBy.refl _ _⟩

set_option maxHeartbeats 1000000 in
theorem cUnion (s t : BitVec 256) (w : World) :
    Calls Tryz.prog 90 #[setV s, setV t] w fun e w' => e = .returned (setV (un s t)) ∧ w.grownBy w' none := by
  have hmf : ∀ (fn : Fn) (first cap : Array Value) (w : World), (Instr.makeFunc fn first cap).run Tryz.prog w = .ok (.func fn first cap) w := fun _ _ _ _ => rfl
  have e1 : ∀ args w, (callFunc 99 args).run Tryz.prog w = .ok (.enter 99 args) w := enters_of Tryz.func99 (by kernel_rfl) rfl
  have E1 := Lib.hid e1
  clear e1
  go_enter Tryz.func90, Tryz.ntmps90
  go_upto_region 1 with fail
  obtain ⟨b1, b2, b3, g⟩ := heap3 w (.cells #[.int .u64 (wd s 0), .int .u64 (wd s 1), .int .u64 (wd s 2), .int .u64 (wd s 3)] 25) (.cells #[.int .u64 (wd t 0), .int .u64 (wd t 1), .int .u64 (wd t 2), .int .u64 (wd t 3)] 25) (.cells #[.int .u64 0, .int .u64 0, .int .u64 0, .int .u64 0] 25)
  generalize (((w.alloc _).alloc _).alloc _) = w1 at b1 b2 b3 g ⊢
  obtain ⟨p, ep⟩ : ∃ p, p = w.heap.size := ⟨_, rfl⟩
  obtain ⟨q, eq⟩ : ∃ q, q = w.heap.size + 1 := ⟨_, rfl⟩
  obtain ⟨r, er⟩ : ∃ r, r = w.heap.size + 1 + 1 := ⟨_, rfl⟩
  have HR := Lib.hid (show w.heap.size ≤ r by omega)
  rw [← er] at b3 ⊢
  rw [← eq] at b2 ⊢
  rw [← ep] at b1 ⊢
  have SA := Lib.hid (set_of_block b1); have SB := Lib.hid (set_of_block b2); have B3 := Lib.hid b3; have G := Lib.hid g
  clear b1 b2 b3 g ep eq er
  have C := Lib.hid (fun i (hi : i < 4) wr (hg : w1.grownBy wr none) => cOr s t i p q wr hi (SA.out.grown hg) (SB.out.grown hg))
  go_wp2_with fail
  refine (cWords 99 #[.pointer (some ⟨p, 0, none⟩), .pointer (some ⟨q, 0, none⟩)] (fun i => #[.int .i64 i, .pointer (some ⟨p, 0, none⟩), .pointer (some ⟨q, 0, none⟩)]) (fun i => by simp) (un s t) w1 E1.out C.out).mono ?_
  rintro e w2 ⟨rfl, g2⟩
  have B4 := Lib.hid (heap_grown g2 B3.out)
  obtain ⟨r0, r1, r2, r3⟩ := four_cells B4.out
  have fr := four_free B4.out
  have G2 := Lib.hid (G.out.trans g2)
  clear g2
  go_wp2
  refine bodyPost_ret (v := setV (un s t)) (back_set Tryz.results90 rfl (set_four B4.out _ _ _ _)) rfl ⟨rfl, ?_⟩
  exact grown_set (grown_set (grown_set (grown_set G2.out _ _ HR.out) _ _ HR.out) _ _ HR.out) _ _ HR.out

set_option maxHeartbeats 1000000 in
theorem cNot (s : BitVec 256) (w : World) :
    Calls Tryz.prog 83 #[setV s] w fun e w' => e = .returned (setV (no s)) ∧ w.grownBy w' none := by
  have hmf : ∀ (fn : Fn) (first cap : Array Value) (w : World), (Instr.makeFunc fn first cap).run Tryz.prog w = .ok (.func fn first cap) w := fun _ _ _ _ => rfl
  have e1 : ∀ args w, (callFunc 92 args).run Tryz.prog w = .ok (.enter 92 args) w := enters_of Tryz.func92 (by kernel_rfl) rfl
  have E1 := Lib.hid e1
  clear e1
  go_enter Tryz.func83, Tryz.ntmps83
  go_upto_region 1 with fail
  obtain ⟨b1, b3, g⟩ := heap2 w (.cells #[.int .u64 (wd s 0), .int .u64 (wd s 1), .int .u64 (wd s 2), .int .u64 (wd s 3)] 25) (.cells #[.int .u64 0, .int .u64 0, .int .u64 0, .int .u64 0] 25)
  generalize ((w.alloc _).alloc _) = w1 at b1 b3 g ⊢
  obtain ⟨p, ep⟩ : ∃ p, p = w.heap.size := ⟨_, rfl⟩
  obtain ⟨r, er⟩ : ∃ r, r = w.heap.size + 1 := ⟨_, rfl⟩
  have HR := Lib.hid (show w.heap.size ≤ r by omega)
  rw [← er] at b3 ⊢
  rw [← ep] at b1 ⊢
  have SA := Lib.hid (set_of_block b1); have B3 := Lib.hid b3; have G := Lib.hid g
  clear b1 b3 g ep er
  have C := Lib.hid (fun i (hi : i < 4) wr (hg : w1.grownBy wr none) => cNot2 s i p wr hi (SA.out.grown hg))
  go_wp2_with fail
  refine (cWords 92 #[.pointer (some ⟨p, 0, none⟩)] (fun i => #[.int .i64 i, .pointer (some ⟨p, 0, none⟩)]) (fun i => by simp) (no s) w1 E1.out C.out).mono ?_
  rintro e w2 ⟨rfl, g2⟩
  have B4 := Lib.hid (heap_grown g2 B3.out)
  obtain ⟨r0, r1, r2, r3⟩ := four_cells B4.out
  have fr := four_free B4.out
  have G2 := Lib.hid (G.out.trans g2)
  clear g2
  go_wp2
  refine bodyPost_ret (v := setV (no s)) (back_set Tryz.results83 rfl (set_four B4.out _ _ _ _)) rfl ⟨rfl, ?_⟩
  exact grown_set (grown_set (grown_set (grown_set G2.out _ _ HR.out) _ _ HR.out) _ _ HR.out) _ _ HR.out
end Go.Proofs.YtlkjejmmoalliaaGreatDoor

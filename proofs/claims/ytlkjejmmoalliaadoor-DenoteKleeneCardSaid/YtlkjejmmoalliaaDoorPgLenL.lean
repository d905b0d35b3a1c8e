/- How long a node's code is, told; how many nodes there are. -/
import Derived.Test.YtlkjejmmoalliaaDoorPgMem
namespace Go.Proofs.YtlkjejmmoalliaaDoor
open Go.RowKit

set_option maxRecDepth 100000 in
set_option maxHeartbeats 4000000 in
theorem cLeft : ∀ (N : Nat) (n : Ni) (t : Int) (a : Option Addr) (m k : Nat) (w : World), 0 ≤ t → t < N → N ≤ 200 → KidsE w (.slice a m k) n.kids →
    Calls Tryd.prog 26 #[niV n (.slice a m k), .int .i64 t] w fun e w' => e = .returned (.int .i64 (lftN n t)) ∧ w.grownBy w' none := by
  intro N
  induction N with
  | zero => intro n t a m k w h0 h _ _; omega
  | succ N ih =>
    intro n t a m k w h0 hN hN2 hK
    obtain rfl := hK.len
    have HI := Lib.hid (fun n t a m k w h0 h hk => ih n t a m k w h0 h (by omega) hk)
    have HZ := Lib.hid (lft_eq n t)
    generalize lftN n t = z at HZ ⊢
    obtain ⟨l, hl'⟩ : ∃ l, n.kids = l := ⟨_, rfl⟩
    rw [hl'] at hK HZ ⊢
    clear ih hl'
    have ga := World.grownBy_alloc w (.cells #[.int .i64 n.kind, .int .i64 n.index, .int .u64 (wd n.set 0), .int .u64 (wd n.set 1), .int .u64 (wd n.set 2), .int .u64 (wd n.set 3), .slice a l.length k] 27) none
    have B1 := Lib.hid (heap_alloc_new w (.cells #[.int .i64 n.kind, .int .i64 n.index, .int .u64 (wd n.set 0), .int .u64 (wd n.set 1), .int .u64 (wd n.set 2), .int .u64 (wd n.set 3), .slice a l.length k] 27))
    have K1 := Lib.hid (hK.grown ga)
    have G1 := Lib.hid ga
    clear ga hK
    go_enter Tryd.func26, Tryd.ntmps26
    go_upto_region 1 with fail
    generalize w.alloc _ = w1 at B1 K1 G1 ⊢
    generalize w.heap.size = q at B1 ⊢
    obtain ⟨c0, c1, c2, c3, c4, c5, c6⟩ := seven_cells B1.out
    go_wp2
    clear c0 c1 c2 c3 c4 c5 c6
    go_loopw [1, 6, 12] (fun v _ i wr => ∃ (j : Nat) (x : Int), j ≤ l.length ∧ i = .int .i64 j ∧ v = .int .i64 x ∧ -1 ≤ x ∧ x + j ≤ t - 1 ∧ Hid (lftL l (t - 1) = lftL (l.drop j) x) ∧ Hid (w1.grownBy wr none)) (fun _ _ i _ => l.length - (intOf i).toNat)
    case atStart => exact ⟨0, t - 1, Nat.zero_le _, rfl, rfl, by omega, by omega, Lib.hid (by rw [List.drop_zero]), Lib.hid (World.grownBy.refl _ _)⟩
    case round =>
      obtain ⟨j, x, hj, rfl, rfl, hx1, hx2, hF, hG⟩ := hrel
      by_cases hlt : j < l.length
      · obtain ⟨n', hn'⟩ : ∃ n', l[j]? = some n' := ⟨_, List.getElem?_eq_getElem hlt⟩
        have HD := Lib.hid (show lftL (l.drop j) x = if x < 0 then -1 else lftL (l.drop (j + 1)) (lftN n' x) by
          obtain ⟨hj', e⟩ := List.getElem?_eq_some_iff.1 hn'
          rw [List.drop_eq_getElem_cons hj', e, lftL])
        obtain ⟨b0, off, x0, y0, z0, rfl, hc, hk'⟩ := (K1.out.grown hG.out).at hn'
        have c0 : wr.cell? ⟨b0, off + j * 7, none⟩ = some (.int .i64 n'.kind) := hc 0 _ rfl
        have c1 := hc 1 _ rfl
        have c2 := hc 2 _ rfl
        have c3 := hc 3 _ rfl
        have c4 := hc 4 _ rfl
        have c5 := hc 5 _ rfl
        have c6 := hc 6 _ rfl
        have ga := World.grownBy_alloc wr (.cells #[.int .i64 n'.kind, .int .i64 n'.index, .int .u64 (wd n'.set 0), .int .u64 (wd n'.set 1), .int .u64 (wd n'.set 2), .int .u64 (wd n'.set 3), .slice x0 y0 z0] 27) none
        have B3 := Lib.hid (heap_alloc_new wr (.cells #[.int .i64 n'.kind, .int .i64 n'.index, .int .u64 (wd n'.set 0), .int .u64 (wd n'.set 1), .int .u64 (wd n'.set 2), .int .u64 (wd n'.set 3), .slice x0 y0 z0] 27))
        have K3 := Lib.hid (hk'.grown ga)
        have G3 := Lib.hid (hG.out.trans ga)
        clear hc hk' hn' ga
        go_upto_region 5 with fail
        clear c0 c1 c2 c3 c4 c5 c6
        generalize wr.alloc _ = w4 at B3 K3 G3 ⊢
        generalize wr.heap.size = q4 at B3 ⊢
        obtain ⟨c0, c1, c2, c3, c4, c5, c6⟩ := seven_cells B3.out
        by_cases hx : x < 0
        · have dx : decide (x < 0) = true := by simpa using hx
          have HE := Lib.hid (show (-1 : Int) = z by rw [HZ.out, hF.out, HD.out, if_pos hx])
          go_wp2
          go_ret
          exact ⟨ret_int HE.out, G1.out.trans G3.out⟩
        · have dx : decide (x < 0) = false := by simpa using hx
          have HE := Lib.hid (show lftL l (t - 1) = lftL (l.drop (j + 1)) (lftN n' x) by rw [hF.out, HD.out, if_neg hx])
          have CI := Lib.hid (fun w => HI.out n' x x0 y0 z0 w (by omega) (by omega))
          obtain ⟨y1, y2, -⟩ := lftN_is n' x (by omega)
          generalize lftN n' x = y at HE CI y1 y2
          clear hF HD
          go_wp2_with (go_at_call 26; refine (CI.out _ K3.out).mono ?_; rintro e w5 ⟨rfl, g5⟩; have G5 := Lib.hid (G3.out.trans g5); clear g5)
          go_roundw
          case rel => exact ⟨j + 1, y, by omega, by go_num, rfl, by omega, by omega, HE, G5⟩
          case measure => simp [intOf]; omega
      · obtain rfl : j = l.length := by omega
        have HE := Lib.hid (show x = z by rw [HZ.out, hF.out, List.drop_length, lftL])
        go_wp2
        go_ret
        exact ⟨ret_int HE.out, G1.out.trans hG.out⟩

set_option maxHeartbeats 1000000 in
theorem cGreatT (n : Ni) (t : Int) (a : Option Addr) (m k : Nat) (w : World) (h0 : 0 ≤ t) (h1 : t ≤ 199) (hK : KidsE w (.slice a m k) n.kids) :
    Calls Tryd.prog 7 #[niV n (.slice a m k), .int .i64 t] w fun e w' => e = .returned (.bool (decide (lftN n t < 0))) ∧ w.grownBy w' none := by
  have HL := Lib.hid (fun w h => cLeft 200 n t a m k w h0 (by omega) (by omega) h)
  have ga := World.grownBy_alloc w (.cells #[.int .i64 n.kind, .int .i64 n.index, .int .u64 (wd n.set 0), .int .u64 (wd n.set 1), .int .u64 (wd n.set 2), .int .u64 (wd n.set 3), .slice a m k] 27) none
  have B1 := Lib.hid (heap_alloc_new w (.cells #[.int .i64 n.kind, .int .i64 n.index, .int .u64 (wd n.set 0), .int .u64 (wd n.set 1), .int .u64 (wd n.set 2), .int .u64 (wd n.set 3), .slice a m k] 27))
  have K1 := Lib.hid (hK.grown ga)
  have G1 := Lib.hid ga
  clear ga hK
  go_enter Tryd.func7, Tryd.ntmps7
  go_upto_region 1 with fail
  generalize w.alloc _ = w1 at B1 K1 G1 ⊢
  generalize w.heap.size = q at B1 ⊢
  obtain ⟨c0, c1, c2, c3, c4, c5, c6⟩ := seven_cells B1.out
  go_wp2_with (go_at_call 26; refine (HL.out _ K1.out).mono ?_; rintro e w2 ⟨rfl, g2⟩; have G2 := Lib.hid (G1.out.trans g2); clear g2)
  go_ret
  exact ⟨rfl, G2.out⟩
theorem cGreat (n : Ni) (a : Option Addr) (m k : Nat) (w : World) (hK : KidsE w (.slice a m k) n.kids) :
    Calls Tryd.prog 7 #[niV n (.slice a m k), .int .i64 120] w fun e w' => e = .returned (.bool (decide (lftN n 120 < 0))) ∧ w.grownBy w' none := cGreatT n 120 a m k w (by omega) (by omega) hK
end Go.Proofs.YtlkjejmmoalliaaDoor

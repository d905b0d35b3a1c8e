/- The document's own: whether a node is right, how long its code is. -/
import Derived.Test.YtlkjejmmoalliaaDoorPgMem
import Derived.Deep.CutRange
import Derived.Deep.CutBlock
namespace Go.Proofs.YtlkjejmmoalliaaDoor
open Go.RowKit

theorem rgtL_take {l : List Ni} {j : Nat} {n : Ni} (h : l[j]? = some n) : rgtL (l.take (j + 1)) = (rgtL (l.take j) && rgtN n) := by
  rw [List.take_add_one, h, rgtL_append]; simp [rgtL]
theorem rgtL_no {l : List Ni} {j : Nat} {n : Ni} (h : l[j]? = some n) (hn : rgtN n = false) : rgtL l = false := by
  cases hl : rgtL l
  · rfl
  · have := rgtL_mem hl (List.mem_of_getElem? h); rw [hn] at this; cases this

set_option maxRecDepth 100000 in
set_option maxHeartbeats 8000000 in
theorem dRight : ∀ (N : Nat) (n : Ni) (a : Option Addr) (m k : Nat) (w : World), szN n ≤ N → N ≤ 200 → KidsE w (.slice a m k) n.kids →
    Calls Tryd.prog 9 #[niV n (.slice a m k)] w fun e w' => e = .returned (.bool (rgtN n)) ∧ w.grownBy w' none := by
  intro N
  induction N with
  | zero => intro n a m k w h _ _; rw [sz_eq] at h; omega
  | succ N ih =>
    intro n a m k w hN hN2 hK
    obtain rfl := hK.len
    have HI := Lib.hid (fun n a m k w h hk => ih n a m k w h (by omega) hk)
    have hz := sz_eq n
    have hl200 : n.kids.length ≤ 200 := by have := len_le_sz n.kids; omega
    have HR := Lib.hid (rgt_eq n)
    obtain ⟨l, hl'⟩ : ∃ l, n.kids = l := ⟨_, rfl⟩
    rw [hl'] at hK hz hl200 HR ⊢
    have HS := Lib.hid (show ∀ n' ∈ l, szN n' ≤ N from fun n' h' => by have := szL_mem h'; omega)
    clear ih hN hN2 hz hl'
    generalize rgtN n = z at HR ⊢
    have ga := World.grownBy_alloc w (.cells #[.int .i64 n.kind, .int .i64 n.index, .int .u64 (wd n.set 0), .int .u64 (wd n.set 1), .int .u64 (wd n.set 2), .int .u64 (wd n.set 3), .slice a l.length k] 32) none
    have B1 := Lib.hid (heap_alloc_new w (.cells #[.int .i64 n.kind, .int .i64 n.index, .int .u64 (wd n.set 0), .int .u64 (wd n.set 1), .int .u64 (wd n.set 2), .int .u64 (wd n.set 3), .slice a l.length k] 32))
    have K1 := Lib.hid (hK.grown ga)
    have G1 := Lib.hid ga
    clear ga hK
    obtain ⟨x, hx⟩ : ∃ x, n.kind = x := ⟨_, rfl⟩
    obtain ⟨i, hi⟩ : ∃ i, n.index = i := ⟨_, rfl⟩
    obtain ⟨s, hs⟩ : ∃ s, n.set = s := ⟨_, rfl⟩
    have e0 : niV n (.slice a l.length k) = .agg #[.int .i64 x, .int .i64 i, .int .u64 (wd s 0), .int .u64 (wd s 1), .int .u64 (wd s 2), .int .u64 (wd s 3), .slice a l.length k] := by unfold niV; rw [hx, hi, hs]
    rw [e0]
    rw [hx, hi, hs] at B1 G1 K1
    rw [hx, hi, hs] at HR
    clear hx hi hs e0
    by_cases h9 : 0 ≤ x ∧ x ≤ 9
    rotate_left
    · have HZ := Lib.hid (show false = z by
        rw [HR.out]
        cases hk : kidsOk x l.length
        · rfl
        · exact absurd (kids_kind hk) h9)
      rcases Int.lt_or_le x 0 with hx | hx
      · have d1 : decide (x < 0) = true := by simpa using hx
        go_enter Tryd.func9, Tryd.ntmps9
        go_upto_region 1 with fail
        generalize w.alloc _ = w1 at B1 K1 G1 ⊢
        generalize w.heap.size = q at B1 ⊢
        obtain ⟨c0, c1, c2, c3, c4, c5, c6⟩ := seven_cells B1.out
        go_wp2
        go_ret
        exact ⟨ret_bool HZ.out, G1.out⟩
      · have d1 : decide (x < 0) = false := by simpa using hx
        have d2 : decide (x > 9) = true := by simp; omega
        go_enter Tryd.func9, Tryd.ntmps9
        go_upto_region 1 with fail
        generalize w.alloc _ = w1 at B1 K1 G1 ⊢
        generalize w.heap.size = q at B1 ⊢
        obtain ⟨c0, c1, c2, c3, c4, c5, c6⟩ := seven_cells B1.out
        go_wp2
        go_ret
        exact ⟨ret_bool HZ.out, G1.out⟩
    have d1 : decide (x < 0) = false := by simp; omega
    have d2 : decide (x > 9) = false := by simp; omega
    go_enter Tryd.func9, Tryd.ntmps9
    go_upto_region 1 with fail
    generalize w.alloc _ = w1 at B1 K1 G1 ⊢
    generalize w.heap.size = q at B1 ⊢
    obtain ⟨c0, c1, c2, c3, c4, c5, c6⟩ := seven_cells B1.out
    go_upto_block 0 with fail
    go_cut [2] from 20 to 33 (fun s2 wx => s2 = .bool false ∧ Hid (kidsOk x l.length = true) ∧ wx = w1)
    case first =>
      have m0 : ((l.length : Int) != 0) = !decide (l.length = 0) := by rw [Bool.eq_iff_iff]; simp
      have m1 : ((l.length : Int) != 1) = !decide (l.length = 1) := by rw [Bool.eq_iff_iff]; simp; omega
      have m2 : decide ((l.length : Int) < 2) = !decide (2 ≤ l.length) := by rw [Bool.eq_iff_iff]; simp; omega
      cases hk : kidsOk x l.length
      · have HZ := Lib.hid (show false = z by rw [HR.out, hk]; rfl)
        have hc : x = 0 ∨ x = 1 ∨ x = 2 ∨ x = 3 ∨ x = 4 ∨ x = 5 ∨ x = 6 ∨ x = 7 ∨ x = 8 ∨ x = 9 := by omega
        clear HR
        rcases hc with rfl | rfl | rfl | rfl | rfl | rfl | rfl | rfl | rfl | rfl
        all_goals
          first
            | (have q0 : decide (l.length = 0) = false := by simpa [kidsOk] using hk
               rw [q0] at m0)
            | (have q0 : decide (2 ≤ l.length) = false := by simpa [kidsOk] using hk
               rw [q0] at m2)
            | (have q0 : decide (l.length = 1) = false := by simpa [kidsOk] using hk
               rw [q0] at m1)
          clear hk q0 d1 d2 h9
          go_wp2
          go_ret
          exact ⟨ret_bool HZ.out, G1.out⟩
      · have HK := Lib.hid hk
        have hc : x = 0 ∨ x = 1 ∨ x = 2 ∨ x = 3 ∨ x = 4 ∨ x = 5 ∨ x = 6 ∨ x = 7 ∨ x = 8 ∨ x = 9 := by omega
        clear HR
        rcases hc with rfl | rfl | rfl | rfl | rfl | rfl | rfl | rfl | rfl | rfl
        all_goals
          first
            | (have q0 : decide (l.length = 0) = true := by simpa [kidsOk] using hk
               rw [q0] at m0)
            | (have q0 : decide (2 ≤ l.length) = true := by simpa [kidsOk] using hk
               rw [q0] at m2)
            | (have q0 : decide (l.length = 1) = true := by simpa [kidsOk] using hk
               rw [q0] at m1)
          clear hk q0 d1 d2 h9
          go_wp2
          go_meet
          exact ⟨rfl, HK, rfl⟩
    case rest =>
      obtain ⟨rfl, hk, rfl⟩ := hcut
      rw [hk.out, Bool.true_and] at HR
      clear hk h9 d1 d2
      have HB2 := Lib.hid (heap_grown (World.grownBy_alloc wc (.cells #[.int .u64 0, .int .u64 0, .int .u64 0, .int .u64 0] 23) none) B1.out)
      have ga := World.grownBy_alloc wc (.cells #[.int .u64 0, .int .u64 0, .int .u64 0, .int .u64 0] 23) none
      have K2 := Lib.hid (K1.out.grown ga)
      have G2 := Lib.hid (G1.out.trans ga)
      have BN := Lib.hid (heap_alloc_new wc (.cells #[.int .u64 0, .int .u64 0, .int .u64 0, .int .u64 0] 23))
      clear ga K1 G1 B1
      go_upto_region 18 with fail
      generalize wc.alloc _ = w2 at HB2 K2 G2 BN ⊢
      generalize wc.heap.size = q2 at BN ⊢
      clear c0 c1 c2 c3 c4 c5 c6
      obtain ⟨c0, c1, c2, c3, c4, c5, c6⟩ := seven_cells HB2.out
      obtain ⟨f0, f1, f2, f3⟩ := four_cells BN.out
      have HP : ∃ P, (idxOk x i && setOk x s) = P := ⟨_, rfl⟩
      obtain ⟨P, hP⟩ := HP
      rw [hP] at HR
      have HP := Lib.hid hP
      clear hP
      obtain ⟨Q, hQ⟩ : ∃ Q, Q = !P := ⟨_, rfl⟩
      have HQ := Lib.hid hQ
      clear hQ
      go_cut [68] from 35 to 68 (fun s68 wx => s68 = .bool Q ∧ wx = w2)
      case first =>
        have he := eq_run 23 Tryd.underlying23 s emp
        rw [setV_emp] at he
        have HS' : ∃ b4, (s == emp) = b4 := ⟨_, rfl⟩
        obtain ⟨b4, h4⟩ := HS'
        have hs : setOk x s = ((x == 1) || b4) := by unfold setOk; rw [h4]; rfl
        have hi0 : (i != 0) = !decide (i = 0) := by rw [Bool.eq_iff_iff]; simp
        have hi1 : decide (i < 1) = !decide (1 ≤ i) := by rw [Bool.eq_iff_iff]; simp
        have hi9 : decide (i > 9) = !decide (i ≤ 9) := by rw [Bool.eq_iff_iff]; simp
        rw [h4] at he
        clear h4 HR HB2 BN K2 G2 HI HS
        by_cases x7 : x = 7
        · subst x7
          have hq : idxOk 7 i = (decide (1 ≤ i) && decide (i ≤ 9)) := by unfold idxOk; rw [if_pos rfl, Bool.eq_iff_iff]; simp
          generalize decide (1 ≤ i) = b1 at hi1 hq
          generalize decide (i ≤ 9) = b9 at hi9 hq
          have HP := Lib.hid (show P = ((b1 && b9) && b4) by rw [← HP.out, hq, hs]; rfl)
          clear hq hs hi0
          cases b1 <;> cases b9 <;> cases b4
          all_goals
            go_wp2
            go_meet
            exact ⟨by rw [HQ.out, HP.out]; rfl, rfl⟩
        · have hq : idxOk x i = decide (i = 0) := by unfold idxOk; rw [if_neg x7]
          have n7 : (x != 7) = true := by simpa using x7
          have y7 : (x == 7) = false := by simpa using x7
          generalize decide (i = 0) = b0 at hi0 hq
          have HP := Lib.hid (show P = (b0 && ((x == 1) || b4)) by rw [← HP.out, hq, hs])
          have y1 : (x != 1) = !(x == 1) := rfl
          generalize (x == 1) = bx at HP y1
          clear hq hs hi1 hi9
          cases b0 <;> cases bx <;> cases b4
          all_goals
            go_wp2
            go_meet
            exact ⟨by rw [HQ.out, HP.out]; rfl, rfl⟩
      case rest =>
        obtain ⟨rfl, rfl⟩ := hcut
        obtain rfl : P = !Q := by rw [HQ.out, Bool.not_not]
        clear HQ
        cases Q
        rotate_left
        · have HZ := Lib.hid (show false = z by rw [HR.out]; rfl)
          go_wp2
          go_ret
          exact ⟨ret_bool HZ.out, G2.out⟩
        · have HZ := Lib.hid (show z = rgtL l by rw [HR.out]; rfl)
          clear HR HP f0 f1 f2 f3
          go_wp2
          clear c0 c1 c2 c3 c4 c5 c6
          go_loopw [6, 72] (fun _ i wr => ∃ j : Nat, j ≤ l.length ∧ i = .int .i64 j ∧ Hid (rgtL (l.take j) = true) ∧ Hid (wc.grownBy wr none)) (fun _ i _ => l.length - (intOf i).toNat)
          case atStart => exact ⟨0, Nat.zero_le _, rfl, Lib.hid (by rw [List.take_zero, rgtL]), Lib.hid (World.grownBy.refl _ _)⟩
          case round =>
            obtain ⟨j, hj, rfl, hT, hG⟩ := hrel
            by_cases hlt : j < l.length
            · obtain ⟨n', hn'⟩ : ∃ n', l[j]? = some n' := ⟨_, List.getElem?_eq_getElem hlt⟩
              have HT := Lib.hid (rgtL_take hn')
              have HNO := Lib.hid (fun h => rgtL_no hn' h)
              have HS' := Lib.hid (HS.out n' (List.mem_of_getElem? hn'))
              obtain ⟨b0, off, x0, y0, z0, rfl, hc, hk'⟩ := (K2.out.grown hG.out).at hn'
              have c0 : wr.cell? ⟨b0, off + j * 7, none⟩ = some (.int .i64 n'.kind) := hc 0 _ rfl
              have c1 := hc 1 _ rfl
              have c2 := hc 2 _ rfl
              have c3 := hc 3 _ rfl
              have c4 := hc 4 _ rfl
              have c5 := hc 5 _ rfl
              have c6 := hc 6 _ rfl
              have ga := World.grownBy_alloc wr (.cells #[.int .i64 n'.kind, .int .i64 n'.index, .int .u64 (wd n'.set 0), .int .u64 (wd n'.set 1), .int .u64 (wd n'.set 2), .int .u64 (wd n'.set 3), .slice x0 y0 z0] 32) none
              have B3 := Lib.hid (heap_alloc_new wr (.cells #[.int .i64 n'.kind, .int .i64 n'.index, .int .u64 (wd n'.set 0), .int .u64 (wd n'.set 1), .int .u64 (wd n'.set 2), .int .u64 (wd n'.set 3), .slice x0 y0 z0] 32))
              have K3 := Lib.hid (hk'.grown ga)
              have G3 := Lib.hid (hG.out.trans ga)
              have CI := Lib.hid (fun w => HI.out n' x0 y0 z0 w HS'.out)
              clear hc hk' hn' ga
              go_upto_region 23 with fail
              clear c0 c1 c2 c3 c4 c5 c6
              generalize wr.alloc _ = w4 at B3 K3 G3 ⊢
              generalize wr.heap.size = q4 at B3 ⊢
              obtain ⟨c0, c1, c2, c3, c4, c5, c6⟩ := seven_cells B3.out
              generalize rgtN n' = bn at CI HT HNO
              cases bn
              · have HE := Lib.hid (show false = z by rw [HZ.out, HNO.out rfl])
                go_wp2_with (go_at_call 9; refine (CI.out _ K3.out).mono ?_; rintro e w5 ⟨rfl, g5⟩; have G5 := Lib.hid (G3.out.trans g5); clear g5)
                go_ret
                exact ⟨ret_bool HE.out, G2.out.trans G5.out⟩
              · go_wp2_with (go_at_call 9; refine (CI.out _ K3.out).mono ?_; rintro e w5 ⟨rfl, g5⟩; have G5 := Lib.hid (G3.out.trans g5); clear g5)
                go_roundw
                case rel => exact ⟨j + 1, by omega, by go_num, Lib.hid (by rw [HT.out, hT.out]; rfl), G5⟩
                case measure => simp [intOf]; omega
            · obtain rfl : j = l.length := by omega
              have HE := Lib.hid (show true = z by rw [HZ.out]; have := hT.out; rw [List.take_length] at this; exact this.symm)
              go_wp2
              go_ret
              exact ⟨ret_bool HE.out, G2.out.trans hG.out⟩

end Go.Proofs.YtlkjejmmoalliaaDoor

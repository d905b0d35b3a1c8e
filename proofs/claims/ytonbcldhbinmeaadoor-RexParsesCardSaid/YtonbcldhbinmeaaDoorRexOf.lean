/- A law's sums: how many nodes and groups there are. -/
import Derived.Test.YtonbcldhbinmeaaDoorRexDS
namespace Go.Proofs.YtonbcldhbinmeaaDoor
open Go.RowKit

theorem grp_sizL (f : Nat → Bool) (l : List Nd) : cntL f l ≤ cntL (fun _ => true) l := by
  induction l with
  | nil => simp [cntL]
  | cons n l ih => rw [cntL, cntL]; have := cnt_le_siz f _ n (Nat.le_refl _); unfold sizN at this; omega
theorem ret_sums {a b c d : Nat} (h1 : a = c) (h2 : b = d) : Ending.returned (.tuple #[.int .i64 (a : Nat), .int .i64 (b : Nat)]) = .returned (.tuple #[.int .i64 (c : Nat), .int .i64 (d : Nat)]) := by rw [h1, h2]

set_option maxRecDepth 100000 in
set_option maxHeartbeats 4000000 in
theorem cSums : ∀ (N : Nat) (n : Nd) (a : Option Addr) (m k : Nat) (w : World), sizN n ≤ N → N ≤ 200 → Kids w (.slice a m k) n.kids →
    Calls Tryd.prog 12 #[ndV n (.slice a m k)] w fun e w' => e = .returned (.tuple #[.int .i64 (sizN n), .int .i64 (grpN n)]) ∧ w.grownBy w' none := by
  intro N
  induction N with
  | zero => intro n a m k w h _ _; rw [sizN, cntN_eq] at h; simp at h
  | succ N ih =>
    intro n a m k w hN hN2 hK
    obtain rfl := hK.len
    have HI := Lib.hid (fun n a m k w h hk => ih n a m k w h (by omega) hk)
    have hsz : sizN n = 1 + cntL (fun _ => true) n.kids := by rw [sizN, cntN_eq]; simp
    obtain ⟨x, hx⟩ : ∃ x : Nat, x = (if n.kind == 7 then 1 else 0) := ⟨_, rfl⟩
    have hgr : grpN n = x + cntL (fun k => k == 7) n.kids := by rw [grpN, cntN_eq, hx]
    have hgl := grp_sizL (fun k => k == 7) n.kids
    have HZ := Lib.hid hsz; have HG7 := Lib.hid hgr
    obtain ⟨l, hl⟩ : ∃ l, n.kids = l := ⟨_, rfl⟩
    rw [hl] at hK hsz hgl HZ HG7 ⊢
    have hc200 : cntL (fun _ => true) l ≤ 199 := by omega
    have hg200 : cntL (fun k => k == 7) l ≤ 199 := by omega
    have hl200 : l.length ≤ 200 := by have := len_le_cnt l; omega
    have HS := Lib.hid (show ∀ n' ∈ l, sizN n' ≤ N by
      intro n' h'; have := cntL_mem (fun _ => true) h'; simp only [sizN] at hsz hN ⊢; omega)
    have HSG := Lib.hid (show ∀ n' ∈ l, grpN n' ≤ 200 by
      intro n' h'; have := cntL_mem (fun k => k == 7) h'; simp only [grpN] at hsz hN ⊢; omega)
    have hx1 : x ≤ 1 := by rw [hx]; split <;> omega
    have hk7 : ((n.kind : Int) == 7) = (n.kind == 7) := by rw [Bool.eq_iff_iff]; simp; omega
    have hx7 : x = (if ((n.kind : Int) == 7) = true then 1 else 0) := by rw [hk7, hx]
    clear ih hN hN2 hsz hgl hl hk7 hx hgr
    have ga := World.grownBy_alloc w (.cells #[.int .i64 n.kind, .int .i64 n.index, .int .u64 (wd n.set 0), .int .u64 (wd n.set 1), .int .u64 (wd n.set 2), .int .u64 (wd n.set 3), .slice a l.length k] 35) none
    have B1 := Lib.hid (heap_alloc_new w (.cells #[.int .i64 n.kind, .int .i64 n.index, .int .u64 (wd n.set 0), .int .u64 (wd n.set 1), .int .u64 (wd n.set 2), .int .u64 (wd n.set 3), .slice a l.length k] 35))
    have K1 := Lib.hid (hK.grown ga)
    have G1 := Lib.hid ga
    clear ga hK
    cases hb : ((n.kind : Int) == 7)
    all_goals
      obtain ⟨y, hy⟩ : ∃ y : Nat, y = x := ⟨_, rfl⟩
      rw [← hy] at HG7 hx1
      rw [hb] at hx7
      simp only [if_true, if_false, Bool.false_eq_true] at hx7
      subst hx7
      have HY := Lib.hid hy
      clear hy
      go_enter Tryd.func12, Tryd.ntmps12
      go_upto_region 1 with fail
      generalize w.alloc _ = w1 at B1 K1 G1 ⊢
      generalize w.heap.size = q at B1 ⊢
      obtain ⟨c0, c1, c2, c3, c4, c5, c6⟩ := seven_cells B1.out
      go_wp2
      clear c0 c1 c2 c3 c4 c5 c6 hb
      go_loopw [4, 5, 7, 8, 9, 16] (fun v g _ _ _ i wr => ∃ j : Nat, j ≤ l.length ∧ i = .int .i64 j ∧ v = .int .i64 (1 + cntL (fun _ => true) (l.take j) : Nat) ∧ g = .int .i64 (y + cntL (fun k => k == 7) (l.take j) : Nat) ∧ Hid (w1.grownBy wr none)) (fun _ _ _ _ _ i _ => l.length - (intOf i).toNat)
      case atStart => exact ⟨0, Nat.zero_le _, rfl, by rw [List.take_zero, cntL]; rfl, by rw [List.take_zero, cntL, HY.out]; rfl, Lib.hid (World.grownBy.refl _ _)⟩
      case round =>
        obtain ⟨j, hj, rfl, rfl, rfl, hG⟩ := hrel
        have hle := cntL_take_le (fun _ => true) l j
        have hlg := cntL_take_le (fun k => k == 7) l j
        by_cases hlt : j < l.length
        · obtain ⟨n', hn'⟩ : ∃ n', l[j]? = some n' := ⟨_, List.getElem?_eq_getElem hlt⟩
          have HT := Lib.hid (cntL_take (fun _ => true) hn')
          have HTG := Lib.hid (cntL_take (fun k => k == 7) hn')
          have HS' := Lib.hid (HS.out n' (List.mem_of_getElem? hn'))
          have hsg := HSG.out n' (List.mem_of_getElem? hn')
          have hss : sizN n' ≤ 199 := by have := cntL_mem (fun _ => true) (List.mem_of_getElem? hn'); unfold sizN; omega
          obtain ⟨b0, off, x0, y0, z0, rfl, hc, hk'⟩ := (K1.out.grown hG.out).at hn'
          have c0 : wr.cell? ⟨b0, off + j * 7, none⟩ = some (.int .i64 n'.kind) := hc 0 _ rfl
          have c1 := hc 1 _ rfl
          have c2 := hc 2 _ rfl
          have c3 := hc 3 _ rfl
          have c4 := hc 4 _ rfl
          have c5 := hc 5 _ rfl
          have c6 := hc 6 _ rfl
          have ga := World.grownBy_alloc wr (.cells #[.int .i64 n'.kind, .int .i64 n'.index, .int .u64 (wd n'.set 0), .int .u64 (wd n'.set 1), .int .u64 (wd n'.set 2), .int .u64 (wd n'.set 3), .slice x0 y0 z0] 35) none
          have K3 := Lib.hid (hk'.grown ga)
          have G3 := Lib.hid (hG.out.trans ga)
          obtain ⟨u, hu⟩ : ∃ u, u = cntL (fun _ => true) (l.take j) := ⟨_, rfl⟩
          obtain ⟨ug, hug⟩ : ∃ u, u = cntL (fun k => k == 7) (l.take j) := ⟨_, rfl⟩
          obtain ⟨v, hv⟩ : ∃ v, v = sizN n' := ⟨_, rfl⟩
          obtain ⟨vg, hvg⟩ : ∃ v, v = grpN n' := ⟨_, rfl⟩
          have CI := Lib.hid (fun w => HI.out n' x0 y0 z0 w HS'.out)
          rw [← hu] at HT hle
          rw [← hug] at HTG hlg
          rw [← hu, ← hug]
          rw [show cntN (fun _ => true) n' = v from hv.symm] at HT
          rw [show cntN (fun k => k == 7) n' = vg from hvg.symm] at HTG
          rw [← hv] at hss
          rw [← hvg] at hsg
          rw [← hv, ← hvg] at CI
          clear hc hk' hn' ga hu hv hug hvg
          go_wp2_with (go_at_call 12; refine (CI.out _ K3.out).mono ?_; rintro e w5 ⟨rfl, g5⟩; have G5 := Lib.hid (G3.out.trans g5); clear g5)
          go_roundw
          case rel => exact ⟨j + 1, by omega, by go_num, by rw [HT.out]; go_num, by rw [HTG.out]; go_num, G5⟩
          case measure => simp [intOf]; omega
        · obtain rfl : j = l.length := by omega
          rw [List.take_length] at *
          go_wp2
          go_ret2
          exact ⟨ret_sums HZ.out.symm HG7.out.symm, G1.out.trans hG.out⟩
end Go.Proofs.YtonbcldhbinmeaaDoor

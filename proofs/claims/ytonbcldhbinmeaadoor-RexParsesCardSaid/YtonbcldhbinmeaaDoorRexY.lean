/- Same: nodes compared. -/
import Derived.Test.YtonbcldhbinmeaaDoorRexU
namespace Go.Proofs.YtonbcldhbinmeaaDoor
open Go.RowKit

theorem bool_int (a b : Nat) : ((a : Int) == (b : Int)) = (a == b) := by rw [Bool.eq_iff_iff]; simp only [beq_iff_eq]; omega
set_option maxRecDepth 100000 in
set_option maxHeartbeats 2000000 in
theorem cEqualFunc (N : Nat) (l l' : List Nd) (a a' : Option Addr) (k k' : Nat) (w : World) (hl : ∀ n ∈ l, sizN n ≤ N) (hll : l.length ≤ 200) (hK : Kids w (.slice a l.length k) l) (hK' : Kids w (.slice a' l'.length k') l')
    (ih : ∀ (n n' : Nd) (a : Option Addr) (m k : Nat) (a' : Option Addr) (m' k' : Nat) (w : World), sizN n ≤ N → Kids w (.slice a m k) n.kids → Kids w (.slice a' m' k') n'.kids →
      Calls Tryd.prog 15 #[ndV n (.slice a m k), ndV n' (.slice a' m' k')] w fun e w' => e = .returned (.bool (eqN n n')) ∧ w.grownBy w' none) :
    Calls Tryd.prog 29 #[.slice a l.length k, .slice a' l'.length k', .func (.func 15) #[] #[]] w fun e w' => e = .returned (.bool (eqL l l')) ∧ w.grownBy w' none := by
  have HI := Lib.hid ih; have HS := Lib.hid hl; have K := Lib.hid hK; have K' := Lib.hid hK'
  clear ih hl hK hK'
  have e1 : ∀ args w, (callFunc 15 args).run Tryd.prog w = .ok (.enter 15 args) w := enters_of Tryd.func15 (by kernel_rfl) rfl
  by_cases hlen : l.length = l'.length
  · have hd : ((l.length : Int) != (l'.length : Int)) = false := by rw [hlen]; simp
    have HE := Lib.hid e1
    have HL := Lib.hid hlen
    clear hlen e1
    go_enter Tryd.func29, Tryd.ntmps29
    go_wp2
    go_loopw [7, 8, 9, 17] (fun _ _ _ i wr => ∃ j : Nat, j ≤ l.length ∧ i = .int .i64 j ∧ Hid (eqL l l' = eqL (l.drop j) (l'.drop j)) ∧ Hid (w.grownBy wr none)) (fun _ _ _ i _ => l.length - (intOf i).toNat)
    case atStart => exact ⟨0, Nat.zero_le _, rfl, Lib.hid (by rw [List.drop_zero, List.drop_zero]), Lib.hid (World.grownBy.refl _ _)⟩
    case round =>
      obtain ⟨j, hj, rfl, hQ, hG⟩ := hrel
      by_cases hlt : j < l.length
      · have hlt' : j < l'.length := by have := HL.out; omega
        obtain ⟨n, hn⟩ : ∃ n, l[j]? = some n := ⟨_, List.getElem?_eq_getElem hlt⟩
        obtain ⟨n', hn'⟩ : ∃ n', l'[j]? = some n' := ⟨_, List.getElem?_eq_getElem hlt'⟩
        have HD := Lib.hid (hQ.out.trans (eqL_drop l l' j hn hn'))
        have HN := Lib.hid (HS.out n (List.mem_of_getElem? hn))
        obtain ⟨b0, off, x, y, z, rfl, hc, hk⟩ := (K.out.grown hG.out).at hn
        obtain ⟨b0', off', x', y', z', rfl, hc', hk'⟩ := (K'.out.grown hG.out).at hn'
        have ga := World.grownBy_alloc wr (.cells #[.int .i64 n.kind, .int .i64 n.index, .int .u64 (wd n.set 0), .int .u64 (wd n.set 1), .int .u64 (wd n.set 2), .int .u64 (wd n.set 3), .slice x y z] 28) none
        have gb := World.grownBy_alloc (wr.alloc (.cells #[.int .i64 n.kind, .int .i64 n.index, .int .u64 (wd n.set 0), .int .u64 (wd n.set 1), .int .u64 (wd n.set 2), .int .u64 (wd n.set 3), .slice x y z] 28)) (.cells #[.int .i64 n'.kind, .int .i64 n'.index, .int .u64 (wd n'.set 0), .int .u64 (wd n'.set 1), .int .u64 (wd n'.set 2), .int .u64 (wd n'.set 3), .slice x' y' z'] 28) none
        have c0 : wr.cell? ⟨b0, off + j * 7, none⟩ = some (.int .i64 n.kind) := hc 0 _ rfl
        have c1 := hc 1 _ rfl
        have c2 := hc 2 _ rfl
        have c3 := hc 3 _ rfl
        have c4 := hc 4 _ rfl
        have c5 := hc 5 _ rfl
        have c6 := hc 6 _ rfl
        have d0 := ga.cell (show wr.cell? ⟨b0', off' + j * 7, none⟩ = some (.int .i64 n'.kind) from hc' 0 _ rfl) (by simp)
        have d1 := ga.cell (hc' 1 _ rfl) (by simp)
        have d2 := ga.cell (hc' 2 _ rfl) (by simp)
        have d3 := ga.cell (hc' 3 _ rfl) (by simp)
        have d4 := ga.cell (hc' 4 _ rfl) (by simp)
        have d5 := ga.cell (hc' 5 _ rfl) (by simp)
        have d6 := ga.cell (hc' 6 _ rfl) (by simp)
        have G2 := Lib.hid (hG.out.trans (ga.trans gb))
        have CI := Lib.hid (HI.out n n' x y z x' y' z' _ HN.out (hk.grown (ga.trans gb)) (hk'.grown (ga.trans gb)))
        clear hn hn' hc hc' ga gb hk hk' hQ
        have he := HE.out
        cases hb : eqN n n' with
        | true =>
          rw [hb] at HD CI
          clear hb
          go_wp2_with (go_at_call 15; refine CI.out.mono ?_; rintro e w5 ⟨rfl, g5⟩; have G5 := Lib.hid (G2.out.trans g5); clear g5)
          go_roundw
          case rel => exact ⟨j + 1, by omega, by go_num, Lib.hid (by have := HD.out; rwa [Bool.true_and] at this), G5⟩
          case measure => simp [intOf]; omega
        | false =>
          rw [hb] at HD CI
          clear hb
          go_wp2_with (go_at_call 15; refine CI.out.mono ?_; rintro e w5 ⟨rfl, g5⟩; have G5 := Lib.hid (G2.out.trans g5); clear g5)
          go_ret
          exact ⟨ret_bool (by rw [HD.out]; rfl), G5.out⟩
      · obtain rfl : j = l.length := by omega
        have HT := Lib.hid (show eqL l l' = true by rw [hQ.out, List.drop_length, List.drop_of_length_le (by have := HL.out; omega)]; rw [eqL])
        go_wp2
        go_ret
        exact ⟨ret_bool (by rw [HT.out]), hG.out⟩
  · have hd : ((l.length : Int) != (l'.length : Int)) = true := by simp; omega
    have HF := Lib.hid (eqL_len l l' hlen)
    clear hlen e1
    go_enter Tryd.func29, Tryd.ntmps29
    go_wp2
    go_ret
    exact ⟨ret_bool (by rw [HF.out]), World.grownBy.refl _ _⟩
theorem len_le_cnt : ∀ l : List Nd, l.length ≤ cntL (fun _ => true) l
  | [] => by simp
  | n :: l => by have := len_le_cnt l; rw [cntL, cntN_eq]; simp; omega

set_option maxRecDepth 100000 in
set_option maxHeartbeats 2000000 in
theorem cSameP : ∀ (N : Nat) (n n' : Nd) (a : Option Addr) (m k : Nat) (a' : Option Addr) (m' k' : Nat) (w : World), sizN n ≤ N → N ≤ 200 → Kids w (.slice a m k) n.kids → Kids w (.slice a' m' k') n'.kids →
    Calls Tryd.prog 15 #[ndV n (.slice a m k), ndV n' (.slice a' m' k')] w fun e w' => e = .returned (.bool (eqN n n')) ∧ w.grownBy w' none := by
  intro N
  induction N with
  | zero => intro n n' a m k a' m' k' w h _ _; rw [sizN, cntN_eq] at h; simp at h
  | succ N ih =>
    intro n n' a m k a' m' k' w hN hN2 hK hK'
    obtain rfl := hK.len
    obtain rfl := hK'.len
    have HI := Lib.hid (fun n n' a m k a' m' k' w h h1 h2 => ih n n' a m k a' m' k' w h (by omega) h1 h2)
    have hsz : sizN n = 1 + cntL (fun _ => true) n.kids := by rw [sizN, cntN_eq]; simp
    have HQ := Lib.hid (eqN_eq n n')
    obtain ⟨l, hl⟩ : ∃ l, n.kids = l := ⟨_, rfl⟩
    obtain ⟨l', hl'⟩ : ∃ l', n'.kids = l' := ⟨_, rfl⟩
    rw [hl] at hK hsz HQ ⊢
    rw [hl'] at hK' HQ ⊢
    have HL := Lib.hid (show l.length ≤ 200 by have := len_le_cnt l; omega)
    have HS := Lib.hid (show ∀ n' ∈ l, sizN n' ≤ N by
      intro n' h'; have := cntL_mem (fun _ => true) h'; simp only [sizN] at hsz hN ⊢; omega)
    clear ih hN hN2 hsz hl hl'
    obtain ⟨b1, b2, gg⟩ := heap2 w (.cells #[.int .i64 n.kind, .int .i64 n.index, .int .u64 (wd n.set 0), .int .u64 (wd n.set 1), .int .u64 (wd n.set 2), .int .u64 (wd n.set 3), .slice a l.length k] 28) (.cells #[.int .i64 n'.kind, .int .i64 n'.index, .int .u64 (wd n'.set 0), .int .u64 (wd n'.set 1), .int .u64 (wd n'.set 2), .int .u64 (wd n'.set 3), .slice a' l'.length k'] 28)
    have B1 := Lib.hid b1; have B2 := Lib.hid b2; have G := Lib.hid gg
    have K := Lib.hid (hK.grown gg); have K' := Lib.hid (hK'.grown gg)
    have he := eq_run 25 Tryd.underlying25 n.set n'.set
    clear b1 b2 gg hK hK'
    go_enter Tryd.func15, Tryd.ntmps15
    go_upto_region 1 with fail
    generalize (w.alloc _).alloc _ = w1 at B1 B2 G K K' ⊢
    generalize w.heap.size + 1 = q at B2 ⊢
    generalize w.heap.size = p at B1 ⊢
    obtain ⟨c0, c1, c2, c3, c4, c5, c6⟩ := seven_cells B1.out
    obtain ⟨d0, d1, d2, d3, d4, d5, d6⟩ := seven_cells B2.out
    have hk := bool_int n.kind n'.kind
    have hi := bool_int n.index n'.index
    cases h1 : n.kind == n'.kind with
    | false =>
      have HR := Lib.hid (show eqN n n' = false by rw [HQ.out, h1]; rfl)
      rw [h1] at hk
      clear h1 hi he
      go_wp2
      go_ret
      exact ⟨ret_bool (by rw [HR.out]), G.out⟩
    | true =>
      rw [h1] at hk
      cases h2 : n.index == n'.index with
      | false =>
        have HR := Lib.hid (show eqN n n' = false by rw [HQ.out, h1, h2]; rfl)
        rw [h2] at hi
        clear h1 h2 he
        go_wp2
        go_ret
        exact ⟨ret_bool (by rw [HR.out]), G.out⟩
      | true =>
        rw [h2] at hi
        cases h3 : n.set == n'.set with
        | false =>
          have HR := Lib.hid (show eqN n n' = false by rw [HQ.out, h1, h2, h3]; rfl)
          rw [h3] at he
          clear h1 h2 h3
          go_wp2
          go_ret
          exact ⟨ret_bool (by rw [HR.out]), G.out⟩
        | true =>
          have HR := Lib.hid (show eqN n n' = eqL l l' by rw [HQ.out, h1, h2, h3]; rfl)
          rw [h3] at he
          clear h1 h2 h3
          have CE := Lib.hid (cEqualFunc N l l' a a' k k' w1 HS.out HL.out K.out K'.out HI.out)
          go_wp2_with (go_at_call 29; refine CE.out.mono ?_; rintro e w5 ⟨rfl, g5⟩; have G5 := Lib.hid (G.out.trans g5); clear g5)
          go_ret
          exact ⟨ret_bool (by rw [HR.out]), G5.out⟩
end Go.Proofs.YtonbcldhbinmeaaDoor

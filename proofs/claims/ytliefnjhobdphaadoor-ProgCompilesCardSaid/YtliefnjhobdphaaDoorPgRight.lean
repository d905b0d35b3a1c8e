/- Whether a node is right: the program's walk and the document's. How long a node's code is: the program's walks and the document's; how many nodes there are. -/
import Derived.Test.YtliefnjhobdphaaDoorPgMem
namespace Go.Proofs.YtliefnjhobdphaaDoor
open Go.RowKit

/-- what a call answers of each node -/
def AskI (fn : Nat) (f : Ni → Bool) (l : List Ni) : Prop := ∀ n ∈ l, ∀ a m k w, KidsE w (.slice a m k) n.kids → Calls Tryd.prog fn #[niV n (.slice a m k)] w fun e w' => e = .returned (.bool (f n)) ∧ w.grownBy w' none
theorem any_take {f : Ni → Bool} {l : List Ni} {j : Nat} {n : Ni} (h : l[j]? = some n) : (l.take (j + 1)).any f = ((l.take j).any f || f n) := by
  rw [List.take_add_one, h]; simp
theorem any_hit {f : Ni → Bool} {l : List Ni} {j : Nat} {n : Ni} (h : l[j]? = some n) (hf : f n = true) : l.any f = true := List.any_eq_true.2 ⟨n, List.mem_of_getElem? h, hf⟩

set_option maxRecDepth 100000 in
set_option maxHeartbeats 4000000 in
theorem cIndexI (fn : Nat) (hent : ∀ args w, (callFunc fn args).run Tryd.prog w = .ok (.enter fn args) w) (f : Ni → Bool) (l : List Ni) (hl200 : l.length ≤ 200) (hA : AskI fn f l)
    (a : Option Addr) (m c : Nat) (w : World) (hK : KidsE w (.slice a m c) l) :
    Calls Tryd.prog 49 #[.slice a m c, .func (.func fn) #[] #[]] w fun e w' => (∃ i : Int, e = .returned (.int .i64 i) ∧ decide (i ≥ 0) = l.any f) ∧ w.grownBy w' none := by
  obtain rfl := hK.len
  have HA := Lib.hid hA; have HK := Lib.hid hK
  clear hA hK
  go_enter Tryd.func49, Tryd.ntmps49
  go_wp2
  go_loopw [5, 8] (fun _ i wr => ∃ k : Nat, k ≤ l.length ∧ i = .int .i64 k ∧ Hid ((l.take k).any f = false) ∧ Hid (w.grownBy wr none)) (fun _ i _ => l.length - (intOf i).toNat)
  case atStart => exact ⟨0, Nat.zero_le _, rfl, Lib.hid (by simp), Lib.hid (World.grownBy.refl _ _)⟩
  case round =>
    obtain ⟨k, hk, rfl, ha, hG⟩ := hrel
    by_cases hlt : k < l.length
    · obtain ⟨n', hn'⟩ : ∃ n', l[k]? = some n' := ⟨_, List.getElem?_eq_getElem hlt⟩
      have HN := Lib.hid hn'
      obtain ⟨b0, off, x0, y0, z0, rfl, hc, hk'⟩ := (HK.out.grown hG.out).at hn'
      have c0 : wr.cell? ⟨b0, off + k * 7, none⟩ = some (.int .i64 n'.kind) := hc 0 _ rfl
      have c1 := hc 1 _ rfl
      have c2 := hc 2 _ rfl
      have c3 := hc 3 _ rfl
      have c4 := hc 4 _ rfl
      have c5 := hc 5 _ rfl
      have c6 := hc 6 _ rfl
      have HC := Lib.hid (HA.out n' (List.mem_of_getElem? hn') x0 y0 z0 wr hk')
      clear hc hk' hn'
      cases hq : f n'
      · rw [hq] at HC
        have HT := Lib.hid (show (l.take (k + 1)).any f = false by rw [any_take HN.out, ha.out, hq]; rfl)
        clear hq ha
        go_wp2_with (refine (HC.out).mono ?_; rintro e w1 ⟨rfl, hg⟩; have G := Lib.hid (hG.out.trans hg); clear hg)
        go_roundw
        case rel => exact ⟨k + 1, by omega, by go_num, HT, G⟩
        case measure => simp [intOf]; omega
      · have HI := Lib.hid (any_hit HN.out hq)
        rw [hq] at HC
        clear hq ha
        go_wp2_with (refine (HC.out).mono ?_; rintro e w1 ⟨rfl, hg⟩; have G := Lib.hid (hG.out.trans hg); clear hg)
        go_ret
        exact ⟨⟨_, rfl, by rw [HI.out]; simp⟩, G.out⟩
    · obtain rfl : k = l.length := by omega
      have HI := Lib.hid (show l.any f = false by have := ha.out; rwa [List.take_length] at this)
      go_wp2
      go_ret
      exact ⟨⟨_, rfl, by rw [HI.out]; simp⟩, hG.out⟩

set_option maxHeartbeats 1000000 in
theorem cContI (fn : Nat) (hent : ∀ args w, (callFunc fn args).run Tryd.prog w = .ok (.enter fn args) w) (f : Ni → Bool) (l : List Ni) (hl200 : l.length ≤ 200) (hA : AskI fn f l)
    (a : Option Addr) (m c : Nat) (w : World) (hK : KidsE w (.slice a m c) l) :
    Calls Tryd.prog 37 #[.slice a m c, .func (.func fn) #[] #[]] w fun e w' => e = .returned (.bool (l.any f)) ∧ w.grownBy w' none := by
  have HI := Lib.hid (cIndexI fn hent f l hl200 hA a m c w hK)
  clear hA hK
  go_enter Tryd.func37, Tryd.ntmps37
  go_wp2_with (go_at_call 49; refine (HI.out).mono ?_; rintro e w1 ⟨⟨i, rfl, hi⟩, hg⟩; have G := Lib.hid hg; have HJ := Lib.hid hi; clear hg hi)
  go_ret
  exact ⟨ret_bool HJ.out, G.out⟩

theorem not_rgt (l : List Ni) : l.any (fun n => !rgtN n) = !rgtL l := by
  induction l with
  | nil => simp [rgtL]
  | cons n l ih => rw [List.any_cons, ih, rgtL]; simp

set_option maxRecDepth 100000 in
set_option maxHeartbeats 4000000 in
theorem cRight : ∀ (N : Nat) (n : Ni) (a : Option Addr) (m k : Nat) (w : World), szN n ≤ N → N ≤ 200 → KidsE w (.slice a m k) n.kids →
    Calls Tryd.prog 17 #[niV n (.slice a m k)] w fun e w' => e = .returned (.bool (rgtN n)) ∧ w.grownBy w' none := by
  intro N
  induction N with
  | zero => intro n a m k w h _ _; rw [sz_eq] at h; omega
  | succ N ih =>
    intro n a m k w hN hN2 hK
    obtain rfl := hK.len
    have e1 : ∀ args w, (callFunc 33 args).run Tryd.prog w = .ok (.enter 33 args) w := enters_of Tryd.func33 (by kernel_rfl) rfl
    have hz := sz_eq n
    have hl200 : n.kids.length ≤ 200 := by have := len_le_sz n.kids; omega
    have hA : AskI 33 (fun n => !rgtN n) n.kids := by
      intro n' hn' a m k w hk
      have HC := Lib.hid (ih n' a m k · (by have := szL_mem hn'; omega) (by omega) ·)
      have ga := World.grownBy_alloc w (.cells #[.int .i64 n'.kind, .int .i64 n'.index, .int .u64 (wd n'.set 0), .int .u64 (wd n'.set 1), .int .u64 (wd n'.set 2), .int .u64 (wd n'.set 3), .slice a m k] 44) none
      have B1 := Lib.hid (heap_alloc_new w (.cells #[.int .i64 n'.kind, .int .i64 n'.index, .int .u64 (wd n'.set 0), .int .u64 (wd n'.set 1), .int .u64 (wd n'.set 2), .int .u64 (wd n'.set 3), .slice a m k] 44))
      have K1 := Lib.hid (hk.grown ga)
      have G1 := Lib.hid ga
      clear ga hk ih hz hl200 hK hN e1
      go_enter Tryd.func33, Tryd.ntmps33
      go_upto_region 1 with fail
      generalize w.alloc _ = w1 at B1 K1 G1 ⊢
      generalize w.heap.size = q at B1 ⊢
      obtain ⟨c0, c1, c2, c3, c4, c5, c6⟩ := seven_cells B1.out
      go_wp2_with (go_at_call 17; refine (HC.out _ K1.out).mono ?_; rintro e w5 ⟨rfl, g5⟩; have G5 := Lib.hid (G1.out.trans g5); clear g5)
      go_ret
      exact ⟨rfl, G5.out⟩
    have HI := Lib.hid (fun w h => cContI 33 e1 _ n.kids hl200 hA a n.kids.length k w h)
    have HR := Lib.hid (rgt_eq n)
    have HQ := Lib.hid (fun w => cRgtKids n.kind n.index n.set a n.kids.length k w)
    have HX := Lib.hid (fun w => cRgtIdx n.kind n.index n.set a n.kids.length k w)
    have HE := Lib.hid (fun w => cEmpty n.set w)
    have HN := Lib.hid (not_rgt n.kids)
    have hs : setOk n.kind n.set = ((n.kind == 1) || (n.set == emp)) := by unfold setOk; congr 1
    clear ih hz hl200 hA e1 hN
    have ga := World.grownBy_alloc w (.cells #[.int .i64 n.kind, .int .i64 n.index, .int .u64 (wd n.set 0), .int .u64 (wd n.set 1), .int .u64 (wd n.set 2), .int .u64 (wd n.set 3), .slice a n.kids.length k] 44) none
    have B1 := Lib.hid (heap_alloc_new w (.cells #[.int .i64 n.kind, .int .i64 n.index, .int .u64 (wd n.set 0), .int .u64 (wd n.set 1), .int .u64 (wd n.set 2), .int .u64 (wd n.set 3), .slice a n.kids.length k] 44))
    have K1 := Lib.hid (hK.grown ga)
    have G1 := Lib.hid ga
    clear ga hK
    rw [HN.out] at HI
    clear HN
    have H1 : ∃ b, kidsOk n.kind n.kids.length = b := ⟨_, rfl⟩
    have H2 : ∃ b, idxOk n.kind n.index = b := ⟨_, rfl⟩
    have H3 : ∃ b, (n.kind == 1) = b := ⟨_, rfl⟩
    have H4 : ∃ b, (n.set == emp) = b := ⟨_, rfl⟩
    obtain ⟨b1, h1⟩ := H1
    obtain ⟨b2, h2⟩ := H2
    obtain ⟨b3, h3⟩ := H3
    obtain ⟨b4, h4⟩ := H4
    rw [h1] at HQ HR
    rw [h2] at HX HR
    rw [hs, h3, h4] at HR
    rw [h4] at HE
    clear h1 h2 hs h4
    generalize rgtL n.kids = b5 at HI HR
    generalize rgtN n = z at HR ⊢
    cases b1 <;> cases b2 <;> cases b3 <;> cases b4
    all_goals
      go_enter Tryd.func17, Tryd.ntmps17
      go_upto_region 2 with fail
      generalize w.alloc _ = w1 at B1 K1 G1 ⊢
      generalize w.heap.size = q at B1 ⊢
      have Z1 := Lib.hid (World.grownBy.refl w1 none)
      obtain ⟨c0, c1, c2, c3, c4, c5, c6⟩ := seven_cells B1.out
      go_wp2_with ((first
        | (go_at_call 34; refine (HQ.out _).mono ?_)
        | (go_at_call 35; refine (HX.out _).mono ?_)
        | (go_at_call 36; refine (HE.out _).mono ?_)
        | (go_at_call 37; refine (HI.out _ (K1.out.grown Z1.out)).mono ?_)); rintro e w5 ⟨rfl, g5⟩; have Z5 := Lib.hid (Z1.out.trans g5); clear g5 Z1 c0 c1 c2 c3 c4 c5 c6; have Z1 := Z5; clear Z5; obtain ⟨c0, c1, c2, c3, c4, c5, c6⟩ := seven_cells (heap_grown Z1.out B1.out))
      go_ret
      exact ⟨ret_bool (by rw [HR.out]; simp), G1.out.trans Z1.out⟩
end Go.Proofs.YtliefnjhobdphaaDoor

namespace Go.Proofs.YtliefnjhobdphaaDoor
open Go.RowKit

set_option maxRecDepth 100000 in
set_option maxHeartbeats 4000000 in
theorem cOwn (k i : Int) (s : BitVec 256) (a : Option Addr) (m c : Nat) (w : World) (hk : kidsOk k m = true) (hm : m ≤ 200) :
    Calls Tryd.prog 47 #[.agg #[.int .i64 k, .int .i64 i, .int .u64 (wd s 0), .int .u64 (wd s 1), .int .u64 (wd s 2), .int .u64 (wd s 3), .slice a m c]] w fun e w' => e = .returned (.int .i64 (ownC k m)) ∧ w.grownBy w' none := by
  have ga := World.grownBy_alloc w (.cells #[.int .i64 k, .int .i64 i, .int .u64 (wd s 0), .int .u64 (wd s 1), .int .u64 (wd s 2), .int .u64 (wd s 3), .slice a m c] 44) none
  have B1 := Lib.hid (heap_alloc_new w (.cells #[.int .i64 k, .int .i64 i, .int .u64 (wd s 0), .int .u64 (wd s 1), .int .u64 (wd s 2), .int .u64 (wd s 3), .slice a m c] 44))
  have G1 := Lib.hid ga
  clear ga
  have HM := Lib.hid (show k = 3 → 2 ≤ m from fun h => kids_two hk (.inr h))
  have hk := kids_kind hk
  have hc : k = 0 ∨ k = 1 ∨ k = 2 ∨ k = 3 ∨ k = 4 ∨ k = 5 ∨ k = 6 ∨ k = 7 ∨ k = 8 ∨ k = 9 := by omega
  clear hk
  rcases hc with rfl | rfl | rfl | rfl | rfl | rfl | rfl | rfl | rfl | rfl
  all_goals
    go_enter Tryd.func47, Tryd.ntmps47
    go_upto_region 1 with fail
    generalize w.alloc _ = w1 at B1 G1 ⊢
    generalize w.heap.size = q at B1 ⊢
    obtain ⟨c0, c1, c2, c3, c4, c5, c6⟩ := seven_cells B1.out
    go_wp2
    go_ret
    exact ⟨ret_int (by have hm2 := HM.out; simp [ownC]; try (simp at hm2; omega)), G1.out⟩

set_option maxRecDepth 100000 in
set_option maxHeartbeats 4000000 in
theorem cLength0 : ∀ (N : Nat) (n : Ni) (a : Option Addr) (m k : Nat) (w : World), szN n ≤ N → N ≤ 200 → rgtN n = true → KidsE w (.slice a m k) n.kids →
    Calls Tryd.prog 30 #[niV n (.slice a m k)] w fun e w' => e = .returned (.int .i64 (lenN n)) ∧ w.grownBy w' none := by
  intro N
  induction N with
  | zero => intro n a m k w h _ _ _; rw [sz_eq] at h; omega
  | succ N ih =>
    intro n a m k w hN hN2 hR hK
    obtain rfl := hK.len
    have hz := sz_eq n
    have hl200 : n.kids.length ≤ 200 := by have := len_le_sz n.kids; omega
    have HI := Lib.hid (fun n a m k w h hr hk => ih n a m k w h (by omega) hr hk)
    rw [rgt_eq] at hR
    simp only [Bool.and_eq_true] at hR
    obtain ⟨⟨⟨hk, -⟩, -⟩, hl⟩ := hR
    have HO := Lib.hid (fun w => cOwn n.kind n.index n.set a n.kids.length k w hk hl200)
    have HZ := Lib.hid (len_eq n)
    have HL := Lib.hid (show lenL n.kids + ownC n.kind n.kids.length ≤ 1000 by have := lenN_le n; rw [len_eq] at this; omega)
    generalize ownC n.kind n.kids.length = o at HO HZ HL
    generalize lenN n = z at HZ ⊢
    obtain ⟨l, hl'⟩ : ∃ l, n.kids = l := ⟨_, rfl⟩
    rw [hl'] at hK hz hl200 hl HO HZ HL ⊢
    have HS := Lib.hid (show ∀ n' ∈ l, szN n' ≤ N from fun n' h' => by have := szL_mem h'; omega)
    have HG := Lib.hid hl
    clear ih hN hN2 hz hl' hk hl
    have ga := World.grownBy_alloc w (.cells #[.int .i64 n.kind, .int .i64 n.index, .int .u64 (wd n.set 0), .int .u64 (wd n.set 1), .int .u64 (wd n.set 2), .int .u64 (wd n.set 3), .slice a l.length k] 44) none
    have B1 := Lib.hid (heap_alloc_new w (.cells #[.int .i64 n.kind, .int .i64 n.index, .int .u64 (wd n.set 0), .int .u64 (wd n.set 1), .int .u64 (wd n.set 2), .int .u64 (wd n.set 3), .slice a l.length k] 44))
    have K1 := Lib.hid (hK.grown ga)
    have G1 := Lib.hid ga
    clear ga hK
    go_enter Tryd.func30, Tryd.ntmps30
    go_upto_region 1 with fail
    generalize w.alloc _ = w1 at B1 K1 G1 ⊢
    generalize w.heap.size = q at B1 ⊢
    obtain ⟨c0, c1, c2, c3, c4, c5, c6⟩ := seven_cells B1.out
    go_wp2_with (go_at_call 47; refine (HO.out _).mono ?_; rintro e w2 ⟨rfl, g2⟩; clear c0 c1 c2 c3 c4 c5 c6; have B2 := Lib.hid (heap_grown g2 B1.out); have G2 := Lib.hid (G1.out.trans g2); have K2 := Lib.hid (K1.out.grown g2); clear g2; obtain ⟨c0, c1, c2, c3, c4, c5, c6⟩ := seven_cells B2.out)
    clear c0 c1 c2 c3 c4 c5 c6 B2 K1 G1 B1
    go_loopw [3, 5, 11] (fun v _ i wr => ∃ j : Nat, j ≤ l.length ∧ i = .int .i64 j ∧ v = .int .i64 (o + lenL (l.take j) : Nat) ∧ Hid (w2.grownBy wr none)) (fun _ _ i _ => l.length - (intOf i).toNat)
    case atStart => exact ⟨0, Nat.zero_le _, rfl, by rw [List.take_zero, lenL]; rfl, Lib.hid (World.grownBy.refl _ _)⟩
    case round =>
      obtain ⟨j, hj, rfl, rfl, hG⟩ := hrel
      have hle := lenL_take_le l j
      by_cases hlt : j < l.length
      · obtain ⟨n', hn'⟩ : ∃ n', l[j]? = some n' := ⟨_, List.getElem?_eq_getElem hlt⟩
        have HT := Lib.hid (lenL_take hn')
        have HS' := Lib.hid (HS.out n' (List.mem_of_getElem? hn'))
        have HR' := Lib.hid (rgtL_mem HG.out (List.mem_of_getElem? hn'))
        have hln := lenL_mem (List.mem_of_getElem? hn')
        obtain ⟨b0, off, x0, y0, z0, rfl, hc, hk'⟩ := (K2.out.grown hG.out).at hn'
        have c0 : wr.cell? ⟨b0, off + j * 7, none⟩ = some (.int .i64 n'.kind) := hc 0 _ rfl
        have c1 := hc 1 _ rfl
        have c2 := hc 2 _ rfl
        have c3 := hc 3 _ rfl
        have c4 := hc 4 _ rfl
        have c5 := hc 5 _ rfl
        have c6 := hc 6 _ rfl
        have ga := World.grownBy_alloc wr (.cells #[.int .i64 n'.kind, .int .i64 n'.index, .int .u64 (wd n'.set 0), .int .u64 (wd n'.set 1), .int .u64 (wd n'.set 2), .int .u64 (wd n'.set 3), .slice x0 y0 z0] 44) none
        have B3 := Lib.hid (heap_alloc_new wr (.cells #[.int .i64 n'.kind, .int .i64 n'.index, .int .u64 (wd n'.set 0), .int .u64 (wd n'.set 1), .int .u64 (wd n'.set 2), .int .u64 (wd n'.set 3), .slice x0 y0 z0] 44))
        have K3 := Lib.hid (hk'.grown ga)
        have G3 := Lib.hid (hG.out.trans ga)
        obtain ⟨u, hu⟩ : ∃ u, u = lenL (l.take j) := ⟨_, rfl⟩
        obtain ⟨v, hv⟩ : ∃ v, v = lenN n' := ⟨_, rfl⟩
        have CI := Lib.hid (fun w => HI.out n' x0 y0 z0 w HS'.out HR'.out)
        rw [← hu] at HT hle
        rw [← hu]
        rw [← hv] at HT CI hln
        have hb := HL.out
        clear hc hk' hn' ga hu hv
        go_upto_region 5 with fail
        clear c0 c1 c2 c3 c4 c5 c6
        generalize wr.alloc _ = w4 at B3 K3 G3 ⊢
        generalize wr.heap.size = q4 at B3 ⊢
        obtain ⟨c0, c1, c2, c3, c4, c5, c6⟩ := seven_cells B3.out
        go_wp2_with (go_at_call 30; refine (CI.out _ K3.out).mono ?_; rintro e w5 ⟨rfl, g5⟩; have G5 := Lib.hid (G3.out.trans g5); clear g5)
        go_roundw
        case rel => exact ⟨j + 1, by omega, by go_num, by rw [HT.out]; go_num, G5⟩
        case measure => simp [intOf]; omega
      · obtain rfl : j = l.length := by omega
        have HE := Lib.hid (show ((o + lenL (l.take l.length) : Nat) : Int) = (z : Nat) by rw [List.take_length, HZ.out]; omega)
        go_wp2
        go_ret
        exact ⟨ret_int HE.out, G2.out.trans hG.out⟩

set_option maxRecDepth 100000 in
set_option maxHeartbeats 4000000 in
theorem cLength (n : Ni) (a : Option Addr) (m k : Nat) (w : World) (hs : szN n ≤ 200) (hK : KidsE w (.slice a m k) n.kids) :
    Calls Tryd.prog 18 #[niV n (.slice a m k)] w fun e w' => e = .returned (.int .i64 (if rgtN n then lenN n else 0 : Nat)) ∧ w.grownBy w' none := by
  have HR := Lib.hid (fun w h => cRight 200 n a m k w hs (Nat.le_refl _) h)
  have HL := Lib.hid (fun w hr h => cLength0 200 n a m k w hs (Nat.le_refl _) hr h)
  have ga := World.grownBy_alloc w (.cells #[.int .i64 n.kind, .int .i64 n.index, .int .u64 (wd n.set 0), .int .u64 (wd n.set 1), .int .u64 (wd n.set 2), .int .u64 (wd n.set 3), .slice a m k] 44) none
  have B1 := Lib.hid (heap_alloc_new w (.cells #[.int .i64 n.kind, .int .i64 n.index, .int .u64 (wd n.set 0), .int .u64 (wd n.set 1), .int .u64 (wd n.set 2), .int .u64 (wd n.set 3), .slice a m k] 44))
  have K1 := Lib.hid (hK.grown ga)
  have G1 := Lib.hid ga
  clear ga hK hs
  generalize lenN n = z at HL ⊢
  generalize hb : rgtN n = b at HR HL ⊢
  clear hb
  cases b
  all_goals
    go_enter Tryd.func18, Tryd.ntmps18
    go_upto_region 1 with fail
    generalize w.alloc _ = w1 at B1 K1 G1 ⊢
    generalize w.heap.size = q at B1 ⊢
    obtain ⟨c0, c1, c2, c3, c4, c5, c6⟩ := seven_cells B1.out
    go_wp2_with (first
      | (go_at_call 17; refine (HR.out _ K1.out).mono ?_; rintro e w2 ⟨rfl, g2⟩; clear c0 c1 c2 c3 c4 c5 c6; have B2 := Lib.hid (heap_grown g2 B1.out); have G2 := Lib.hid (G1.out.trans g2); have K2 := Lib.hid (K1.out.grown g2); clear g2; obtain ⟨c0, c1, c2, c3, c4, c5, c6⟩ := seven_cells B2.out)
      | (go_at_call 30; refine (HL.out _ (by trivial) K2.out).mono ?_; rintro e w3 ⟨rfl, g3⟩; have G3 := Lib.hid (G2.out.trans g3); clear g3))
    go_ret
    first
      | exact ⟨rfl, G3.out⟩
      | exact ⟨rfl, G2.out⟩

set_option maxRecDepth 100000 in
set_option maxHeartbeats 4000000 in
theorem cLeft : ∀ (N : Nat) (n : Ni) (t : Int) (a : Option Addr) (m k : Nat) (w : World), 0 ≤ t → t < N → N ≤ 200 → KidsE w (.slice a m k) n.kids →
    Calls Tryd.prog 29 #[niV n (.slice a m k), .int .i64 t] w fun e w' => e = .returned (.int .i64 (lftN n t)) ∧ w.grownBy w' none := by
  intro N
  induction N with
  | zero => intro n t a m k w h0 h _ _; omega
  | succ N ih =>
    intro n t a m k w h0 hN hN2 hK
    obtain rfl := hK.len
    have HI := Lib.hid (fun n t a m k w h0 h hk => ih n t a m k w h0 h (by omega) hk)
    have HZ := Lib.hid (lft_eq n t)
    generalize lftN n t = z at HZ ⊢
    obtain ⟨l, hl'⟩ : ∃ l, n.kids = l := ⟨_, rfl⟩
    rw [hl'] at hK HZ ⊢
    clear ih hl'
    have ga := World.grownBy_alloc w (.cells #[.int .i64 n.kind, .int .i64 n.index, .int .u64 (wd n.set 0), .int .u64 (wd n.set 1), .int .u64 (wd n.set 2), .int .u64 (wd n.set 3), .slice a l.length k] 44) none
    have B1 := Lib.hid (heap_alloc_new w (.cells #[.int .i64 n.kind, .int .i64 n.index, .int .u64 (wd n.set 0), .int .u64 (wd n.set 1), .int .u64 (wd n.set 2), .int .u64 (wd n.set 3), .slice a l.length k] 44))
    have K1 := Lib.hid (hK.grown ga)
    have G1 := Lib.hid ga
    clear ga hK
    go_enter Tryd.func29, Tryd.ntmps29
    go_upto_region 1 with fail
    generalize w.alloc _ = w1 at B1 K1 G1 ⊢
    generalize w.heap.size = q at B1 ⊢
    obtain ⟨c0, c1, c2, c3, c4, c5, c6⟩ := seven_cells B1.out
    go_wp2
    clear c0 c1 c2 c3 c4 c5 c6
    go_loopw [1, 6, 12] (fun v _ i wr => ∃ (j : Nat) (x : Int), j ≤ l.length ∧ i = .int .i64 j ∧ v = .int .i64 x ∧ -1 ≤ x ∧ x + j ≤ t - 1 ∧ Hid (lftL l (t - 1) = lftL (l.drop j) x) ∧ Hid (w1.grownBy wr none)) (fun _ _ i _ => l.length - (intOf i).toNat)
    case atStart => exact ⟨0, t - 1, Nat.zero_le _, rfl, rfl, by omega, by omega, Lib.hid (by rw [List.drop_zero]), Lib.hid (World.grownBy.refl _ _)⟩
    case round =>
      obtain ⟨j, x, hj, rfl, rfl, hx1, hx2, hF, hG⟩ := hrel
      by_cases hlt : j < l.length
      · obtain ⟨n', hn'⟩ : ∃ n', l[j]? = some n' := ⟨_, List.getElem?_eq_getElem hlt⟩
        have HD := Lib.hid (show lftL (l.drop j) x = if x < 0 then -1 else lftL (l.drop (j + 1)) (lftN n' x) by
          obtain ⟨hj', e⟩ := List.getElem?_eq_some_iff.1 hn'
          rw [List.drop_eq_getElem_cons hj', e, lftL])
        obtain ⟨b0, off, x0, y0, z0, rfl, hc, hk'⟩ := (K1.out.grown hG.out).at hn'
        have c0 : wr.cell? ⟨b0, off + j * 7, none⟩ = some (.int .i64 n'.kind) := hc 0 _ rfl
        have c1 := hc 1 _ rfl
        have c2 := hc 2 _ rfl
        have c3 := hc 3 _ rfl
        have c4 := hc 4 _ rfl
        have c5 := hc 5 _ rfl
        have c6 := hc 6 _ rfl
        have ga := World.grownBy_alloc wr (.cells #[.int .i64 n'.kind, .int .i64 n'.index, .int .u64 (wd n'.set 0), .int .u64 (wd n'.set 1), .int .u64 (wd n'.set 2), .int .u64 (wd n'.set 3), .slice x0 y0 z0] 44) none
        have B3 := Lib.hid (heap_alloc_new wr (.cells #[.int .i64 n'.kind, .int .i64 n'.index, .int .u64 (wd n'.set 0), .int .u64 (wd n'.set 1), .int .u64 (wd n'.set 2), .int .u64 (wd n'.set 3), .slice x0 y0 z0] 44))
        have K3 := Lib.hid (hk'.grown ga)
        have G3 := Lib.hid (hG.out.trans ga)
        clear hc hk' hn' ga
        go_upto_region 5 with fail
        clear c0 c1 c2 c3 c4 c5 c6
        generalize wr.alloc _ = w4 at B3 K3 G3 ⊢
        generalize wr.heap.size = q4 at B3 ⊢
        obtain ⟨c0, c1, c2, c3, c4, c5, c6⟩ := seven_cells B3.out
        by_cases hx : x < 0
        · have dx : decide (x < 0) = true := by simpa using hx
          have HE := Lib.hid (show (-1 : Int) = z by rw [HZ.out, hF.out, HD.out, if_pos hx])
          go_wp2
          go_ret
          exact ⟨ret_int HE.out, G1.out.trans G3.out⟩
        · have dx : decide (x < 0) = false := by simpa using hx
          have HE := Lib.hid (show lftL l (t - 1) = lftL (l.drop (j + 1)) (lftN n' x) by rw [hF.out, HD.out, if_neg hx])
          have CI := Lib.hid (fun w => HI.out n' x x0 y0 z0 w (by omega) (by omega))
          obtain ⟨y1, y2, -⟩ := lftN_is n' x (by omega)
          generalize lftN n' x = y at HE CI y1 y2
          clear hF HD
          go_wp2_with (go_at_call 29; refine (CI.out _ K3.out).mono ?_; rintro e w5 ⟨rfl, g5⟩; have G5 := Lib.hid (G3.out.trans g5); clear g5)
          go_roundw
          case rel => exact ⟨j + 1, y, by omega, by go_num, rfl, by omega, by omega, HE, G5⟩
          case measure => simp [intOf]; omega
      · obtain rfl : j = l.length := by omega
        have HE := Lib.hid (show x = z by rw [HZ.out, hF.out, List.drop_length, lftL])
        go_wp2
        go_ret
        exact ⟨ret_int HE.out, G1.out.trans hG.out⟩

set_option maxHeartbeats 1000000 in
theorem cGreat (n : Ni) (a : Option Addr) (m k : Nat) (w : World) (hK : KidsE w (.slice a m k) n.kids) :
    Calls Tryd.prog 13 #[niV n (.slice a m k), .int .i64 120] w fun e w' => e = .returned (.bool (decide (lftN n 120 < 0))) ∧ w.grownBy w' none := by
  have HL := Lib.hid (fun w h => cLeft 121 n 120 a m k w (by omega) (by omega) (by omega) h)
  have ga := World.grownBy_alloc w (.cells #[.int .i64 n.kind, .int .i64 n.index, .int .u64 (wd n.set 0), .int .u64 (wd n.set 1), .int .u64 (wd n.set 2), .int .u64 (wd n.set 3), .slice a m k] 44) none
  have B1 := Lib.hid (heap_alloc_new w (.cells #[.int .i64 n.kind, .int .i64 n.index, .int .u64 (wd n.set 0), .int .u64 (wd n.set 1), .int .u64 (wd n.set 2), .int .u64 (wd n.set 3), .slice a m k] 44))
  have K1 := Lib.hid (hK.grown ga)
  have G1 := Lib.hid ga
  clear ga hK
  go_enter Tryd.func13, Tryd.ntmps13
  go_upto_region 1 with fail
  generalize w.alloc _ = w1 at B1 K1 G1 ⊢
  generalize w.heap.size = q at B1 ⊢
  obtain ⟨c0, c1, c2, c3, c4, c5, c6⟩ := seven_cells B1.out
  go_wp2_with (go_at_call 29; refine (HL.out _ K1.out).mono ?_; rintro e w2 ⟨rfl, g2⟩; have G2 := Lib.hid (G1.out.trans g2); clear g2)
  go_ret
  exact ⟨rfl, G2.out⟩
end Go.Proofs.YtliefnjhobdphaaDoor

/- The writer's codes: stars, pluses, what may be left out, groups, rows. -/
import Derived.Test.YtliefnjhobdphaaDoorPgCl
namespace Go.Proofs.YtliefnjhobdphaaDoor
open Go.RowKit

/-- what a call that writes a code leaves -/
def WrOut (p : Nat) (v : Value) (l : List Ins) (w : World) (r : List Ins) (e : Ending) (w' : World) : Prop := e = .returned (.tuple #[]) ∧ ∃ v', Wr p v' (l ++ r) w' ∧ Kp p v w v' w'
/-- a node's code is written -/
def NodeC (n : Ni) : Prop := ∀ (p : Nat) (v : Value) (l : List Ins) (a : Option Addr) (m c : Nat) (w : World), Wr p v l w → l.length + lenN n ≤ 9000 → KidsI w (fun b => b < p) (.slice a m c) n.kids →
  Calls Tryd.prog 48 #[.pointer (some ⟨p, 0, none⟩), niV n (.slice a m c)] w (WrOut p v l w (codN n l.length))
theorem set_mid (l r : List Ins) (c c' : Ins) : (l ++ c :: r).set l.length c' = l ++ c' :: r := by simp
theorem get_mid (l r : List Ins) (c : Ins) : (l ++ c :: r)[l.length]? = some c := by simp

set_option maxRecDepth 100000 in
set_option maxHeartbeats 4000000 in
theorem cPlus (n : Ni) (HC : NodeC n) (hr : rgtN n = true) (p : Nat) (v : Value) (l : List Ins) (a : Option Addr) (m c : Nat) (w : World) (h : Wr p v l w) (hl : l.length + lenN n ≤ 8999) (hK : KidsI w (fun b => b < p) (.slice a m c) n.kids) :
    Calls Tryd.prog 60 #[.pointer (some ⟨p, 0, none⟩), niV n (.slice a m c)] w (WrOut p v l w (codN n l.length ++ [⟨1, l.length, (l.length + lenN n + 1 : Nat), emp⟩])) := by
  have hcl := cod_len n l.length hr
  have ga := World.grownBy_alloc w (.cells #[.int .i64 n.kind, .int .i64 n.index, .int .u64 (wd n.set 0), .int .u64 (wd n.set 1), .int .u64 (wd n.set 2), .int .u64 (wd n.set 3), .slice a m c] 44) none
  have B1 := Lib.hid (heap_alloc_new w (.cells #[.int .i64 n.kind, .int .i64 n.index, .int .u64 (wd n.set 0), .int .u64 (wd n.set 1), .int .u64 (wd n.set 2), .int .u64 (wd n.set 3), .slice a m c] 44))
  have W1 := Lib.hid (h.kept ga)
  have K1 := Lib.hid (Kp.ofGrown (p := p) (v := v) ga)
  have N1 := Lib.hid (hK.grown ga)
  clear ga hK
  obtain ⟨va, vc, rfl⟩ := owns_shape h.O
  clear h
  go_enter Tryd.func60, Tryd.ntmps60
  go_upto_region 1 with fail
  generalize w.alloc _ = w1 at B1 K1 W1 N1 ⊢
  generalize w.heap.size = q at B1 ⊢
  have p0 := one_cell W1.out.P
  obtain ⟨c0, c1, c2, c3, c4, c5, c6⟩ := seven_cells B1.out
  have HN := Lib.hid (HC p _ l a m c w1 W1.out (by omega) N1.out)
  go_upto_region 3 with (go_at_call 48; (with_reducible refine (HN.out).mono ?_); rintro e w2 ⟨rfl, v2, W2, K2⟩)
  have W2 := Lib.hid W2; have K2 := Lib.hid K2
  clear c0 c1 c2 c3 c4 c5 c6 p0 B1 HN
  obtain ⟨va2, vc2, rfl⟩ := owns_shape W2.out.O
  obtain ⟨t, ht⟩ : ∃ t, t = l.length + lenN n := ⟨_, rfl⟩
  have hll : (l ++ codN n l.length).length = t := by rw [List.length_append, hcl, ht]
  have HT := Lib.hid ht
  have htl : t ≤ 9000 := by omega
  rw [hll] at W2 K2
  have p0 := one_cell W2.out.P
  have HP := Lib.hid (cPut0 p _ (l ++ codN n l.length) 1 l.length ((t : Int) + 1) w2 W2.out (by omega))
  clear ht hll
  go_wp2_with (go_at_call 32; (with_reducible refine (HP.out).mono ?_); rintro e w3 ⟨rfl, v3, W3, K3⟩; have W3 := Lib.hid W3; have K3 := Lib.hid K3)
  go_end0
  exact ⟨rfl, v3, by rw [← List.append_assoc]; have := W3.out; rw [HT.out] at this; exact this, (K1.out.trans K2.out).trans K3.out⟩

set_option maxRecDepth 100000 in
set_option maxHeartbeats 4000000 in
theorem cBetween (n : Ni) (HC : NodeC n) (k : Int) (hk0 : 0 ≤ k) (hk : k ≤ 1000) (p : Nat) (v : Value) (l : List Ins) (a : Option Addr) (m c : Nat) (w : World) (h : Wr p v l w) (hl : l.length + lenN n ≤ 8998) (hr : rgtN n = true) (hK : KidsI w (fun b => b < p) (.slice a m c) n.kids) :
    Calls Tryd.prog 31 #[.pointer (some ⟨p, 0, none⟩), .int .i64 k, niV n (.slice a m c)] w (WrOut p v l w (⟨3, k, 0, emp⟩ :: (codN n (l.length + 1) ++ [⟨3, k + 1, 0, emp⟩]))) := by
  have hcl := cod_len n (l.length + 1) hr
  have ga := World.grownBy_alloc w (.cells #[.int .i64 n.kind, .int .i64 n.index, .int .u64 (wd n.set 0), .int .u64 (wd n.set 1), .int .u64 (wd n.set 2), .int .u64 (wd n.set 3), .slice a m c] 44) none
  have B1 := Lib.hid (heap_alloc_new w (.cells #[.int .i64 n.kind, .int .i64 n.index, .int .u64 (wd n.set 0), .int .u64 (wd n.set 1), .int .u64 (wd n.set 2), .int .u64 (wd n.set 3), .slice a m c] 44))
  have SB := Lib.hid (h.safe (w' := w.alloc (.cells #[.int .i64 n.kind, .int .i64 n.index, .int .u64 (wd n.set 0), .int .u64 (wd n.set 1), .int .u64 (wd n.set 2), .int .u64 (wd n.set 3), .slice a m c] 44)) (Nat.le_refl _) (by rw [World.size_alloc]; omega))
  have W1 := Lib.hid (h.kept ga)
  have K1 := Lib.hid (Kp.ofGrown (p := p) (v := v) ga)
  have N1 := Lib.hid (hK.grown ga)
  clear ga hK h
  go_enter Tryd.func31, Tryd.ntmps31
  go_upto_region 1 with fail
  generalize w.alloc _ = w1 at B1 K1 W1 N1 SB ⊢
  generalize w.heap.size = q at B1 SB ⊢
  have HP := Lib.hid (cPut0 p v l 3 k 0 w1 W1.out (by omega))
  go_upto_region 2 with (go_at_call 32; (with_reducible refine (HP.out).mono ?_); rintro e w2 ⟨rfl, v2, W2, K2⟩)
  have B2 := Lib.hid (K2.at SB.out B1.out)
  have N2 := Lib.hid (N1.out.wr W1.out K2)
  have W2 := Lib.hid W2; have K2 := Lib.hid K2
  clear HP B1
  obtain ⟨c0, c1, c2, c3, c4, c5, c6⟩ := seven_cells B2.out
  have hll : (l ++ [(⟨3, k, 0, emp⟩ : Ins)]).length = l.length + 1 := by simp
  have HN := HC p v2 _ a m c w2 W2.out (by rw [hll]; omega) N2.out
  rw [hll] at HN
  have HN := Lib.hid HN
  go_upto_region 3 with (go_at_call 48; (with_reducible refine (HN.out).mono ?_); rintro e w3 ⟨rfl, v3, W3, K3⟩)
  have W3 := Lib.hid W3; have K3 := Lib.hid K3
  clear c0 c1 c2 c3 c4 c5 c6 HN B2
  have HP := Lib.hid (cPut0 p v3 _ 3 (k + 1) 0 w3 W3.out (by simp; omega))
  go_wp2_with (go_at_call 32; (with_reducible refine (HP.out).mono ?_); rintro e w4 ⟨rfl, v4, W4, K4⟩; have W4 := Lib.hid W4; have K4 := Lib.hid K4)
  go_end0
  exact ⟨rfl, v4, by have := W4.out; simpa using this, ((K1.out.trans K2.out).trans K3.out).trans K4.out⟩

set_option maxRecDepth 100000 in
set_option maxHeartbeats 4000000 in
theorem cMaybe (n : Ni) (HC : NodeC n) (hr : rgtN n = true) (p : Nat) (v : Value) (l : List Ins) (a : Option Addr) (m c : Nat) (w : World) (h : Wr p v l w) (hl : l.length + lenN n ≤ 8999) (hK : KidsI w (fun b => b < p) (.slice a m c) n.kids) :
    Calls Tryd.prog 61 #[.pointer (some ⟨p, 0, none⟩), niV n (.slice a m c)] w (WrOut p v l w (⟨1, (l.length + 1 : Nat), (l.length + lenN n + 1 : Nat), emp⟩ :: codN n (l.length + 1))) := by
  have eg : ∀ args w, (callFunc 71 args).run Tryd.prog w = .ok (.enter 71 args) w := enters_of Tryd.func71 (by kernel_rfl) rfl
  have hcl := cod_len n (l.length + 1) hr
  have ga := World.grownBy_alloc w (.cells #[.int .i64 n.kind, .int .i64 n.index, .int .u64 (wd n.set 0), .int .u64 (wd n.set 1), .int .u64 (wd n.set 2), .int .u64 (wd n.set 3), .slice a m c] 44) none
  have B1 := Lib.hid (heap_alloc_new w (.cells #[.int .i64 n.kind, .int .i64 n.index, .int .u64 (wd n.set 0), .int .u64 (wd n.set 1), .int .u64 (wd n.set 2), .int .u64 (wd n.set 3), .slice a m c] 44))
  have SB := Lib.hid (h.safe (w' := w.alloc (.cells #[.int .i64 n.kind, .int .i64 n.index, .int .u64 (wd n.set 0), .int .u64 (wd n.set 1), .int .u64 (wd n.set 2), .int .u64 (wd n.set 3), .slice a m c] 44)) (Nat.le_refl _) (by rw [World.size_alloc]; omega))
  have W1 := Lib.hid (h.kept ga)
  have K1 := Lib.hid (Kp.ofGrown (p := p) (v := v) ga)
  have N1 := Lib.hid (hK.grown ga)
  clear ga hK h
  go_enter Tryd.func61, Tryd.ntmps61
  go_upto_region 1 with fail
  generalize w.alloc _ = w1 at B1 K1 W1 N1 SB ⊢
  generalize w.heap.size = q at B1 SB ⊢
  have HP := Lib.hid (cSplit p v l w1 W1.out (by omega))
  go_upto_region 2 with (go_at_call 66; (with_reducible refine (HP.out).mono ?_); rintro e w2 ⟨b1, b2, v2, rfl, W2, K2, C2⟩)
  have B2 := Lib.hid (K2.at SB.out B1.out)
  have N2 := Lib.hid (N1.out.wr W1.out K2)
  have W2 := Lib.hid W2; have K2 := Lib.hid K2; have C2 := Lib.hid C2
  clear HP B1
  obtain ⟨c0, c1, c2, c3, c4, c5, c6⟩ := seven_cells B2.out
  have hll : (l ++ [(⟨1, (l.length + 1 : Nat), 0, emp⟩ : Ins)]).length = l.length + 1 := by simp
  have HN := HC p v2 _ a m c w2 W2.out (by rw [hll]; omega) N2.out
  rw [hll] at HN
  have HN := Lib.hid HN
  go_upto_region 3 with (go_at_call 48; (with_reducible refine (HN.out).mono ?_); rintro e w3 ⟨rfl, v3, W3, K3⟩)
  have HE := Lib.hid (cElse p b1 b2 l.length v3 _ ⟨1, (l.length + 1 : Nat), 0, emp⟩ w3 W3 (by simp) (C2.out.kept K3))
  have K3 := Lib.hid K3
  clear c0 c1 c2 c3 c4 c5 c6 HN B2 W3
  go_wp2_with (go_at_call 71; (with_reducible refine (HE.out).mono ?_); rintro e w4 ⟨rfl, W4, K4⟩; have W4 := Lib.hid W4; have K4 := Lib.hid K4)
  go_end0
  refine ⟨rfl, v3, ?_, ((K1.out.trans K2.out).trans K3.out).trans K4.out⟩
  have := W4.out
  rw [List.append_assoc, List.singleton_append, set_mid] at this
  have e : (l ++ (⟨1, (l.length + 1 : Nat), 0, emp⟩ : Ins) :: codN n (l.length + 1)).length = l.length + lenN n + 1 := by simp [hcl]; omega
  rw [e] at this
  exact this

set_option maxRecDepth 100000 in
set_option maxHeartbeats 4000000 in
theorem cStar (n : Ni) (HC : NodeC n) (hr : rgtN n = true) (p : Nat) (v : Value) (l : List Ins) (a : Option Addr) (m c : Nat) (w : World) (h : Wr p v l w) (hl : l.length + lenN n ≤ 8998) (hK : KidsI w (fun b => b < p) (.slice a m c) n.kids) :
    Calls Tryd.prog 59 #[.pointer (some ⟨p, 0, none⟩), niV n (.slice a m c)] w (WrOut p v l w (⟨1, (l.length + 1 : Nat), (l.length + lenN n + 2 : Nat), emp⟩ :: (codN n (l.length + 1) ++ [⟨2, l.length, 0, emp⟩]))) := by
  have eg : ∀ args w, (callFunc 71 args).run Tryd.prog w = .ok (.enter 71 args) w := enters_of Tryd.func71 (by kernel_rfl) rfl
  have hcl := cod_len n (l.length + 1) hr
  have ga := World.grownBy_alloc w (.cells #[.int .i64 n.kind, .int .i64 n.index, .int .u64 (wd n.set 0), .int .u64 (wd n.set 1), .int .u64 (wd n.set 2), .int .u64 (wd n.set 3), .slice a m c] 44) none
  have B1 := Lib.hid (heap_alloc_new w (.cells #[.int .i64 n.kind, .int .i64 n.index, .int .u64 (wd n.set 0), .int .u64 (wd n.set 1), .int .u64 (wd n.set 2), .int .u64 (wd n.set 3), .slice a m c] 44))
  have SB := Lib.hid (h.safe (w' := w.alloc (.cells #[.int .i64 n.kind, .int .i64 n.index, .int .u64 (wd n.set 0), .int .u64 (wd n.set 1), .int .u64 (wd n.set 2), .int .u64 (wd n.set 3), .slice a m c] 44)) (Nat.le_refl _) (by rw [World.size_alloc]; omega))
  have W1 := Lib.hid (h.kept ga)
  have K1 := Lib.hid (Kp.ofGrown (p := p) (v := v) ga)
  have N1 := Lib.hid (hK.grown ga)
  clear ga hK
  obtain ⟨va, vc, rfl⟩ := owns_shape h.O
  clear h
  go_enter Tryd.func59, Tryd.ntmps59
  go_upto_region 1 with fail
  generalize w.alloc _ = w1 at B1 K1 W1 N1 SB ⊢
  generalize w.heap.size = q at B1 SB ⊢
  have p0 := one_cell W1.out.P
  have HP := Lib.hid (cSplit p _ l w1 W1.out (by omega))
  go_upto_region 3 with (go_at_call 66; (with_reducible refine (HP.out).mono ?_); rintro e w2 ⟨b1, b2, v2, rfl, W2, K2, C2⟩)
  have B2 := Lib.hid (K2.at SB.out B1.out)
  have N2 := Lib.hid (N1.out.wr W1.out K2)
  have W2 := Lib.hid W2; have K2 := Lib.hid K2; have C2 := Lib.hid C2
  clear HP B1 p0
  obtain ⟨c0, c1, c2, c3, c4, c5, c6⟩ := seven_cells B2.out
  have hll : (l ++ [(⟨1, (l.length + 1 : Nat), 0, emp⟩ : Ins)]).length = l.length + 1 := by simp
  have HN := HC p v2 _ a m c w2 W2.out (by rw [hll]; omega) N2.out
  rw [hll] at HN
  have HN := Lib.hid HN
  go_upto_region 4 with (go_at_call 48; (with_reducible refine (HN.out).mono ?_); rintro e w3 ⟨rfl, v3, W3, K3⟩)
  have W3 := Lib.hid W3; have K3 := Lib.hid K3
  clear c0 c1 c2 c3 c4 c5 c6 HN B2
  have HP := Lib.hid (cPut0 p v3 _ 2 l.length 0 w3 W3.out (by simp; omega))
  go_upto_region 5 with (go_at_call 32; (with_reducible refine (HP.out).mono ?_); rintro e w4 ⟨rfl, v4, W4, K4⟩)
  have HE := Lib.hid (cElse p b1 b2 l.length v4 _ ⟨1, (l.length + 1 : Nat), 0, emp⟩ w4 W4 (by simp) ((C2.out.kept K3.out).kept K4))
  have K4 := Lib.hid K4
  clear W4 HP
  go_wp2_with (go_at_call 71; (with_reducible refine (HE.out).mono ?_); rintro e w5 ⟨rfl, W5, K5⟩; have W5 := Lib.hid W5; have K5 := Lib.hid K5)
  go_end0
  refine ⟨rfl, v4, ?_, (((K1.out.trans K2.out).trans K3.out).trans K4.out).trans K5.out⟩
  have := W5.out
  rw [List.append_assoc, List.append_assoc, List.singleton_append, set_mid] at this
  have e : (l ++ (⟨1, (l.length + 1 : Nat), 0, emp⟩ : Ins) :: (codN n (l.length + 1) ++ [⟨2, l.length, 0, emp⟩])).length = l.length + lenN n + 2 := by simp [hcl]; omega
  rw [e] at this
  exact this

set_option maxRecDepth 100000 in
set_option maxHeartbeats 4000000 in
theorem cNodes (n : List Ni) (HC : ∀ n' ∈ n, NodeC n') (hr : rgtL n = true) (p : Nat) (v : Value) (l : List Ins) (a : Option Addr) (m c : Nat) (w : World) (h : Wr p v l w) (hl : l.length + lenL n ≤ 9000) (hn : n.length ≤ 200) (hK : KidsI w (fun b => b < p) (.slice a m c) n) :
    Calls Tryd.prog 57 #[.pointer (some ⟨p, 0, none⟩), .slice a m c] w (WrOut p v l w (codL n l.length)) := by
  obtain rfl := hK.len
  have HC := Lib.hid HC
  have HR := Lib.hid hr
  have W0 := Lib.hid h; have N0 := Lib.hid hK
  clear h hK
  go_enter Tryd.func57, Tryd.ntmps57
  go_wp2
  go_loopw [5, 8] (fun _ i wr => ∃ (j : Nat) (vr : Value), j ≤ n.length ∧ i = .int .i64 j ∧ Hid (Wr p vr (l ++ codL (n.take j) l.length) wr) ∧ Hid (Kp p v w vr wr)) (fun _ i _ => n.length - (intOf i).toNat)
  case atStart => exact ⟨0, v, Nat.zero_le _, rfl, by rw [List.take_zero, codL, List.append_nil]; exact W0, Lib.hid (Kp.refl _ _ _)⟩
  case round =>
    obtain ⟨j, vr, hj, rfl, hW, hG⟩ := hrel
    by_cases hlt : j < n.length
    · obtain ⟨n', hn'⟩ : ∃ n', n[j]? = some n' := ⟨_, List.getElem?_eq_getElem hlt⟩
      have HT := Lib.hid (show codL (n.take (j + 1)) l.length = codL (n.take j) l.length ++ codN n' (l.length + lenL (n.take j)) by rw [List.take_add_one, hn']; exact codL_snoc _ _ _)
      have HL := Lib.hid (show (l ++ codL (n.take j) l.length).length = l.length + lenL (n.take j) by
        rw [List.length_append, codL_len _ _ (by have := HR.out; rw [← List.take_append_drop j n, rgtL_append, Bool.and_eq_true] at this; exact this.1)])
      have HB := Lib.hid (show l.length + lenL (n.take j) + lenN n' ≤ 9000 by have := lenL_take hn'; have := lenL_take_le n (j + 1); omega)
      have hc' := HC.out n' (List.mem_of_getElem? hn')
      have N1 := N0.out.wr W0.out hG.out
      obtain ⟨b0, off, x0, y0, z0, rfl, hc, hk'⟩ := N1.at hn'
      have c0 : wr.cell? ⟨b0, off + j * 7, none⟩ = some (.int .i64 n'.kind) := hc 0 _ rfl
      have c1 := hc 1 _ rfl
      have c2 := hc 2 _ rfl
      have c3 := hc 3 _ rfl
      have c4 := hc 4 _ rfl
      have c5 := hc 5 _ rfl
      have c6 := hc 6 _ rfl
      have ga := World.grownBy_alloc wr (.cells #[.int .i64 n'.kind, .int .i64 n'.index, .int .u64 (wd n'.set 0), .int .u64 (wd n'.set 1), .int .u64 (wd n'.set 2), .int .u64 (wd n'.set 3), .slice x0 y0 z0] 44) none
      have B3 := Lib.hid (heap_alloc_new wr (.cells #[.int .i64 n'.kind, .int .i64 n'.index, .int .u64 (wd n'.set 0), .int .u64 (wd n'.set 1), .int .u64 (wd n'.set 2), .int .u64 (wd n'.set 3), .slice x0 y0 z0] 44))
      have HN := hc' p vr _ x0 y0 z0 _ (hW.out.kept ga) (by rw [HL.out]; exact HB.out) (hk'.grown ga)
      rw [HL.out] at HN
      have HN := Lib.hid HN
      have G3 := Lib.hid (hG.out.trans (Kp.ofGrown ga))
      clear hc hk' hn' ga N1 hc' hW
      go_upto_region 3 with fail
      clear c0 c1 c2 c3 c4 c5 c6
      generalize wr.alloc _ = w4 at B3 HN G3 ⊢
      generalize wr.heap.size = q4 at B3 ⊢
      obtain ⟨c0, c1, c2, c3, c4, c5, c6⟩ := seven_cells B3.out
      go_wp2_with (go_at_call 48; (with_reducible refine (HN.out).mono ?_); rintro e w5 ⟨rfl, v5, W5, K5⟩; have W5 := Lib.hid W5; have K5 := Lib.hid K5)
      go_roundw
      case rel => exact ⟨j + 1, v5, by omega, by go_num, Lib.hid (by have := W5.out; rw [List.append_assoc, ← HT.out] at this; exact this), Lib.hid (G3.out.trans K5.out)⟩
      case measure => simp [intOf]; omega
    · obtain rfl : j = n.length := by omega
      rw [List.take_length] at hW
      go_wp2
      go_end0
      exact ⟨rfl, vr, hW.out, hG.out⟩
end Go.Proofs.YtliefnjhobdphaaDoor

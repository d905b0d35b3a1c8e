/- The writer's codes: stars, pluses, what may be left out, groups, rows. Alternatives: the row of what is to be called behind the whole; the codes while the Jumps aren't given their place. The writer's code of alternatives. -/
import Derived.Test.YtlkjejmmoalliaaGreatDoorPgWr
namespace Go.Proofs.YtlkjejmmoalliaaGreatDoor
open Go.RowKit

/-- what a call that writes a code leaves -/
def WrOut (p : Nat) (v : Value) (l : List Ins) (w : World) (r : List Ins) (e : Ending) (w' : World) : Prop := e = .returned (.tuple #[]) ∧ ∃ v', Wr p v' (l ++ r) w' ∧ Kp p v w v' w'
/-- a node's code is written -/
def NodeC (n : Ni) : Prop := ∀ (p : Nat) (v : Value) (l : List Ins) (a : Option Addr) (m c : Nat) (w : World), Wr p v l w → l.length + lenN n ≤ 9000 → KidsI w (fun b => b < p) (.slice a m c) n.kids →
  Calls Tryz.prog 55 #[.pointer (some ⟨p, 0, none⟩), niV n (.slice a m c)] w (WrOut p v l w (codN n l.length))
theorem set_mid (l r : List Ins) (c c' : Ins) : (l ++ c :: r).set l.length c' = l ++ c' :: r := by simp
theorem get_mid (l r : List Ins) (c : Ins) : (l ++ c :: r)[l.length]? = some c := by simp

set_option maxRecDepth 100000 in
set_option maxHeartbeats 4000000 in
theorem cPlus (n : Ni) (HC : NodeC n) (hr : rgtN n = true) (p : Nat) (v : Value) (l : List Ins) (a : Option Addr) (m c : Nat) (w : World) (h : Wr p v l w) (hl : l.length + lenN n ≤ 8999) (hK : KidsI w (fun b => b < p) (.slice a m c) n.kids) :
    Calls Tryz.prog 71 #[.pointer (some ⟨p, 0, none⟩), niV n (.slice a m c)] w (WrOut p v l w (codN n l.length ++ [⟨1, l.length, (l.length + lenN n + 1 : Nat), emp⟩])) := by
  have hcl := cod_len n l.length hr
  have ga := World.grownBy_alloc w (.cells #[.int .i64 n.kind, .int .i64 n.index, .int .u64 (wd n.set 0), .int .u64 (wd n.set 1), .int .u64 (wd n.set 2), .int .u64 (wd n.set 3), .slice a m c] 28) none
  have B1 := Lib.hid (heap_alloc_new w (.cells #[.int .i64 n.kind, .int .i64 n.index, .int .u64 (wd n.set 0), .int .u64 (wd n.set 1), .int .u64 (wd n.set 2), .int .u64 (wd n.set 3), .slice a m c] 28))
  have W1 := Lib.hid (h.kept ga)
  have K1 := Lib.hid (Kp.ofGrown (p := p) (v := v) ga)
  have N1 := Lib.hid (hK.grown ga)
  clear ga hK
  obtain ⟨va, vc, rfl⟩ := owns_shape h.O
  clear h
  go_enter Tryz.func71, Tryz.ntmps71
  go_upto_region 1 with fail
  generalize w.alloc _ = w1 at B1 K1 W1 N1 ⊢
  generalize w.heap.size = q at B1 ⊢
  have p0 := one_cell W1.out.P
  obtain ⟨c0, c1, c2, c3, c4, c5, c6⟩ := seven_cells B1.out
  have HN := Lib.hid (HC p _ l a m c w1 W1.out (by omega) N1.out)
  go_upto_region 3 with (go_at_call 55; (with_reducible refine (HN.out).mono ?_); rintro e w2 ⟨rfl, v2, W2, K2⟩)
  have W2 := Lib.hid W2; have K2 := Lib.hid K2
  clear c0 c1 c2 c3 c4 c5 c6 p0 B1 HN
  obtain ⟨va2, vc2, rfl⟩ := owns_shape W2.out.O
  obtain ⟨t, ht⟩ : ∃ t, t = l.length + lenN n := ⟨_, rfl⟩
  have hll : (l ++ codN n l.length).length = t := by rw [List.length_append, hcl, ht]
  have HT := Lib.hid ht
  have htl : t ≤ 9000 := by omega
  rw [hll] at W2 K2
  have p0 := one_cell W2.out.P
  have HP := Lib.hid (cPut0 p _ (l ++ codN n l.length) 1 l.length ((t : Int) + 1) w2 W2.out (by omega))
  clear ht hll
  go_wp2_with (go_at_call 31; (with_reducible refine (HP.out).mono ?_); rintro e w3 ⟨rfl, v3, W3, K3⟩; have W3 := Lib.hid W3; have K3 := Lib.hid K3)
  go_end0
  exact ⟨rfl, v3, by rw [← List.append_assoc]; have := W3.out; rw [HT.out] at this; exact this, (K1.out.trans K2.out).trans K3.out⟩

set_option maxRecDepth 100000 in
set_option maxHeartbeats 4000000 in
theorem cBetween (n : Ni) (HC : NodeC n) (k : Int) (hk0 : 0 ≤ k) (hk : k ≤ 1000) (p : Nat) (v : Value) (l : List Ins) (a : Option Addr) (m c : Nat) (w : World) (h : Wr p v l w) (hl : l.length + lenN n ≤ 8998) (hr : rgtN n = true) (hK : KidsI w (fun b => b < p) (.slice a m c) n.kids) :
    Calls Tryz.prog 30 #[.pointer (some ⟨p, 0, none⟩), .int .i64 k, niV n (.slice a m c)] w (WrOut p v l w (⟨3, k, 0, emp⟩ :: (codN n (l.length + 1) ++ [⟨3, k + 1, 0, emp⟩]))) := by
  have hcl := cod_len n (l.length + 1) hr
  have ga := World.grownBy_alloc w (.cells #[.int .i64 n.kind, .int .i64 n.index, .int .u64 (wd n.set 0), .int .u64 (wd n.set 1), .int .u64 (wd n.set 2), .int .u64 (wd n.set 3), .slice a m c] 28) none
  have B1 := Lib.hid (heap_alloc_new w (.cells #[.int .i64 n.kind, .int .i64 n.index, .int .u64 (wd n.set 0), .int .u64 (wd n.set 1), .int .u64 (wd n.set 2), .int .u64 (wd n.set 3), .slice a m c] 28))
  have SB := Lib.hid (h.safe (w' := w.alloc (.cells #[.int .i64 n.kind, .int .i64 n.index, .int .u64 (wd n.set 0), .int .u64 (wd n.set 1), .int .u64 (wd n.set 2), .int .u64 (wd n.set 3), .slice a m c] 28)) (Nat.le_refl _) (by rw [World.size_alloc]; omega))
  have W1 := Lib.hid (h.kept ga)
  have K1 := Lib.hid (Kp.ofGrown (p := p) (v := v) ga)
  have N1 := Lib.hid (hK.grown ga)
  clear ga hK h
  go_enter Tryz.func30, Tryz.ntmps30
  go_upto_region 1 with fail
  generalize w.alloc _ = w1 at B1 K1 W1 N1 SB ⊢
  generalize w.heap.size = q at B1 SB ⊢
  have HP := Lib.hid (cPut0 p v l 3 k 0 w1 W1.out (by omega))
  go_upto_region 2 with (go_at_call 31; (with_reducible refine (HP.out).mono ?_); rintro e w2 ⟨rfl, v2, W2, K2⟩)
  have B2 := Lib.hid (K2.at SB.out B1.out)
  have N2 := Lib.hid (N1.out.wr W1.out K2)
  have W2 := Lib.hid W2; have K2 := Lib.hid K2
  clear HP B1
  obtain ⟨c0, c1, c2, c3, c4, c5, c6⟩ := seven_cells B2.out
  have hll : (l ++ [(⟨3, k, 0, emp⟩ : Ins)]).length = l.length + 1 := by simp
  have HN := HC p v2 _ a m c w2 W2.out (by rw [hll]; omega) N2.out
  rw [hll] at HN
  have HN := Lib.hid HN
  go_upto_region 3 with (go_at_call 55; (with_reducible refine (HN.out).mono ?_); rintro e w3 ⟨rfl, v3, W3, K3⟩)
  have W3 := Lib.hid W3; have K3 := Lib.hid K3
  clear c0 c1 c2 c3 c4 c5 c6 HN B2
  have HP := Lib.hid (cPut0 p v3 _ 3 (k + 1) 0 w3 W3.out (by simp; omega))
  go_wp2_with (go_at_call 31; (with_reducible refine (HP.out).mono ?_); rintro e w4 ⟨rfl, v4, W4, K4⟩; have W4 := Lib.hid W4; have K4 := Lib.hid K4)
  go_end0
  exact ⟨rfl, v4, by have := W4.out; simpa using this, ((K1.out.trans K2.out).trans K3.out).trans K4.out⟩

set_option maxRecDepth 100000 in
set_option maxHeartbeats 4000000 in
theorem cMaybe (n : Ni) (HC : NodeC n) (hr : rgtN n = true) (p : Nat) (v : Value) (l : List Ins) (a : Option Addr) (m c : Nat) (w : World) (h : Wr p v l w) (hl : l.length + lenN n ≤ 8999) (hK : KidsI w (fun b => b < p) (.slice a m c) n.kids) :
    Calls Tryz.prog 72 #[.pointer (some ⟨p, 0, none⟩), niV n (.slice a m c)] w (WrOut p v l w (⟨1, (l.length + 1 : Nat), (l.length + lenN n + 1 : Nat), emp⟩ :: codN n (l.length + 1))) := by
  have eg : ∀ args w, (callFunc 94 args).run Tryz.prog w = .ok (.enter 94 args) w := enters_of Tryz.func94 (by kernel_rfl) rfl
  have hcl := cod_len n (l.length + 1) hr
  have ga := World.grownBy_alloc w (.cells #[.int .i64 n.kind, .int .i64 n.index, .int .u64 (wd n.set 0), .int .u64 (wd n.set 1), .int .u64 (wd n.set 2), .int .u64 (wd n.set 3), .slice a m c] 28) none
  have B1 := Lib.hid (heap_alloc_new w (.cells #[.int .i64 n.kind, .int .i64 n.index, .int .u64 (wd n.set 0), .int .u64 (wd n.set 1), .int .u64 (wd n.set 2), .int .u64 (wd n.set 3), .slice a m c] 28))
  have SB := Lib.hid (h.safe (w' := w.alloc (.cells #[.int .i64 n.kind, .int .i64 n.index, .int .u64 (wd n.set 0), .int .u64 (wd n.set 1), .int .u64 (wd n.set 2), .int .u64 (wd n.set 3), .slice a m c] 28)) (Nat.le_refl _) (by rw [World.size_alloc]; omega))
  have W1 := Lib.hid (h.kept ga)
  have K1 := Lib.hid (Kp.ofGrown (p := p) (v := v) ga)
  have N1 := Lib.hid (hK.grown ga)
  clear ga hK h
  go_enter Tryz.func72, Tryz.ntmps72
  go_upto_region 1 with fail
  generalize w.alloc _ = w1 at B1 K1 W1 N1 SB ⊢
  generalize w.heap.size = q at B1 SB ⊢
  have HP := Lib.hid (cSplit p v l w1 W1.out (by omega))
  go_upto_region 2 with (go_at_call 86; (with_reducible refine (HP.out).mono ?_); rintro e w2 ⟨b1, b2, v2, rfl, W2, K2, C2⟩)
  have B2 := Lib.hid (K2.at SB.out B1.out)
  have N2 := Lib.hid (N1.out.wr W1.out K2)
  have W2 := Lib.hid W2; have K2 := Lib.hid K2; have C2 := Lib.hid C2
  clear HP B1
  obtain ⟨c0, c1, c2, c3, c4, c5, c6⟩ := seven_cells B2.out
  have hll : (l ++ [(⟨1, (l.length + 1 : Nat), 0, emp⟩ : Ins)]).length = l.length + 1 := by simp
  have HN := HC p v2 _ a m c w2 W2.out (by rw [hll]; omega) N2.out
  rw [hll] at HN
  have HN := Lib.hid HN
  go_upto_region 3 with (go_at_call 55; (with_reducible refine (HN.out).mono ?_); rintro e w3 ⟨rfl, v3, W3, K3⟩)
  have HE := Lib.hid (cElse p b1 b2 l.length v3 _ ⟨1, (l.length + 1 : Nat), 0, emp⟩ w3 W3 (by simp) (C2.out.kept K3))
  have K3 := Lib.hid K3
  clear c0 c1 c2 c3 c4 c5 c6 HN B2 W3
  go_wp2_with (go_at_call 94; (with_reducible refine (HE.out).mono ?_); rintro e w4 ⟨rfl, W4, K4⟩; have W4 := Lib.hid W4; have K4 := Lib.hid K4)
  go_end0
  refine ⟨rfl, v3, ?_, ((K1.out.trans K2.out).trans K3.out).trans K4.out⟩
  have := W4.out
  rw [List.append_assoc, List.singleton_append, set_mid] at this
  have e : (l ++ (⟨1, (l.length + 1 : Nat), 0, emp⟩ : Ins) :: codN n (l.length + 1)).length = l.length + lenN n + 1 := by simp [hcl]; omega
  rw [e] at this
  exact this

set_option maxRecDepth 100000 in
set_option maxHeartbeats 4000000 in
theorem cStar (n : Ni) (HC : NodeC n) (hr : rgtN n = true) (p : Nat) (v : Value) (l : List Ins) (a : Option Addr) (m c : Nat) (w : World) (h : Wr p v l w) (hl : l.length + lenN n ≤ 8998) (hK : KidsI w (fun b => b < p) (.slice a m c) n.kids) :
    Calls Tryz.prog 70 #[.pointer (some ⟨p, 0, none⟩), niV n (.slice a m c)] w (WrOut p v l w (⟨1, (l.length + 1 : Nat), (l.length + lenN n + 2 : Nat), emp⟩ :: (codN n (l.length + 1) ++ [⟨2, l.length, 0, emp⟩]))) := by
  have eg : ∀ args w, (callFunc 94 args).run Tryz.prog w = .ok (.enter 94 args) w := enters_of Tryz.func94 (by kernel_rfl) rfl
  have hcl := cod_len n (l.length + 1) hr
  have ga := World.grownBy_alloc w (.cells #[.int .i64 n.kind, .int .i64 n.index, .int .u64 (wd n.set 0), .int .u64 (wd n.set 1), .int .u64 (wd n.set 2), .int .u64 (wd n.set 3), .slice a m c] 28) none
  have B1 := Lib.hid (heap_alloc_new w (.cells #[.int .i64 n.kind, .int .i64 n.index, .int .u64 (wd n.set 0), .int .u64 (wd n.set 1), .int .u64 (wd n.set 2), .int .u64 (wd n.set 3), .slice a m c] 28))
  have SB := Lib.hid (h.safe (w' := w.alloc (.cells #[.int .i64 n.kind, .int .i64 n.index, .int .u64 (wd n.set 0), .int .u64 (wd n.set 1), .int .u64 (wd n.set 2), .int .u64 (wd n.set 3), .slice a m c] 28)) (Nat.le_refl _) (by rw [World.size_alloc]; omega))
  have W1 := Lib.hid (h.kept ga)
  have K1 := Lib.hid (Kp.ofGrown (p := p) (v := v) ga)
  have N1 := Lib.hid (hK.grown ga)
  clear ga hK
  obtain ⟨va, vc, rfl⟩ := owns_shape h.O
  clear h
  go_enter Tryz.func70, Tryz.ntmps70
  go_upto_region 1 with fail
  generalize w.alloc _ = w1 at B1 K1 W1 N1 SB ⊢
  generalize w.heap.size = q at B1 SB ⊢
  have p0 := one_cell W1.out.P
  have HP := Lib.hid (cSplit p _ l w1 W1.out (by omega))
  go_upto_region 3 with (go_at_call 86; (with_reducible refine (HP.out).mono ?_); rintro e w2 ⟨b1, b2, v2, rfl, W2, K2, C2⟩)
  have B2 := Lib.hid (K2.at SB.out B1.out)
  have N2 := Lib.hid (N1.out.wr W1.out K2)
  have W2 := Lib.hid W2; have K2 := Lib.hid K2; have C2 := Lib.hid C2
  clear HP B1 p0
  obtain ⟨c0, c1, c2, c3, c4, c5, c6⟩ := seven_cells B2.out
  have hll : (l ++ [(⟨1, (l.length + 1 : Nat), 0, emp⟩ : Ins)]).length = l.length + 1 := by simp
  have HN := HC p v2 _ a m c w2 W2.out (by rw [hll]; omega) N2.out
  rw [hll] at HN
  have HN := Lib.hid HN
  go_upto_region 4 with (go_at_call 55; (with_reducible refine (HN.out).mono ?_); rintro e w3 ⟨rfl, v3, W3, K3⟩)
  have W3 := Lib.hid W3; have K3 := Lib.hid K3
  clear c0 c1 c2 c3 c4 c5 c6 HN B2
  have HP := Lib.hid (cPut0 p v3 _ 2 l.length 0 w3 W3.out (by simp; omega))
  go_upto_region 5 with (go_at_call 31; (with_reducible refine (HP.out).mono ?_); rintro e w4 ⟨rfl, v4, W4, K4⟩)
  have HE := Lib.hid (cElse p b1 b2 l.length v4 _ ⟨1, (l.length + 1 : Nat), 0, emp⟩ w4 W4 (by simp) ((C2.out.kept K3.out).kept K4))
  have K4 := Lib.hid K4
  clear W4 HP
  go_wp2_with (go_at_call 94; (with_reducible refine (HE.out).mono ?_); rintro e w5 ⟨rfl, W5, K5⟩; have W5 := Lib.hid W5; have K5 := Lib.hid K5)
  go_end0
  refine ⟨rfl, v4, ?_, (((K1.out.trans K2.out).trans K3.out).trans K4.out).trans K5.out⟩
  have := W5.out
  rw [List.append_assoc, List.append_assoc, List.singleton_append, set_mid] at this
  have e : (l ++ (⟨1, (l.length + 1 : Nat), 0, emp⟩ : Ins) :: (codN n (l.length + 1) ++ [⟨2, l.length, 0, emp⟩])).length = l.length + lenN n + 2 := by simp [hcl]; omega
  rw [e] at this
  exact this

set_option maxRecDepth 100000 in
set_option maxHeartbeats 4000000 in
theorem cNodes (n : List Ni) (HC : ∀ n' ∈ n, NodeC n') (hr : rgtL n = true) (p : Nat) (v : Value) (l : List Ins) (a : Option Addr) (m c : Nat) (w : World) (h : Wr p v l w) (hl : l.length + lenL n ≤ 9000) (hn : n.length ≤ 200) (hK : KidsI w (fun b => b < p) (.slice a m c) n) :
    Calls Tryz.prog 68 #[.pointer (some ⟨p, 0, none⟩), .slice a m c] w (WrOut p v l w (codL n l.length)) := by
  obtain rfl := hK.len
  have HC := Lib.hid HC
  have HR := Lib.hid hr
  have W0 := Lib.hid h; have N0 := Lib.hid hK
  clear h hK
  go_enter Tryz.func68, Tryz.ntmps68
  go_wp2
  go_loopw [5, 8] (fun _ i wr => ∃ (j : Nat) (vr : Value), j ≤ n.length ∧ i = .int .i64 j ∧ Hid (Wr p vr (l ++ codL (n.take j) l.length) wr) ∧ Hid (Kp p v w vr wr)) (fun _ i _ => n.length - (intOf i).toNat)
  case atStart => exact ⟨0, v, Nat.zero_le _, rfl, by rw [List.take_zero, codL, List.append_nil]; exact W0, Lib.hid (Kp.refl _ _ _)⟩
  case round =>
    obtain ⟨j, vr, hj, rfl, hW, hG⟩ := hrel
    by_cases hlt : j < n.length
    · obtain ⟨n', hn'⟩ : ∃ n', n[j]? = some n' := ⟨_, List.getElem?_eq_getElem hlt⟩
      have HT := Lib.hid (show codL (n.take (j + 1)) l.length = codL (n.take j) l.length ++ codN n' (l.length + lenL (n.take j)) by rw [List.take_add_one, hn']; exact codL_snoc _ _ _)
      have HL := Lib.hid (show (l ++ codL (n.take j) l.length).length = l.length + lenL (n.take j) by
        rw [List.length_append, codL_len _ _ (by have := HR.out; rw [← List.take_append_drop j n, rgtL_append, Bool.and_eq_true] at this; exact this.1)])
      have HB := Lib.hid (show l.length + lenL (n.take j) + lenN n' ≤ 9000 by have := lenL_take hn'; have := lenL_take_le n (j + 1); omega)
      have hc' := HC.out n' (List.mem_of_getElem? hn')
      have N1 := N0.out.wr W0.out hG.out
      obtain ⟨b0, off, x0, y0, z0, rfl, hc, hk'⟩ := N1.at hn'
      have c0 : wr.cell? ⟨b0, off + j * 7, none⟩ = some (.int .i64 n'.kind) := hc 0 _ rfl
      have c1 := hc 1 _ rfl
      have c2 := hc 2 _ rfl
      have c3 := hc 3 _ rfl
      have c4 := hc 4 _ rfl
      have c5 := hc 5 _ rfl
      have c6 := hc 6 _ rfl
      have ga := World.grownBy_alloc wr (.cells #[.int .i64 n'.kind, .int .i64 n'.index, .int .u64 (wd n'.set 0), .int .u64 (wd n'.set 1), .int .u64 (wd n'.set 2), .int .u64 (wd n'.set 3), .slice x0 y0 z0] 28) none
      have B3 := Lib.hid (heap_alloc_new wr (.cells #[.int .i64 n'.kind, .int .i64 n'.index, .int .u64 (wd n'.set 0), .int .u64 (wd n'.set 1), .int .u64 (wd n'.set 2), .int .u64 (wd n'.set 3), .slice x0 y0 z0] 28))
      have HN := hc' p vr _ x0 y0 z0 _ (hW.out.kept ga) (by rw [HL.out]; exact HB.out) (hk'.grown ga)
      rw [HL.out] at HN
      have HN := Lib.hid HN
      have G3 := Lib.hid (hG.out.trans (Kp.ofGrown ga))
      clear hc hk' hn' ga N1 hc' hW
      go_upto_region 3 with fail
      clear c0 c1 c2 c3 c4 c5 c6
      generalize wr.alloc _ = w4 at B3 HN G3 ⊢
      generalize wr.heap.size = q4 at B3 ⊢
      obtain ⟨c0, c1, c2, c3, c4, c5, c6⟩ := seven_cells B3.out
      go_wp2_with (go_at_call 55; (with_reducible refine (HN.out).mono ?_); rintro e w5 ⟨rfl, v5, W5, K5⟩; have W5 := Lib.hid W5; have K5 := Lib.hid K5)
      go_roundw
      case rel => exact ⟨j + 1, v5, by omega, by go_num, Lib.hid (by have := W5.out; rw [List.append_assoc, ← HT.out] at this; exact this), Lib.hid (G3.out.trans K5.out)⟩
      case measure => simp [intOf]; omega
    · obtain rfl : j = n.length := by omega
      rw [List.take_length] at hW
      go_wp2
      go_end0
      exact ⟨rfl, vr, hW.out, hG.out⟩
end Go.Proofs.YtlkjejmmoalliaaGreatDoor

namespace Go.Proofs.YtlkjejmmoalliaaGreatDoor
open Go.RowKit

/-- the place of the k-th Jump -/
def plc (s : Nat) (L : List Ni) (k : Nat) : Nat := s + preC (L.take (k + 1)) - 1
/-- the code while i Jumps have been given their place e -/
def mixA (l : List Ins) (e : Int) (L : List Ni) (T : List Ins) (i : Nat) : List Ins := l ++ (preA e (L.take i) l.length ++ (preA 0 (L.drop i) (l.length + preC (L.take i)) ++ T))
theorem rgtL_takeT {L : List Ni} (h : rgtL L = true) (i : Nat) : rgtL (L.take i) = true := by
  rw [← List.take_append_drop i L, rgtL_append, Bool.and_eq_true] at h; exact h.1
theorem preC_take {L : List Ni} {i : Nat} {n : Ni} (h : L[i]? = some n) : preC (L.take (i + 1)) = preC (L.take i) + 2 + lenN n := by
  rw [List.take_add_one, h]; exact preC_snoc _ _
theorem mixA_at {l T : List Ins} {e : Int} {L : List Ni} {i : Nat} {n : Ni} (h : L[i]? = some n) (hr : rgtL L = true) :
    (mixA l e L T i)[plc l.length L i]? = some ⟨2, 0, 0, emp⟩ ∧ (mixA l e L T i).set (plc l.length L i) ⟨2, e, 0, emp⟩ = mixA l e L T (i + 1) := by
  have hd : L.drop i = n :: L.drop (i + 1) := by
    obtain ⟨hi, e'⟩ := List.getElem?_eq_some_iff.1 h
    rw [List.drop_eq_getElem_cons hi, e']
  have hp : plc l.length L i = l.length + preC (L.take i) + 1 + lenN n := by unfold plc; rw [preC_take h]; omega
  have hrn := rgtL_mem hr (List.mem_of_getElem? h)
  have hA := preA_len e (L.take i) l.length (rgtL_takeT hr i)
  have hN := cod_len n (l.length + preC (L.take i) + 1) hrn
  have hm : mixA l e L T i = (l ++ (preA e (L.take i) l.length ++ (⟨1, (l.length + preC (L.take i) + 1 : Nat), (l.length + preC (L.take i) + 2 + lenN n : Nat), emp⟩ : Ins) :: codN n (l.length + preC (L.take i) + 1))) ++ (⟨2, 0, 0, emp⟩ : Ins) :: (preA 0 (L.drop (i + 1)) (l.length + preC (L.take (i + 1))) ++ T) := by
    unfold mixA
    rw [hd, preA, preC_take h, ← Nat.add_assoc, ← Nat.add_assoc]
    simp
  have hl : (l ++ (preA e (L.take i) l.length ++ (⟨1, (l.length + preC (L.take i) + 1 : Nat), (l.length + preC (L.take i) + 2 + lenN n : Nat), emp⟩ : Ins) :: codN n (l.length + preC (L.take i) + 1))).length = plc l.length L i := by
    rw [hp, List.length_append, List.length_append, List.length_cons, hA, hN]; omega
  rw [hm, ← hl, get_mid, set_mid]
  refine ⟨rfl, ?_⟩
  unfold mixA
  rw [List.take_add_one (l := L), h]
  simp only [Option.toList_some]
  rw [preA_snoc]
  simp
theorem mixA_len {l T : List Ins} {e : Int} {L : List Ni} {i : Nat} (hr : rgtL L = true) : (mixA l e L T i).length = l.length + preC L + T.length := by
  have h2 : rgtL (L.drop i) = true := by rw [← List.take_append_drop i L, rgtL_append, Bool.and_eq_true] at hr; exact hr.2
  have h3 : preC L = preC (L.take i) + preC (L.drop i) := by
    unfold preC
    have := lenL_append (L.take i) (L.drop i)
    rw [List.take_append_drop] at this
    have h4 := congrArg List.length (List.take_append_drop i L)
    rw [List.length_append] at h4
    omega
  unfold mixA
  rw [List.length_append, List.length_append, List.length_append, preA_len _ _ _ (rgtL_takeT hr i), preA_len _ _ _ h2]
  omega
theorem mixA_zero (l T : List Ins) (e : Int) (L : List Ni) : mixA l e L T 0 = l ++ (preA 0 L l.length ++ T) := by unfold mixA; simp [preA, preC, lenL]
theorem mixA_all (l T : List Ins) (e : Int) (L : List Ni) : mixA l e L T L.length = l ++ (preA e L l.length ++ T) := by unfold mixA; simp [preA]

theorem alt_step {l X : List Ins} {L : List Ni} {j : Nat} {n : Ni} (h : L[j]? = some n) (hr : rgtL L = true) (hX : X = l ++ preA 0 (L.take j) l.length) :
    (((X ++ [(⟨1, (X.length + 1 : Nat), 0, emp⟩ : Ins)]) ++ codN n (X.length + 1)) ++ [(⟨2, 0, 0, emp⟩ : Ins)]).set X.length ⟨1, (X.length + 1 : Nat), ((((X ++ [(⟨1, (X.length + 1 : Nat), 0, emp⟩ : Ins)]) ++ codN n (X.length + 1)) ++ [(⟨2, 0, 0, emp⟩ : Ins)]).length : Nat), emp⟩ = l ++ preA 0 (L.take (j + 1)) l.length ∧
      ((X ++ [(⟨1, (X.length + 1 : Nat), 0, emp⟩ : Ins)]) ++ codN n (X.length + 1)).length = plc l.length L j ∧ X.length = l.length + preC (L.take j) := by
  have hl : X.length = l.length + preC (L.take j) := by rw [hX, List.length_append, preA_len _ _ _ (rgtL_takeT hr j)]
  have hN := cod_len n (X.length + 1) (rgtL_mem hr (List.mem_of_getElem? h))
  have h2 : ((X ++ [(⟨1, (X.length + 1 : Nat), 0, emp⟩ : Ins)]) ++ codN n (X.length + 1)).length = X.length + 1 + lenN n := by rw [List.length_append, List.length_append, hN]; rfl
  refine ⟨?_, ?_, hl⟩
  · rw [List.length_append, h2, List.append_assoc, List.append_assoc, List.singleton_append, set_mid, List.take_add_one, h]
    simp only [Option.toList_some]
    rw [preA_snoc, ← hl, hX]
    simp only [List.length_cons, List.length_nil, List.append_assoc, Nat.zero_add]
    congr 4
    omega
  · rw [h2]; unfold plc; rw [preC_take h]; omega

abbrev fnJ (b1 b2 : Nat) : Value := .func (.func 95) #[] #[.pointer (some ⟨b1, 0, none⟩), .pointer (some ⟨b2, 0, none⟩)]
/-- the row of what is to be called -/
structure Lv (p base : Nat) (pl : Nat → Nat) (cl : List Value) (vl vr : Value) (w : World) : Prop where
  R : w.ownsRow base 1 1 vl cl.length cl
  S : ∀ b, vl.ownBlock = some b → Safe p vr b w
  C : ∀ i c, cl[i]? = some c → ∃ b1 b2, c = fnJ b1 b2 ∧ Clo p vr (pl i) b1 b2 w
theorem owns_block {w w' : World} {base : Nat} {e : TypeId} {s n : Nat} {v : Value} {xs : List Value} (h : w.ownsRow base e s v n xs) (hb : ∀ g, v.ownBlock = some g → w'.heap[g]? = w.heap[g]?) : w'.ownsRow base e s v n xs := by
  refine ⟨h.1, ?_⟩
  rcases h.2 with h0 | ⟨g, cap, cur, rfl, h1, h2, h3⟩
  · exact .inl h0
  · exact .inr ⟨g, cap, cur, rfl, h1, (hb g rfl).trans h2, h3⟩
theorem Lv.kept {p base : Nat} {pl : Nat → Nat} {cl : List Value} {vl vr vr' : Value} {w w' : World} (h : Lv p base pl cl vl vr w) (g : Kp p vr w vr' w') : Lv p base pl cl vl vr' w' :=
  ⟨owns_block h.R (fun b hb => g.block b (h.S b hb).lt (h.S b hb).ne (h.S b hb).no), fun b hb => g.safe (h.S b hb), fun i c hc => by obtain ⟨b1, b2, e, C⟩ := h.C i c hc; exact ⟨b1, b2, e, C.kept g⟩⟩
theorem Lv.grown {p base : Nat} {pl : Nat → Nat} {cl : List Value} {vl vr : Value} {w w' : World} (h : Lv p base pl cl vl vr w) (g : w.grownBy w' none) : Lv p base pl cl vl vr w' := h.kept (Kp.ofGrown g)
theorem Wr.row {p : Nat} {v : Value} {l : List Ins} {w w' : World} {row : Option Nat} (h : Wr p v l w) (g : w.grownBy w' row) (hr : ∀ b, row = some b → Safe p v b w) : Wr p v l w' :=
  ⟨(g.block p h.lt (fun e => (hr p e.symm).ne rfl)).trans h.P, h.O.kept g (by
    cases ho : v.ownBlock with
    | none => exact .inl rfl
    | some b => exact .inr (fun e => (hr b e.symm).no ho.symm))⟩
theorem Kp.row {p : Nat} {v v' : Value} {w w1 w2 : World} {row : Option Nat} (h : Kp p v w v' w1) (g : w1.grownBy w2 row) (hr : ∀ b, row = some b → w.heap.size ≤ b) : Kp p v w v' w2 :=
  ⟨g.os.trans h.os, g.tape.trans h.tape, g.output.trans h.output, Nat.le_trans h.size g.size, fun b hb hp hv => (g.block b (Nat.lt_of_lt_of_le hb h.size) (fun e => by have := hr b e.symm; omega)).trans (h.block b hb hp hv), h.own⟩
/-- a closure's blocks are no rows of functions -/
theorem Clo.row {p k b1 b2 base n : Nat} {v vl : Value} {xs : List Value} {w w' : World} (h : Clo p v k b1 b2 w) (R : w.ownsRow base 1 1 vl n xs) (g : w.grownBy w' vl.ownBlock) : Clo p v k b1 b2 w' := by
  have ne : ∀ b c t, w.heap[b]? = some (.cells c t (0, 0)) → t ≠ 1 → some b ≠ vl.ownBlock := fun b c t hb ht e => by
    rcases R.2 with ⟨rfl, -⟩ | ⟨gg, cap, cur, rfl, -, hg, -⟩
    · cases e
    · have e' : b = gg := Option.some.inj e
      subst e'
      rw [hg] at hb
      simp only [Option.some.injEq, Obj.cells.injEq] at hb
      exact ht hb.2.1.symm
  exact ⟨(g.block b1 h.S1.lt (ne _ _ _ h.A (by decide))).trans h.A, (g.block b2 h.S2.lt (ne _ _ _ h.B (by decide))).trans h.B,
    ⟨Nat.lt_of_lt_of_le h.S1.lt g.size, h.S1.ne, h.S1.no⟩, ⟨Nat.lt_of_lt_of_le h.S2.lt g.size, h.S2.ne, h.S2.no⟩⟩
theorem Lv.cell {p base k n : Nat} {pl : Nat → Nat} {cl : List Value} {va : Option Addr} {vc : Nat} {vr x : Value} {w : World} (h : Lv p base pl cl (.slice va n vc) vr w) (hk : cl[k]? = some x) : ∃ g, va = some ⟨g, 0, none⟩ ∧ w.cell? ⟨g, k, none⟩ = some x := by
  have hR := h.R
  rcases h.R.2 with ⟨e, h0⟩ | ⟨g, cap, cur, e, -, -, -⟩
  · have : cl = [] := List.eq_nil_of_length_eq_zero h0
    subst this; simp at hk
  · cases e
    have := hR.cells (g := g) rfl k x hk
    rw [Addr.add_lit, Nat.zero_add] at this
    exact ⟨g, rfl, this⟩
theorem Lv.push {p base gg cap b1 b2 : Nat} {pl : Nat → Nat} {cl : List Value} {vl vr : Value} {l : List Ins} {W w7 : World} (h : Lv p base pl cl vl vr W) (hw : Wr p vr l W) (C : Clo p vr (pl cl.length) b1 b2 W)
    (o : w7.ownsRow base 1 1 (.slice (some ⟨gg, 0, none⟩) (cl.length + 1) cap) (cl.length + 1) (cl ++ [fnJ b1 b2])) (g : W.grownBy w7 vl.ownBlock) (hat : vl.ownBlock = some gg ∨ gg = W.heap.size) (hlt : gg < w7.heap.size) :
    Lv p base pl (cl ++ [fnJ b1 b2]) (.slice (some ⟨gg, 0, none⟩) (cl.length + 1) cap) vr w7 := by
  refine ⟨by rw [List.length_append]; exact o, fun b hb => ?_, fun i c hc => ?_⟩
  · have e : gg = b := Option.some.inj hb
    subst e
    rcases hat with e | e
    · have := h.S gg e; exact ⟨hlt, this.ne, this.no⟩
    · subst e; exact hw.safe (Nat.le_refl _) hlt
  · rw [List.getElem?_append] at hc
    split at hc
    · obtain ⟨a1, a2, e, C'⟩ := h.C i c hc
      exact ⟨a1, a2, e, C'.row h.R g⟩
    · rename_i hi
      have : i - cl.length = 0 := by
        rcases Nat.eq_zero_or_pos (i - cl.length) with h | h
        · exact h
        · rw [List.getElem?_eq_none (by simp; omega)] at hc; cases hc
      have hi2 : i = cl.length := by omega
      subst hi2
      simp at hc
      exact ⟨b1, b2, hc.symm, C.row h.R g⟩
end Go.Proofs.YtlkjejmmoalliaaGreatDoor

namespace Go.Proofs.YtlkjejmmoalliaaGreatDoor
open Go.RowKit

theorem infoFn : (Tryz.prog.info? 1).map (fun i => (i.zero, i.size, i.bytes)) = some (some .nilFunc, 1, 8) := by kernel_rfl
theorem new_fn (w : World) (u : Value) (t : TypeId) (m : Nat) (hm : m = w.heap.size) : ∀ j x, [u][j]? = some x → (w.alloc (.cells #[u] t)).cell? ((⟨m, 0, none⟩ : Addr).add j) = some x := by
  subst hm
  exact World.news_of_block (cs := #[u]) (t := t) (fr := (0, 0)) (heap_alloc_new w _)
theorem fn_one (b1 b2 : Nat) : ∀ u ∈ [fnJ b1 b2], u.oneCell' = true := by intro u hu; simp at hu; subst hu; rfl

set_option maxRecDepth 100000 in
set_option maxHeartbeats 8000000 in
theorem cAlt (L : List Ni) (z : Ni) (hL : L ≠ []) (HC : ∀ n ∈ L, NodeC n) (HZ : NodeC z) (hr : rgtL (L ++ [z]) = true) (p : Nat) (v : Value) (l : List Ins) (a : Option Addr) (m c : Nat) (w : World) (h : Wr p v l w)
    (hl : l.length + (lenL (L ++ [z]) + 2 * L.length) ≤ 9000) (hn : L.length ≤ 200) (hK : KidsI w (fun b => b < p) (.slice a m c) (L ++ [z])) :
    Calls Tryz.prog 69 #[.pointer (some ⟨p, 0, none⟩), .slice a m c] w (WrOut p v l w (codA (l.length + (lenL (L ++ [z]) + 2 * L.length)) (L ++ [z]) l.length)) := by
  have eg : ∀ args w, (callFunc 94 args).run Tryz.prog w = .ok (.enter 94 args) w := enters_of Tryz.func94 (by kernel_rfl) rfl
  have eh : ∀ args w, (callFunc 95 args).run Tryz.prog w = .ok (.enter 95 args) w := enters_of Tryz.func95 (by kernel_rfl) rfl
  obtain ⟨iu, hiu, hu0, hu1, hu2⟩ := info_parts infoFn
  have IU := Lib.hid hiu; have ZU0 := Lib.hid hu0; have ZU1 := Lib.hid hu1; have ZU2 := Lib.hid hu2
  clear hiu hu0 hu1 hu2
  obtain rfl : m = L.length + 1 := by rw [hK.len, List.length_append]; rfl
  have hcap : L.length + 1 ≤ c := by have := hK.cap (by simp); rw [List.length_append] at this; exact this
  rw [lenL_append, lenL_one] at hl
  rw [rgtL_append, Bool.and_eq_true, rgtL, rgtL, Bool.and_true] at hr
  have HR := Lib.hid hr.1
  have hrz := hr.2
  have W0 := Lib.hid h; have N0 := Lib.hid hK; have NF := Lib.hid (hK.front hL)
  have HP0 := Lib.hid (show ∀ b, b < p → b < w.heap.size from fun b hb => by have := h.lt; omega)
  have HC := Lib.hid HC
  have HLEN := Lib.hid hl
  clear h hK hr hL
  go_enter Tryz.func69, Tryz.ntmps69
  go_wp2
  go_loopw [5, 7, 8, 18] (fun vl _ _ i wr => ∃ (cl : List Value) (vr : Value), cl.length ≤ L.length ∧ i = .int .i64 cl.length ∧ Hid (Wr p vr (l ++ preA 0 (L.take cl.length) l.length) wr) ∧ Hid (Kp p v w vr wr) ∧ Hid (Lv p w.heap.size (plc l.length L) cl vl vr wr)) (fun _ _ _ i _ => L.length - (intOf i).toNat)
  case atStart => exact ⟨[], v, Nat.zero_le _, rfl, by rw [List.length_nil, List.take_zero, preA, List.append_nil]; exact W0, Lib.hid (Kp.refl _ _ _), Lib.hid ⟨World.ownsRow_nil _ _ _ _, fun b hb => (by cases hb), fun i c hc => (by simp at hc)⟩⟩
  case round =>
    obtain ⟨cl, vr, hj, rfl, hW, hG, hV⟩ := hrel
    obtain ⟨va, vc, rfl⟩ := owns_shape hV.out.R
    by_cases hlt : cl.length < L.length
    · obtain ⟨n', hn'⟩ : ∃ n', L[cl.length]? = some n' := ⟨_, List.getElem?_eq_getElem hlt⟩
      obtain ⟨X, hX⟩ : ∃ X, X = l ++ preA 0 (L.take cl.length) l.length := ⟨_, rfl⟩
      have HS := Lib.hid (alt_step hn' HR.out hX)
      rw [← hX] at hW
      have HB := Lib.hid (show X.length + lenN n' + 2 ≤ 9000 by
        have h1 := HS.out.2.2
        have h2 := lenL_take hn'
        have h3 := lenL_take_le L (cl.length + 1)
        have h4 := HLEN.out
        have h5 : preC (L.take cl.length) = lenL (L.take cl.length) + 2 * cl.length := by unfold preC; rw [List.length_take]; congr 2; omega
        omega)
      have HPL := Lib.hid (show plc l.length L cl.length = X.length + 1 + lenN n' by have h1 := HS.out.2.2; unfold plc; rw [preC_take hn']; omega)
      have hc' := HC.out n' (List.mem_of_getElem? hn')
      have N1 := NF.out.wr W0.out hG.out
      obtain ⟨b0, off, x0, y0, z0, rfl, hc, hk'⟩ := N1.at hn'
      have c0 : wr.cell? ⟨b0, off + cl.length * 7, none⟩ = some (.int .i64 n'.kind) := hc 0 _ rfl
      have c1 := hc 1 _ rfl
      have c2 := hc 2 _ rfl
      have c3 := hc 3 _ rfl
      have c4 := hc 4 _ rfl
      have c5 := hc 5 _ rfl
      have c6 := hc 6 _ rfl
      have ga := World.grownBy_alloc wr (.cells #[.int .i64 n'.kind, .int .i64 n'.index, .int .u64 (wd n'.set 0), .int .u64 (wd n'.set 1), .int .u64 (wd n'.set 2), .int .u64 (wd n'.set 3), .slice x0 y0 z0] 28) none
      have B3 := Lib.hid (heap_alloc_new wr (.cells #[.int .i64 n'.kind, .int .i64 n'.index, .int .u64 (wd n'.set 0), .int .u64 (wd n'.set 1), .int .u64 (wd n'.set 2), .int .u64 (wd n'.set 3), .slice x0 y0 z0] 28))
      have S3 := Lib.hid (hW.out.safe (w' := wr.alloc (.cells #[.int .i64 n'.kind, .int .i64 n'.index, .int .u64 (wd n'.set 0), .int .u64 (wd n'.set 1), .int .u64 (wd n'.set 2), .int .u64 (wd n'.set 3), .slice x0 y0 z0] 28)) (Nat.le_refl _) (by rw [World.size_alloc]; omega))
      have W3 := Lib.hid (hW.out.kept ga)
      have V3 := Lib.hid (hV.out.grown ga)
      have K3 := Lib.hid (hk'.grown ga)
      have G3 := Lib.hid (hG.out.trans (Kp.ofGrown ga))
      have HSP := Lib.hid (cSplit p vr X _ W3.out (by have := HB.out; omega))
      clear hc hk' hn' ga N1 hW hV hG hX
      go_upto_region 5 with fail
      clear c0 c1 c2 c3 c4 c5 c6
      generalize wr.alloc _ = w4 at B3 S3 W3 V3 K3 G3 HSP ⊢
      generalize wr.heap.size = q4 at B3 S3 ⊢
      go_upto_region 6 with (go_at_call 86; (with_reducible refine (HSP.out).mono ?_); rintro e w5 ⟨b1, b2, v5, rfl, W5, K5, C5⟩)
      have B5 := Lib.hid (K5.at S3.out B3.out)
      have V5 := Lib.hid (V3.out.kept K5)
      have N5 := K3.out.wr W3.out K5
      have G5 := Lib.hid (G3.out.trans K5)
      have C5 := Lib.hid C5
      have HN := hc' p v5 _ x0 y0 z0 w5 W5 (by rw [List.length_append]; have := HB.out; simp; omega) N5
      rw [List.length_append, List.length_singleton] at HN
      have HN := Lib.hid HN
      clear HSP B3 V3 K3 W3 G3 S3 N5 W5 K5 hc'
      obtain ⟨c0, c1, c2, c3, c4, c5, c6⟩ := seven_cells B5.out
      go_upto_region 7 with (go_at_call 55; (with_reducible refine (HN.out).mono ?_); rintro e w6 ⟨rfl, v6, W6, K6⟩)
      clear c0 c1 c2 c3 c4 c5 c6 B5 HN
      have V6 := Lib.hid (V5.out.kept K6)
      have C6 := Lib.hid (C5.out.kept K6)
      have G6 := Lib.hid (G5.out.trans K6)
      have HJ := Lib.hid (cJump p v6 _ w6 W6 (by rw [HS.out.2.1, HPL.out]; have := HB.out; omega))
      rw [HS.out.2.1] at HJ
      have CB := HB.out
      have CHL := HLEN.out
      go_wp2_with (first
        | (go_at_call 87; (with_reducible refine (HJ.out).mono ?_); rintro e w7 ⟨b3, b4, v7, rfl, W7, K7, C7⟩; have gA := World.grownBy_alloc w7 (.cells #[fnJ b3 b4] 1) none; have V8 := Lib.hid ((V6.out.kept K7).grown gA); have W8 := Lib.hid (W7.kept gA); have C8 := Lib.hid ((C6.out.kept K7).grown gA); have D8 := Lib.hid (C7.grown gA); have G8 := Lib.hid ((G6.out.trans K7).trans (Kp.ofGrown gA)); clear gA K7 C7 W7)
        | (at_builtin; refine wpList_append_lies _ rfl _ _ 138 rfl w.heap.size 1 iu _ 1 8 Tryz.underlying138 IU.out ZU0.out ZU1.out ZU2.out rfl (by decide) _ _ _ rfl V8.out.R ⟨_, 0, none⟩ 1 1 [fnJ b3 b4] rfl rfl (new_fn _ _ _ _ (by simp)) (fn_one b3 b4) (by decide) (by unfold maxLen; omega) (by omega) (by have := G8.out.size; simpa using this) _ rfl ?_; intro gg cap w9 hown2 hgrow2 hat hlt2; have V9 := Lib.hid (V8.out.push W8.out D8.out hown2 hgrow2 hat hlt2); have C9 := C8.out.row V8.out.R hgrow2; have W9 := W8.out.row hgrow2 (fun b hb => V8.out.S b hb); have G9 := Lib.hid (G8.out.row hgrow2 (fun b hb => (V8.out.R.lt b hb).1)); have HE := Lib.hid (cElse p b1 b2 X.length v7 _ ⟨1, (X.length + 1 : Nat), 0, emp⟩ w9 W9 (by simp) C9); clear hown2 hgrow2 hat hlt2 C9 W9 V8 W8 C8 D8 G8)
        | (go_at_call 94; (with_reducible refine (HE.out).mono ?_); rintro e w10 ⟨rfl, W10, K10⟩; have V10 := Lib.hid (V9.out.kept K10); have G10 := Lib.hid (G9.out.trans K10); rw [HS.out.1] at W10; have W10 := Lib.hid W10; clear K10))
      go_roundw
      case rel => exact ⟨cl ++ [fnJ b3 b4], v7, by simp; omega, by rw [List.length_append]; go_num, by rw [List.length_append]; exact W10, G10, V10⟩
      case measure => simp [intOf]; omega
    · have hd : decide (cl.length < L.length) = false := by simp; omega
      have HCL := Lib.hid (show cl.length = L.length by omega)
      rw [HCL.out, List.take_length] at hW
      have hpl : (l ++ preA 0 L l.length).length = l.length + preC L := by rw [List.length_append, preA_len _ _ _ HR.out]
      have hpc : preC L = lenL L + 2 * L.length := rfl
      have CHL := HLEN.out
      have N1 := N0.out.wr W0.out hG.out
      obtain ⟨b0, off, x0, y0, z0, rfl, hc, hk'⟩ := N1.at (show (L ++ [z])[L.length]? = some z by simp)
      have c0 : wr.cell? ⟨b0, off + L.length * 7, none⟩ = some (.int .i64 z.kind) := hc 0 _ rfl
      have c1 := hc 1 _ rfl
      have c2 := hc 2 _ rfl
      have c3 := hc 3 _ rfl
      have c4 := hc 4 _ rfl
      have c5 := hc 5 _ rfl
      have c6 := hc 6 _ rfl
      have HN := HZ p vr _ x0 y0 z0 wr hW.out (by rw [hpl]; omega) hk'
      rw [hpl] at HN
      have HN := Lib.hid HN
      have hcz := cod_len z (l.length + preC L) hrz
      clear hc hk' N1 hpl
      go_upto_region 11 with (go_at_call 55; (with_reducible refine (HN.out).mono ?_); rintro e w5 ⟨rfl, v5, W5, K5⟩)
      clear c0 c1 c2 c3 c4 c5 c6 HN
      have V5 := Lib.hid (hV.out.kept K5)
      have G5 := Lib.hid (hG.out.trans K5)
      obtain ⟨T, hT⟩ : ∃ T, T = codN z (l.length + preC L) := ⟨_, rfl⟩
      obtain ⟨E, hE⟩ : ∃ E, E = l.length + preC L + T.length := ⟨_, rfl⟩
      rw [← hT] at W5 hcz
      rw [List.append_assoc, ← mixA_zero l T E L] at W5
      have W5 := Lib.hid W5
      have HF := Lib.hid (show l ++ (preA E L l.length ++ T) = l ++ codA (l.length + (lenL (L ++ [z]) + 2 * L.length)) (L ++ [z]) l.length by
        rw [codA_snoc, hT, hE, hcz, lenL_append, lenL_one, show l.length + preC L + lenN z = l.length + (lenL L + lenN z + 2 * L.length) by omega])
      have HE := Lib.hid hE
      clear hE hT hcz hW hG hV K5
      go_wp2
      go_loopw [10, 43] (fun _ i wr' => ∃ (k : Nat) (vr' : Value), k ≤ cl.length ∧ i = .int .i64 k ∧ Hid (Wr p vr' (mixA l E L T k) wr') ∧ Hid (Kp p v w vr' wr') ∧ Hid (Lv p w.heap.size (plc l.length L) cl (.slice va cl.length vc) vr' wr')) (fun _ i _ => cl.length - (intOf i).toNat)
      case atStart => exact ⟨0, v5, Nat.zero_le _, rfl, W5, G5, V5⟩
      case round =>
        obtain ⟨k, vr', hk, rfl, hW, hG, hV⟩ := hrel
        by_cases hlt2 : k < cl.length
        · obtain ⟨cx, hcx⟩ : ∃ cx, cl[k]? = some cx := ⟨_, List.getElem?_eq_getElem hlt2⟩
          obtain ⟨n', hn'⟩ : ∃ n', L[k]? = some n' := ⟨_, List.getElem?_eq_getElem (by have := HCL.out; omega)⟩
          obtain ⟨b1, b2, rfl, C⟩ := hV.out.C k cx hcx
          obtain ⟨g, rfl, cg⟩ := hV.out.cell hcx
          obtain ⟨m1, m2⟩ := mixA_at (l := l) (T := T) (e := E) hn' HR.out
          have HH := cHere p b1 b2 (plc l.length L k) vr' (mixA l E L T k) ⟨2, 0, 0, emp⟩ _ hW.out m1 C
          rw [mixA_len HR.out, ← HE.out, m2] at HH
          have HH := Lib.hid HH
          clear m1 m2 C hn' hcx hW
          go_wp2_with (go_at_call 95; (with_reducible refine (HH.out).mono ?_); rintro e w6 ⟨rfl, W6, K6⟩; have V6 := Lib.hid (hV.out.kept K6); have G6 := Lib.hid (hG.out.trans K6); have W6 := Lib.hid W6; clear K6)
          go_roundw
          case rel => exact ⟨k + 1, vr', by omega, by go_num, W6, G6, V6⟩
          case measure => simp [intOf]; omega
        · obtain rfl : k = cl.length := by omega
          have hW' := hW.out
          rw [HCL.out, mixA_all, HF.out] at hW'
          have hW' := Lib.hid hW'
          go_wp2
          go_end0
          exact ⟨rfl, vr', hW'.out, hG.out⟩
end Go.Proofs.YtlkjejmmoalliaaGreatDoor

/- The reader: atoms and groups. -/
import Derived.Test.YtonbcldhbinmeaaDoorRexM
namespace Go.Proofs.YtonbcldhbinmeaaDoor
open Go.RowKit

theorem NdOut.mono {r : Nat} {s : ByteArray} {w : World} {P Q : Option (Nd × Nat × Nat) → Prop} {e : Ending} {w' : World} (h : NdOut r s w P e w') (hpq : ∀ o, P o → Q o) : NdOut r s w Q e w' := by
  obtain ⟨g, h | h⟩ := h
  · obtain ⟨n, a, m, k, he, hp⟩ := h
    exact ⟨g, .inl ⟨n, a, m, k, he, hpq _ hp⟩⟩
  · obtain ⟨n, a, m, k, j, c, he, hk, hr, hp⟩ := h
    exact ⟨g, .inr ⟨n, a, m, k, j, c, he, hk, hr, hpq _ hp⟩⟩
theorem Rd.more {w : World} {r : Nat} {s : ByteArray} {i c : Nat} (h : Rd w r s i c) (hc : c < i) : Rd (w.setCell ⟨r, 1, none⟩ (.int .i64 ((c : Int) + 1))) r s i (c + 1) :=
  ⟨heap_setCell_same w r 1 _ _ _ h.B, h.hi, h.hs, hc⟩

set_option maxRecDepth 100000 in
set_option maxHeartbeats 2000000 in
theorem cGroup (r : Nat) (s : ByteArray) (i c : Nat) (w : World) (h : Rd w r s (i + 1) c) (hc : c ≤ i) (hE : RepEnv w) (hr : r ≠ 19) (ho : nxt s i 40 = true)
    (hx : ∀ w, RepEnv w → Rd w r s (i + 1) (c + 1) → Calls Tryd.prog 20 #[.pointer (some ⟨r, 0, none⟩)] w (NdOut r s w (ExP s (i + 1) (c + 1)))) :
    Calls Tryd.prog 53 #[.pointer (some ⟨r, 0, none⟩)] w (NdOut r s w (AtomP s i c)) := by
  have hlt := h.lt
  have B3 := heap_alloc_new w (.cells #[.int .i64 0, .int .i64 0, .int .u64 0, .int .u64 0, .int .u64 0, .int .u64 0, .slice none 0 0] 28)
  have G := Lib.hid (World.grownBy_alloc w (.cells #[.int .i64 0, .int .i64 0, .int .u64 0, .int .u64 0, .int .u64 0, .int .u64 0, .slice none 0 0] 28) none)
  have H1 := Lib.hid (h.kept G.out)
  have E1 := Lib.hid (hE.kept G.out (by simp))
  have HX := Lib.hid hx; have HO := Lib.hid ho; have HRR := Lib.hid hr
  have hs := h.hs; have hi := h.hi
  have HC := Lib.hid hc
  clear h hE hx ho hr
  go_enter Tryd.func53, Tryd.ntmps53
  go_upto_region 1 with fail
  generalize w.alloc _ = w1 at B3 G H1 E1 ⊢
  obtain ⟨g, eg⟩ : ∃ g, g = w.heap.size := ⟨_, rfl⟩
  rw [← eg] at B3 ⊢
  have HR := Lib.hid (show w.heap.size ≤ g by omega)
  have HN := Lib.hid (show g ≠ r by omega)
  have B3 := Lib.hid B3
  have hgl : g < w1.heap.size := (Array.getElem?_eq_some_iff.1 B3.out).1
  clear eg hlt
  obtain ⟨c0, c1⟩ := two_cells H1.out.B
  have fr := four_free H1.out.B
  have R2 := Lib.hid (H1.out.more (Nat.lt_succ_of_le HC.out))
  have B4 := Lib.hid ((heap_setCell_other w1 ⟨r, 1, none⟩ g (.int .i64 ((c : Int) + 1)) HN.out).trans B3.out)
  have G2 := Lib.hid (grown_into G.out (grown_at w1 r 1 (.int .i64 ((c : Int) + 1))))
  have E2 := Lib.hid (E1.out.kept (grown_at w1 r 1 (.int .i64 ((c : Int) + 1))) (by simp only [ne_eq, Option.some.injEq]; exact fun e => HRR.out e.symm))
  have hg2 : g < (w1.setCell ⟨r, 1, none⟩ (.int .i64 ((c : Int) + 1))).heap.size := (Array.getElem?_eq_some_iff.1 B4.out).1
  have hc60 : c ≤ 60 := by have := HC.out; omega
  clear H1 E1 B3 G hgl
  go_upto_region 2 with fail
  clear c0 c1 fr
  generalize World.setCell w1 _ _ = w2 at R2 B4 G2 E2 hg2 ⊢
  obtain ⟨c0, c1⟩ := two_cells R2.out.B
  have HG2 := Lib.hid hg2
  clear hg2
  go_wp2_with fail
  refine (HX.out _ E2.out R2.out).mono ?_
  rintro e w3 ⟨g3, ⟨n, a, m, k, rfl, hp⟩ | ⟨n, a, m, k, j, c2, rfl, hk, r3, hp⟩⟩
  · -- no expression
    have ga := World.grownBy_alloc w3 (.cells #[.int .i64 n.kind, .int .i64 n.index, .int .u64 (wd n.set 0), .int .u64 (wd n.set 1), .int .u64 (wd n.set 2), .int .u64 (wd n.set 3), .slice a m k] 28) none
    have B5 := Lib.hid (heap_grown ga (heap_row g3 HN.out B4.out))
    have G5 := Lib.hid (grown_then (G2.out.trans g3) ga)
    have HP := Lib.hid (atom_group_bad HO.out hp)
    clear ga g3 hp c0 c1
    obtain ⟨r0, r1, r2, r3, r4, r5, r6⟩ := seven_cells B5.out
    have fr := four_free B5.out
    go_wp2
    refine bodyPost_ret (v := .tuple #[ndV ndE (.slice none 0 0), .bool false]) (back_nd2 28 Tryd.underlying28 sizeNd28 Tryd.results53 rfl rfl (zero_seven B5.out)) rfl ?_
    exact ⟨grown_seven G5.out _ _ _ _ _ _ _ HR.out, .inl ⟨ndE, none, 0, 0, rfl, HP.out⟩⟩
  · have ga := World.grownBy_alloc w3 (.cells #[.int .i64 n.kind, .int .i64 n.index, .int .u64 (wd n.set 0), .int .u64 (wd n.set 1), .int .u64 (wd n.set 2), .int .u64 (wd n.set 3), .slice a m k] 28) none
    have B5 := Lib.hid (heap_grown ga (heap_row g3 HN.out B4.out))
    have G5 := Lib.hid (grown_then (G2.out.trans g3) ga)
    have R5 := Lib.hid (r3.kept ga)
    have K5 := Lib.hid ((hk.weak (q := fun b => w.heap.size ≤ b ∧ b ≠ r ∧ b ≠ g) fun b _ hb => by
      have := R2.out.lt; have := G2.out.size; have := HG2.out; omega).grown ga)
    have N5 := Lib.hid (heap_alloc_new w3 (.cells #[.int .i64 n.kind, .int .i64 n.index, .int .u64 (wd n.set 0), .int .u64 (wd n.set 1), .int .u64 (wd n.set 2), .int .u64 (wd n.set 3), .slice a m k] 28))
    have HP := Lib.hid hp
    have hw3 : w.heap.size ≤ w3.heap.size ∧ g < w3.heap.size ∧ r < w3.heap.size := by
      have := G2.out.size; have := g3.size; have := HG2.out; have := r3.lt; omega
    have HW3 := Lib.hid hw3
    clear ga g3 r3 hk hp c0 c1 hw3
    cases hj : nxt s j 41 with
    | false =>
      have H9 := Lib.hid hj
      have HF := Lib.hid (atom_group_open HO.out HP.out hj)
      clear hj
      obtain ⟨r0, r1, r2, r3, r4, r5, r6⟩ := seven_cells B5.out
      have fr := four_free B5.out
      go_wp2_with (go_at_call 36; refine (cTake0 41 _ _ _ _ _ R5.out H9.out).mono ?_; rintro e w8 ⟨rfl, rfl⟩)
      refine bodyPost_ret (v := .tuple #[ndV ndE (.slice none 0 0), .bool false]) (back_nd2 28 Tryd.underlying28 sizeNd28 Tryd.results53 rfl rfl (zero_seven B5.out)) rfl ?_
      exact ⟨grown_seven G5.out _ _ _ _ _ _ _ HR.out, .inl ⟨ndE, none, 0, 0, rfl, HF.out⟩⟩
    | true =>
      have H9 := Lib.hid hj
      have HF := Lib.hid (atom_group HO.out HP.out hj)
      clear hj
      go_wp2_with (go_at_call 36; refine (cTake1 41 _ _ _ _ _ R5.out H9.out).mono ?_; rintro e w8 ⟨rfl, r8, g8⟩; have R8 := Lib.hid r8; have B8 := Lib.hid (heap_row g8 HN.out B5.out); have N8 := Lib.hid (heap_row g8 (by have := HW3.out; omega) N5.out); have K8 := Lib.hid (K5.out.over g8 fun b hb => hb.2.1); have G8 := Lib.hid (G5.out.trans g8); have S8 := Lib.hid (show w.heap.size ≤ w8.heap.size ∧ w8.heap.size ≠ r ∧ w8.heap.size ≠ g by have h1 := g8.size; have h2 := HW3.out; have h3 := (Array.getElem?_eq_some_iff.1 B8.out).1; have h4 := r8.lt; have h5 := G8.out.size; omega); clear r8 g8; obtain ⟨n0, n1, n2, n3, n4, n5, n6⟩ := seven_cells N8.out; have ga := World.grownBy_alloc w8 (.cells #[.int .i64 n.kind, .int .i64 n.index, .int .u64 (wd n.set 0), .int .u64 (wd n.set 1), .int .u64 (wd n.set 2), .int .u64 (wd n.set 3), .slice a m k] 28) none; have B9 := Lib.hid (heap_grown ga B8.out); have R9 := Lib.hid (R8.out.kept ga); have G9 := Lib.hid (grown_then G8.out ga); clear ga; have K9 := Lib.hid (kids_one (p := fun b => w.heap.size ≤ b ∧ b ≠ r ∧ b ≠ g) 28 K8.out S8.out w8.heap.size rfl); obtain ⟨r0, r1, r2, r3, r4, r5, r6⟩ := seven_cells B9.out; have fr := four_free B9.out)
      refine bodyPost_ret (v := .tuple #[ndV (.mk 7 (c + 1) emp [n]) (.slice (some ⟨w8.heap.size, 0, none⟩) 1 1), .bool true]) (back_nd2 28 Tryd.underlying28 sizeNd28 Tryd.results53 rfl rfl (by
        have := set_seven B9.out (.int .i64 7) (.int .i64 ((c : Int) + 1)) (.int .u64 0) (.int .u64 0) (.int .u64 0) (.int .u64 0) (.slice (some ⟨w8.heap.size, 0, none⟩) 1 1)
        simpa [wd_emp, Nd.kind, Nd.index, Nd.set] using this)) rfl ?_
      exact ⟨grown_seven G9.out _ _ _ _ _ _ _ HR.out, .inr ⟨_, _, 1, 1, j + 1, c2, rfl, (K9.out.seven _ _ _ _ _ _ _ fun b hb => hb.2.2).weak fun b _ hb => hb.1, R9.out.seven _ _ _ _ _ _ _ (Ne.symm HN.out), HF.out⟩⟩
end Go.Proofs.YtonbcldhbinmeaaDoor

/- The reader: an item. -/
import Derived.Test.YtonbcldhbinmeaaDoorRexO
namespace Go.Proofs.YtonbcldhbinmeaaDoor
open Go.RowKit

/-- what the loop over the signs behind an atom knows -/
structure IW (w0 : World) (r : Nat) (s : ByteArray) (i c g q : Nat) (n : Nd) (kv : Value) (j c2 : Nat) (wr : World) : Prop where
  G : w0.grownBy wr (some r)
  R : Rd wr r s j c2
  N : wr.heap[g]? = some (.cells #[.int .i64 0, .int .i64 0, .int .u64 0, .int .u64 0, .int .u64 0, .int .u64 0, .slice none 0 0] 28 (0, 0))
  Q : wr.heap[q]? = some (.cells #[.int .i64 n.kind, .int .i64 n.index, .int .u64 (wd n.set 0), .int .u64 (wd n.set 1), .int .u64 (wd n.set 2), .int .u64 (wd n.set 3), kv] 28 (0, 0))
  K : KidsAt wr (fun b => w0.heap.size ≤ b ∧ b ≠ g ∧ b ≠ q ∧ b ≠ r) kv n.kids
  P : AtomP s i c (some (n, j, c2))
  E : RepEnv wr
theorem heap_seven {w : World} {b b' : Nat} {o : Obj} (hb : w.heap[b]? = some o) (v0 v1 v2 v3 v4 v5 v6 : Value) (hne : b ≠ b') :
    (((((((w.setCell ⟨b', 0, none⟩ v0).setCell ⟨b', 1, none⟩ v1).setCell ⟨b', 2, none⟩ v2).setCell ⟨b', 3, none⟩ v3).setCell ⟨b', 4, none⟩ v4).setCell ⟨b', 5, none⟩ v5).setCell ⟨b', 6, none⟩ v6).heap[b]? = some o := by
  rw [heap_setCell_other _ _ b _ hne, heap_setCell_other _ _ b _ hne, heap_setCell_other _ _ b _ hne, heap_setCell_other _ _ b _ hne, heap_setCell_other _ _ b _ hne, heap_setCell_other _ _ b _ hne, heap_setCell_other _ _ b _ hne]; exact hb
theorem RepEnv.seven {w : World} (h : RepEnv w) {r : Nat} (v0 v1 v2 v3 v4 v5 v6 : Value) (hr : 19 ≠ r) :
    RepEnv (((((((w.setCell ⟨r, 0, none⟩ v0).setCell ⟨r, 1, none⟩ v1).setCell ⟨r, 2, none⟩ v2).setCell ⟨r, 3, none⟩ v3).setCell ⟨r, 4, none⟩ v4).setCell ⟨r, 5, none⟩ v5).setCell ⟨r, 6, none⟩ v6) :=
  ⟨set7_far h.c0 hr, set7_far h.c1 hr, set7_far h.c2 hr, set7_far h.c3 hr, set7_far h.c4 hr, set7_far h.c5 hr⟩
theorem RepEnv.lt {w : World} (h : RepEnv w) : 19 < w.heap.size := cell_block h.c0

set_option maxRecDepth 100000 in
set_option maxHeartbeats 4000000 in
theorem cItem (r : Nat) (s : ByteArray) (i c : Nat) (w : World) (h : Rd w r s i c) (hi : i < s.size) (h41 : nxt s i 41 = false) (h124 : nxt s i 124 = false) (hE : RepEnv w) (hr : r ≠ 19)
    (hx : ∀ w, RepEnv w → Rd w r s (i + 1) (c + 1) → Calls Tryd.prog 20 #[.pointer (some ⟨r, 0, none⟩)] w (NdOut r s w (ExP s (i + 1) (c + 1)))) :
    Calls Tryd.prog 45 #[.pointer (some ⟨r, 0, none⟩)] w (NdOut r s w (ItemP s i c)) := by
  have hlt := h.lt
  have hel := hE.lt
  have B3 := heap_alloc_new w (.cells #[.int .i64 0, .int .i64 0, .int .u64 0, .int .u64 0, .int .u64 0, .int .u64 0, .slice none 0 0] 28)
  have G := Lib.hid (World.grownBy_alloc w (.cells #[.int .i64 0, .int .i64 0, .int .u64 0, .int .u64 0, .int .u64 0, .int .u64 0, .slice none 0 0] 28) none)
  have H1 := Lib.hid (h.kept G.out)
  have E1 := Lib.hid (hE.kept G.out (by simp))
  have HRR := Lib.hid (show some 19 ≠ some r by simp only [ne_eq, Option.some.injEq]; exact fun e => hr e.symm)
  have CA := Lib.hid (fun w h hE => cAtom r s i c w h hi h41 h124 hE hr hx)
  have HL := Lib.hid hel
  clear h hE hx hr h41 h124 hi hel
  go_enter Tryd.func45, Tryd.ntmps45
  go_upto_region 1 with fail
  generalize w.alloc _ = w1 at B3 G H1 E1 ⊢
  obtain ⟨g, eg⟩ : ∃ g, g = w.heap.size := ⟨_, rfl⟩
  rw [← eg] at B3 ⊢
  have HR := Lib.hid (show w.heap.size ≤ g by omega)
  have HN := Lib.hid (show g ≠ r by omega)
  have HGE := Lib.hid (show 19 ≠ g by have := HL.out; omega)
  have B3 := Lib.hid B3
  have HLT := Lib.hid hlt
  clear eg hlt
  go_wp2_with fail
  refine (CA.out _ H1.out E1.out).mono ?_
  rintro e w3 ⟨g3, ⟨n, a, m, k, rfl, hp⟩ | ⟨n, a, m, k, j, c2, rfl, hk, r3, hp⟩⟩
  · have ga := World.grownBy_alloc w3 (.cells #[.int .i64 n.kind, .int .i64 n.index, .int .u64 (wd n.set 0), .int .u64 (wd n.set 1), .int .u64 (wd n.set 2), .int .u64 (wd n.set 3), .slice a m k] 28) none
    have B5 := Lib.hid (heap_grown ga (heap_row g3 HN.out B3.out))
    have G5 := Lib.hid (grown_then (grown_into G.out g3) ga)
    have HP := Lib.hid (show ItemP s i c none from hp)
    clear ga g3 hp
    obtain ⟨r0, r1, r2, r3, r4, r5, r6⟩ := seven_cells B5.out
    have fr := four_free B5.out
    go_wp2
    refine bodyPost_ret (v := .tuple #[ndV ndE (.slice none 0 0), .bool false]) (back_nd2 28 Tryd.underlying28 sizeNd28 Tryd.results45 rfl rfl (zero_seven B5.out)) rfl ?_
    exact ⟨grown_seven G5.out _ _ _ _ _ _ _ HR.out, .inl ⟨ndE, none, 0, 0, rfl, HP.out⟩⟩
  · have ga := World.grownBy_alloc w3 (.cells #[.int .i64 n.kind, .int .i64 n.index, .int .u64 (wd n.set 0), .int .u64 (wd n.set 1), .int .u64 (wd n.set 2), .int .u64 (wd n.set 3), .slice a m k] 28) none
    have hg3 := (Array.getElem?_eq_some_iff.1 (heap_row g3 HN.out B3.out)).1
    have hg1 := (Array.getElem?_eq_some_iff.1 B3.out).1
    have hw3 := G.out.size
    have hw31 := g3.size
    have W0 := Lib.hid (show IW w r s i c g w3.heap.size n (.slice a m k) j c2 (w3.alloc (.cells #[.int .i64 n.kind, .int .i64 n.index, .int .u64 (wd n.set 0), .int .u64 (wd n.set 1), .int .u64 (wd n.set 2), .int .u64 (wd n.set 3), .slice a m k] 28)) from
      ⟨grown_then (grown_into G.out g3) ga, r3.kept ga, heap_grown ga (heap_row g3 HN.out B3.out), heap_alloc_new w3 _, (hk.weak fun b hb hb1 => by have := HLT.out; omega).grown ga, hp, (E1.out.kept g3 HRR.out).kept ga (by simp)⟩)
    obtain ⟨q, eq⟩ : ∃ q, q = w3.heap.size := ⟨_, rfl⟩
    have HQ := Lib.hid (show w.heap.size ≤ q ∧ q ≠ g ∧ q ≠ r ∧ 19 ≠ q by have := HLT.out; have := HL.out; omega)
    clear ga g3 hp r3 hk hg3 hg1 hw3 hw31 B3 G H1 E1
    rw [← eq] at W0
    go_wp2_with fail
    rw [← eq]
    clear eq
    generalize w3.alloc _ = w4 at W0 ⊢
    go_loopw [6, 7] (fun _ _ wr => ∃ (n : Nd) (a : Option Addr) (m k j c2 : Nat), Hid (IW w r s i c g q n (.slice a m k) j c2 wr)) (fun _ _ wr => restLen wr r)
    case atStart => exact ⟨n, a, m, k, j, c2, W0⟩
    case round =>
      obtain ⟨n, a, m, k, j, c2, hW⟩ := hrel
      clear W0
      cases hrk : repK s j with
      | none =>
        have HP := Lib.hid (item_atom hW.out.P (repK_none hrk))
        have CR := Lib.hid (fun w hE h => hrk ▸ cRepeat r s j c2 w hE h)
        clear hrk
        go_wp2_with fail
        refine (CR.out _ hW.out.E hW.out.R).mono ?_
        rintro e w5 ⟨rfl, r5, g5⟩
        have R5 := Lib.hid r5
        have B5 := Lib.hid (heap_row g5 HN.out hW.out.N)
        have Q5 := Lib.hid (heap_row g5 HQ.out.2.2.1 hW.out.Q)
        have K5 := Lib.hid (hW.out.K.over g5 fun b hb => hb.2.2.2)
        have G5 := Lib.hid (hW.out.G.trans g5)
        clear r5 g5 hW
        obtain ⟨q0, q1, q2, q3, q4, q5, q6⟩ := seven_cells Q5.out
        obtain ⟨r0, r1, r2, r3, r4, r5, r6⟩ := seven_cells B5.out
        have fr := four_free B5.out
        go_wp2
        refine bodyPost_ret (v := .tuple #[ndV n (.slice a m k), .bool true]) (back_nd2 28 Tryd.underlying28 sizeNd28 Tryd.results45 rfl rfl (set_seven B5.out _ _ _ _ _ _ _)) rfl ?_
        exact ⟨grown_seven G5.out _ _ _ _ _ _ _ HR.out, .inr ⟨n, a, m, k, j, c2, rfl, (K5.out.seven _ _ _ _ _ _ _ fun b hb => hb.2.1).weak fun b _ hb => hb.1, R5.out.seven _ _ _ _ _ _ _ (Ne.symm HN.out), HP.out⟩⟩
      | some kk =>
        obtain ⟨c1, hn1, hkk⟩ := repK_some hrk
        have HP := Lib.hid (atom_more hW.out.P hn1 hkk)
        have CR := Lib.hid (fun w hE h => hrk ▸ cRepeat r s j c2 w hE h)
        have HM := Lib.hid (restLen_of hW.out.R)
        have hjs := (nxt_yes hn1).1
        clear hrk hn1 hkk
        go_wp2_with fail
        refine (CR.out _ hW.out.E hW.out.R).mono ?_
        rintro e w5 ⟨rfl, r5, g5⟩
        have R5 := Lib.hid r5
        have B5 := Lib.hid (heap_row g5 HN.out hW.out.N)
        have Q5 := Lib.hid (heap_row g5 HQ.out.2.2.1 hW.out.Q)
        have K5 := Lib.hid (hW.out.K.over g5 fun b hb => hb.2.2.2)
        have G5 := Lib.hid (hW.out.G.trans g5)
        have E5 := Lib.hid (hW.out.E.kept g5 HRR.out)
        clear r5 g5 hW
        obtain ⟨q0, q1, q2, q3, q4, q5, q6⟩ := seven_cells Q5.out
        have ga := World.grownBy_alloc w5 (.cells #[.int .i64 n.kind, .int .i64 n.index, .int .u64 (wd n.set 0), .int .u64 (wd n.set 1), .int .u64 (wd n.set 2), .int .u64 (wd n.set 3), .slice a m k] 28) none
        have S5 := Lib.hid (show w.heap.size ≤ w5.heap.size ∧ w5.heap.size ≠ g ∧ w5.heap.size ≠ q ∧ w5.heap.size ≠ r by
          have h1 := (Array.getElem?_eq_some_iff.1 B5.out).1
          have h2 := (Array.getElem?_eq_some_iff.1 Q5.out).1
          have h3 := R5.out.lt
          have h4 := G5.out.size
          omega)
        have K6 := Lib.hid (kids_one (p := fun b => w.heap.size ≤ b ∧ b ≠ g ∧ b ≠ q ∧ b ≠ r) 28 K5.out S5.out w5.heap.size rfl)
        have R6 := Lib.hid (R5.out.kept ga)
        have B6 := Lib.hid (heap_grown ga B5.out)
        have Q6 := Lib.hid (heap_grown ga Q5.out)
        have G6 := Lib.hid (grown_then G5.out ga)
        have E6 := Lib.hid (E5.out.kept ga (by simp))
        clear ga R5 B5 G5 E5 K5
        obtain ⟨p0, p1, p2, p3, p4, p5, p6⟩ := seven_cells Q6.out
        have fr := four_free Q6.out
        go_wp2
        clear p0 p1 p2 p3 p4 p5 p6 q0 q1 q2 q3 q4 q5 q6 fr
        have HF := Lib.hid (show IW w r s i c g q (.mk kk 0 emp [n]) (.slice (some ⟨w5.heap.size, 0, none⟩) 1 1) (j + 1) c2 _ from
          ⟨grown_seven G6.out (.int .i64 kk) (.int .i64 0) (.int .u64 0) (.int .u64 0) (.int .u64 0) (.int .u64 0) (.slice (some ⟨w5.heap.size, 0, none⟩) 1 1) HQ.out.1,
           R6.out.seven _ _ _ _ _ _ _ (Ne.symm HQ.out.2.2.1), heap_seven B6.out _ _ _ _ _ _ _ (Ne.symm HQ.out.2.1),
           by have := set_seven Q6.out (.int .i64 kk) (.int .i64 0) (.int .u64 0) (.int .u64 0) (.int .u64 0) (.int .u64 0) (.slice (some ⟨w5.heap.size, 0, none⟩) 1 1); simpa [wd_emp, Nd.kind, Nd.index, Nd.set] using this,
           K6.out.seven _ _ _ _ _ _ _ fun b hb => hb.2.2.1, HP.out, E6.out.seven _ _ _ _ _ _ _ HQ.out.2.2.2⟩)
        have HM2 := Lib.hid (restLen_of HF.out.R)
        go_roundw
        case rel => exact ⟨_, _, 1, 1, _, _, HF⟩
        case measure => rw [HM.out, HM2.out]; omega
end Go.Proofs.YtonbcldhbinmeaaDoor

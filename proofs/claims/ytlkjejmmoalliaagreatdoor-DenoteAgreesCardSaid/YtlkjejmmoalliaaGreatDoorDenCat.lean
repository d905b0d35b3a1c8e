/- The call that makes the steps through a node, of each kind but rows. The call that makes the steps through a node: of nodes with one kid. The call that makes the steps through a node that may be left out. slices.Backward over a row of nodes: the value that it answers gives the nodes from the last one on. The call that makes the steps through a row of nodes: a range over slices.Backward, its body's call walked in a round. -/
import Derived.Test.YtlkjejmmoalliaaGreatDoorDenRnd
import Derived.Deep.RegionHeld3
import Derived.RangeFuncNested
import Derived.RangeFuncBound
import Derived.RangeFuncCalls
import Derived.RangeFuncLeaves
import Derived.Shelf.Abstract
import Derived.Shelf.RegionOpen
import Derived.WalkKit
import Derived.OwnWalkIn
import Derived.TacticsInMore
import Derived.LoopNIn
import Derived.LoopIn
import Derived.Test.YtlkjejmmoalliaaGreatDoorDenRun
import Derived.Test.YtlkjejmmoalliaaGreatDoorPgMem
import Derived.Sort.CutIn
namespace Go.Proofs.YtlkjejmmoalliaaGreatDoor
open Go.RowKit

/-- the call's three variables -/
structure Thr0 (w w1 : World) (P : Nat) (n : Ni) (kv bv : Value) (q : Nat) : Prop where
  g : w.grownBy w1 none
  W : w1.heap[q]? = some (.cells #[ptrV P] 90 (0, 0))
  N : w1.heap[q + 1]? = some (.cells #[.int .i64 n.kind, .int .i64 n.index, .int .u64 (wd n.set 0), .int .u64 (wd n.set 1), .int .u64 (wd n.set 2), .int .u64 (wd n.set 3), kv] 28 (0, 0))
  B : w1.heap[q + 1 + 1]? = some (.cells #[bv] 94 (0, 0))
  h : w.heap.size ≤ q
theorem thr0 (w : World) (P : Nat) (n : Ni) (kv bv : Value) : Thr0 w (((w.alloc (.cells #[ptrV P] 90)).alloc (.cells #[.int .i64 n.kind, .int .i64 n.index, .int .u64 (wd n.set 0), .int .u64 (wd n.set 1), .int .u64 (wd n.set 2), .int .u64 (wd n.set 3), kv] 28)).alloc (.cells #[bv] 94)) P n kv bv w.heap.size := by
  have h := heap3 w (.cells #[ptrV P] 90) (.cells #[.int .i64 n.kind, .int .i64 n.index, .int .u64 (wd n.set 0), .int .u64 (wd n.set 1), .int .u64 (wd n.set 2), .int .u64 (wd n.set 3), kv] 28) (.cells #[bv] 94)
  exact ⟨h.2.2.2, h.1, h.2.1, h.2.2.1, Nat.le_refl _⟩
/-- what was made behind the call's own variables -/
theorem Made.up {w w1 w2 : World} {P cnt cnt' : Nat} {bv : Value} {xs : List (Value × Option Nat)} {R R' : World → (Nat → Prop) → List (Value × Option Nat) → List Nat → Nat → Prop} {pr pr' : List Nat → Nat → List Pr} (h : Made (Iv w1.heap.size w2) w2 P cnt bv xs R pr) (g : w.grownBy w1 none)
    (hc : cnt' = cnt) (hp : ∀ b m, pr' b m = pr b m) (hR : ∀ W fz X b m, R W fz X b m → R' W fz X b m) : Made (Iv w.heap.size w2) w2 P cnt' bv xs R' pr' :=
  h.same hc hp (fun _ h => ⟨Nat.le_trans g.size h.1, h.2⟩) (fun _ h => h.2) (fun _ _ _ => rfl) fun W fz X b m _ h => hR W fz X b m h

set_option maxRecDepth 100000 in
set_option maxHeartbeats 4000000 in
theorem cThr1 (P : Nat) (s : ByteArray) (x : Int) (c : BitVec 256) (l : List Ni) : NodeT P s (.mk 1 x c l) := by
  intro bv a m k w hW hb hr hK
  obtain ⟨bf, bc, rfl⟩ := hb
  have T1 := Lib.hid (thr0 w P (.mk 1 x c l) (.slice a m k) (clo bf bc))
  clear hW hK hr
  go_enter Tryz.func42, Tryz.ntmps42
  go_upto_region 1 with fail
  generalize World.alloc _ _ = w1 at T1 ⊢
  obtain ⟨q, eq⟩ : ∃ q, q = w.heap.size := ⟨_, rfl⟩
  rw [← eq] at T1 ⊢
  clear eq
  have HO := Lib.hid (cOver P c (clo bf bc) ⟨_, _, rfl⟩ w1)
  have z0 := one_cell T1.out.W
  obtain ⟨s0, s1, s2, s3, s4, s5, s6⟩ := seven_cells T1.out.N
  dsimp only [Ni.kind, Ni.index, Ni.set] at s0 s1 s2 s3 s4 s5
  have y0 := one_cell T1.out.B
  go_wp2_with (go_at_call 59; (with_reducible refine (HO.out).mono ?_); rintro e w2 ⟨v, rfl, hv⟩; have HV := Lib.hid hv; clear hv)
  go_ret
  obtain ⟨f, c', e⟩ : isFn v := by obtain ⟨_, _, _, e, _⟩ := HV.out.ex; exact ⟨_, _, e⟩
  exact ⟨T1.out.g.trans HV.out.g, v, _, rfl, ⟨f, c', e⟩, HV.out.made.up T1.out.g (by simp [cnN]) (fun b m => by simp [thrN]) (fun W fz X b m h => by simpa [thrN] using h)⟩
set_option maxRecDepth 100000 in
set_option maxHeartbeats 4000000 in
theorem cThr8 (P : Nat) (s : ByteArray) (x : Int) (c : BitVec 256) (l : List Ni) : NodeT P s (.mk 8 x c l) := by
  intro bv a m k w hW hb hr hK
  obtain ⟨bf, bc, rfl⟩ := hb
  have T1 := Lib.hid (thr0 w P (.mk 8 x c l) (.slice a m k) (clo bf bc))
  clear hW hK hr
  go_enter Tryz.func42, Tryz.ntmps42
  go_upto_region 1 with fail
  generalize World.alloc _ _ = w1 at T1 ⊢
  obtain ⟨q, eq⟩ : ∃ q, q = w.heap.size := ⟨_, rfl⟩
  rw [← eq] at T1 ⊢
  clear eq
  have HO := Lib.hid (show Calls Tryz.prog 63 #[ptrV P, .int .i64 0, clo bf bc] w1 _ from cOnly P 0 (clo bf bc) ⟨_, _, rfl⟩ w1)
  have z0 := one_cell T1.out.W
  obtain ⟨s0, s1, s2, s3, s4, s5, s6⟩ := seven_cells T1.out.N
  dsimp only [Ni.kind, Ni.index, Ni.set] at s0 s1 s2 s3 s4 s5
  have y0 := one_cell T1.out.B
  go_wp2_with (go_at_call 63; (with_reducible refine (HO.out).mono ?_); rintro e w2 ⟨v, rfl, hv⟩; have HV := Lib.hid hv; clear hv)
  go_ret
  obtain ⟨f, c', e⟩ : isFn v := by obtain ⟨_, _, _, e, _⟩ := HV.out.ex; exact ⟨_, _, e⟩
  exact ⟨T1.out.g.trans HV.out.g, v, _, rfl, ⟨f, c', e⟩, HV.out.made.up T1.out.g (by simp [cnN]) (fun b m => by simp [thrN]) (fun W fz X b m h => by simpa [thrN] using h)⟩
set_option maxRecDepth 100000 in
set_option maxHeartbeats 4000000 in
theorem cThr0 (P : Nat) (s : ByteArray) (x : Int) (c : BitVec 256) (l : List Ni) : NodeT P s (.mk 0 x c l) := by
  intro bv a m k w hW hb hr hK
  obtain ⟨bf, bc, rfl⟩ := hb
  have T1 := Lib.hid (thr0 w P (.mk 0 x c l) (.slice a m k) (clo bf bc))
  clear hW hK hr
  go_enter Tryz.func42, Tryz.ntmps42
  go_upto_region 1 with fail
  generalize World.alloc _ _ = w1 at T1 ⊢
  obtain ⟨q, eq⟩ : ∃ q, q = w.heap.size := ⟨_, rfl⟩
  rw [← eq] at T1 ⊢
  clear eq
  have z0 := one_cell T1.out.W
  obtain ⟨s0, s1, s2, s3, s4, s5, s6⟩ := seven_cells T1.out.N
  dsimp only [Ni.kind, Ni.index, Ni.set] at s0 s1 s2 s3 s4 s5
  have y0 := one_cell T1.out.B
  go_wp2
  go_ret
  refine ⟨T1.out.g, _, [], rfl, ⟨_, _, rfl⟩, ?_⟩
  exact (Made.nothing w1 P (clo bf bc)).same (by simp [cnN]) (fun b m => by simp [thrN]) (fun _ h => h.elim) (fun _ h => h.2) (fun _ _ _ => rfl) (fun W fz X b m _ h => by simpa [thrN] using h)
set_option maxRecDepth 100000 in
set_option maxHeartbeats 4000000 in
theorem cThr9 (P : Nat) (s : ByteArray) (x : Int) (c : BitVec 256) (l : List Ni) : NodeT P s (.mk 9 x c l) := by
  intro bv a m k w hW hb hr hK
  obtain ⟨bf, bc, rfl⟩ := hb
  have T1 := Lib.hid (thr0 w P (.mk 9 x c l) (.slice a m k) (clo bf bc))
  have W1 := Lib.hid (fun w1 (g : w.grownBy w1 none) => hW.grown g)
  clear hW hK hr
  go_enter Tryz.func42, Tryz.ntmps42
  go_upto_region 1 with fail
  generalize World.alloc _ _ = w1 at T1 ⊢
  obtain ⟨q, eq⟩ : ∃ q, q = w.heap.size := ⟨_, rfl⟩
  rw [← eq] at T1 ⊢
  clear eq
  have HO := Lib.hid (fun W => cOnly P s.size (clo bf bc) ⟨_, _, rfl⟩ W)
  obtain ⟨vp, vh, vn, hP⟩ := W1.out w1 T1.out.g
  obtain ⟨p0, p1, p2, p3⟩ := four_cells hP
  clear hP W1
  have z0 := one_cell T1.out.W
  obtain ⟨s0, s1, s2, s3, s4, s5, s6⟩ := seven_cells T1.out.N
  dsimp only [Ni.kind, Ni.index, Ni.set] at s0 s1 s2 s3 s4 s5
  have y0 := one_cell T1.out.B
  go_upto_region 23 with fail
  have SK := Lib.hid (show ∀ W, w1.grownBy W none → (W.cell? ⟨q, 0, none⟩ = some (ptrV P) ∧ W.cell? ⟨P, 0, none⟩ = some (.string s) ∧ W.cell? ⟨q + 1 + 1, 0, none⟩ = some (clo bf bc)) from fun W g => ⟨g.cell z0 (by simp), g.cell p0 (by simp), g.cell y0 (by simp)⟩)
  have gd := grown_drew (World.grownBy.refl w1 none)
  go_region_held3 (fun W => W.cell? ⟨q, 0, none⟩ = some (ptrV P) ∧ W.cell? ⟨P, 0, none⟩ = some (.string s) ∧ W.cell? ⟨q + 1 + 1, 0, none⟩ = some (clo bf bc))
    (first
      | exact SK.out _ (gd.trans g2)
      | exact SK.out _ gd
      | (go_keep; done))
    (first
      | (go_at_call 63; (with_reducible refine (HO.out _).mono ?_); rintro e w2 ⟨v, rfl, hv⟩; have g2 := hv.g; have HV := Lib.hid hv; clear hv))
  all_goals
    go_wp2
    go_ret
    obtain ⟨f, c', e⟩ : isFn v := by obtain ⟨_, _, _, e, _⟩ := HV.out.ex; exact ⟨_, _, e⟩
    have g1 := T1.out.g.trans gd
    exact ⟨g1.trans HV.out.g, v, _, rfl, ⟨f, c', e⟩, HV.out.made.up g1 (by simp [cnN]) (fun b m => by simp [thrN]) (fun W fz X b m h => by simpa [thrN] using h)⟩
set_option maxRecDepth 100000 in
set_option maxHeartbeats 4000000 in
theorem cThr3 (P : Nat) (s : ByteArray) (x : Int) (c : BitVec 256) (l : List Ni) (hl : l.length ≤ 200) (HT : ∀ n ∈ l, NodeT P s n) : NodeT P s (.mk 3 x c l) := by
  intro bv a m k w hW hb hr hK
  obtain ⟨bf, bc, rfl⟩ := hb
  have T1 := Lib.hid (thr0 w P (.mk 3 x c l) (.slice a m k) (clo bf bc))
  have hr' := hr
  rw [rgtN] at hr'
  simp only [Bool.and_eq_true] at hr'
  have h2 := kids_two hr'.1.1.1 (.inr rfl)
  have HO := Lib.hid (fun w1 (g : w.grownBy w1 none) => cAny P s l (by rintro rfl; simp at h2) hl HT hr'.2 (clo bf bc) a m k w1 (hW.grown g) ⟨_, _, rfl⟩ (hK.grown g))
  clear hW hK hr hr' h2 HT
  go_enter Tryz.func42, Tryz.ntmps42
  go_upto_region 1 with fail
  generalize World.alloc _ _ = w1 at T1 ⊢
  obtain ⟨q, eq⟩ : ∃ q, q = w.heap.size := ⟨_, rfl⟩
  rw [← eq] at T1 ⊢
  clear eq
  have HO := Lib.hid (HO.out w1 T1.out.g)
  have z0 := one_cell T1.out.W
  obtain ⟨s0, s1, s2, s3, s4, s5, s6⟩ := seven_cells T1.out.N
  dsimp only [Ni.kind, Ni.index, Ni.set] at s0 s1 s2 s3 s4 s5
  have y0 := one_cell T1.out.B
  go_wp2_with (go_at_call 61; (with_reducible refine (HO.out).mono ?_); rintro e w2 ⟨g2, v, xs, rfl, hv, hM⟩; have G2 := Lib.hid g2; have HM := Lib.hid hM; have HF := Lib.hid hv; clear g2 hM hv)
  go_ret
  exact ⟨T1.out.g.trans G2.out, v, xs, rfl, HF.out, HM.out.up T1.out.g (by simp [cnN]) (fun b m => by simp [thrN]) (fun W fz X b m h => by simpa [thrN] using h)⟩
end Go.Proofs.YtlkjejmmoalliaaGreatDoor

namespace Go.Proofs.YtlkjejmmoalliaaGreatDoor
open Go.RowKit

set_option maxRecDepth 100000 in
set_option maxHeartbeats 4000000 in
theorem cThr4 (P : Nat) (s : ByteArray) (x : Int) (c : BitVec 256) (u : Ni) (HT : NodeT P s u) : NodeT P s (.mk 4 x c [u]) := by
  intro bv a m k w hW hb hr hK
  obtain ⟨bf, bc, rfl⟩ := hb
  have T1 := Lib.hid (thr0 w P (.mk 4 x c [u]) (.slice a m k) (clo bf bc))
  have hr' := hr
  rw [rgtN] at hr'
  simp only [Bool.and_eq_true] at hr'
  have hru : rgtN u = true := rgtL_mem hr'.2 (by simp)
  obtain rfl : m = 1 := hK.len
  obtain ⟨b0, off, x0, y0, z0, rfl, hc, hk'⟩ := hK.at (show [u][0]? = some u from rfl)
  have D := Lib.hid (fun w1 (g : w.grownBy w1 none) => show w1.cell? ⟨b0, off, none⟩ = some (.int .i64 u.kind) ∧ w1.cell? ⟨b0, off + 1, none⟩ = some (.int .i64 u.index) ∧ w1.cell? ⟨b0, off + 2, none⟩ = some (.int .u64 (wd u.set 0)) ∧ w1.cell? ⟨b0, off + 3, none⟩ = some (.int .u64 (wd u.set 1)) ∧ w1.cell? ⟨b0, off + 4, none⟩ = some (.int .u64 (wd u.set 2)) ∧ w1.cell? ⟨b0, off + 5, none⟩ = some (.int .u64 (wd u.set 3)) ∧ w1.cell? ⟨b0, off + 6, none⟩ = some (.slice x0 y0 z0) from
    ⟨g.cell (hc 0 _ rfl) (by simp), g.cell (hc 1 _ rfl) (by simp), g.cell (hc 2 _ rfl) (by simp), g.cell (hc 3 _ rfl) (by simp), g.cell (hc 4 _ rfl) (by simp), g.cell (hc 5 _ rfl) (by simp), g.cell (hc 6 _ rfl) (by simp)⟩)
  have HO := Lib.hid (fun w1 (g : w.grownBy w1 none) => cRound P s u HT hru (clo bf bc) x0 y0 z0 w1 (hW.grown g) ⟨_, _, rfl⟩ (hk'.grown g))
  clear hW hK hr hr' hru HT hc hk'
  go_enter Tryz.func42, Tryz.ntmps42
  go_upto_region 1 with fail
  generalize World.alloc _ _ = w1 at T1 ⊢
  obtain ⟨q, eq⟩ : ∃ q, q = w.heap.size := ⟨_, rfl⟩
  rw [← eq] at T1 ⊢
  clear eq
  obtain ⟨d0, d1, d2, d3, d4, d5, d6⟩ := D.out w1 T1.out.g
  have cw := one_cell T1.out.W
  obtain ⟨s0, s1, s2, s3, s4, s5, s6⟩ := seven_cells T1.out.N
  dsimp only [Ni.kind, Ni.index, Ni.set] at s0 s1 s2 s3 s4 s5
  have cb := one_cell T1.out.B
  go_upto_region 11 with fail
  have SK := Lib.hid (show ∀ W, w1.grownBy W none → ((W.cell? ⟨q, 0, none⟩ = some (ptrV P) ∧ W.cell? ⟨q + 1, 6, none⟩ = some (.slice (some ⟨b0, off, none⟩) 1 k) ∧ W.cell? ⟨q + 1 + 1, 0, none⟩ = some (clo bf bc)) ∧ (W.cell? ⟨b0, off, none⟩ = some (.int .i64 u.kind) ∧ W.cell? ⟨b0, off + 1, none⟩ = some (.int .i64 u.index) ∧ W.cell? ⟨b0, off + 2, none⟩ = some (.int .u64 (wd u.set 0)) ∧ W.cell? ⟨b0, off + 3, none⟩ = some (.int .u64 (wd u.set 1)) ∧ W.cell? ⟨b0, off + 4, none⟩ = some (.int .u64 (wd u.set 2)) ∧ W.cell? ⟨b0, off + 5, none⟩ = some (.int .u64 (wd u.set 3)) ∧ W.cell? ⟨b0, off + 6, none⟩ = some (.slice x0 y0 z0))) from fun W g => ⟨⟨g.cell cw (by simp), g.cell s6 (by simp), g.cell cb (by simp)⟩, g.cell d0 (by simp), g.cell d1 (by simp), g.cell d2 (by simp), g.cell d3 (by simp), g.cell d4 (by simp), g.cell d5 (by simp), g.cell d6 (by simp)⟩)
  have gd := grown_drew (World.grownBy.refl w1 none)
  go_region_held3 (fun W => (W.cell? ⟨q, 0, none⟩ = some (ptrV P) ∧ W.cell? ⟨q + 1, 6, none⟩ = some (.slice (some ⟨b0, off, none⟩) 1 k) ∧ W.cell? ⟨q + 1 + 1, 0, none⟩ = some (clo bf bc)) ∧ (W.cell? ⟨b0, off, none⟩ = some (.int .i64 u.kind) ∧ W.cell? ⟨b0, off + 1, none⟩ = some (.int .i64 u.index) ∧ W.cell? ⟨b0, off + 2, none⟩ = some (.int .u64 (wd u.set 0)) ∧ W.cell? ⟨b0, off + 3, none⟩ = some (.int .u64 (wd u.set 1)) ∧ W.cell? ⟨b0, off + 4, none⟩ = some (.int .u64 (wd u.set 2)) ∧ W.cell? ⟨b0, off + 5, none⟩ = some (.int .u64 (wd u.set 3)) ∧ W.cell? ⟨b0, off + 6, none⟩ = some (.slice x0 y0 z0)))
    (first
      | exact SK.out _ (gd.trans g2)
      | exact SK.out _ gd
      | (go_keep; done))
    (first
      | (go_at_call 62; (with_reducible refine (HO.out _ (T1.out.g.trans gd)).mono ?_); rintro e w2 ⟨g2, v1, v2, xs, rfl, hv1, hv2, hM⟩; have G2 := Lib.hid g2; have HM := Lib.hid hM; have HF1 := Lib.hid hv1; have HF2 := Lib.hid hv2; clear hM hv1 hv2))
  all_goals
    go_wp2
    go_ret
    have g1 := T1.out.g.trans gd
    exact ⟨g1.trans G2.out, v2, xs, rfl, HF2.out, HM.out.up g1 (by simp [cnN, cnL]) (fun b m => by simp [thrN, thrR_one]) (fun W fz X b m h => by simpa [thrN, thrR_one] using h.1)⟩
set_option maxRecDepth 100000 in
set_option maxHeartbeats 4000000 in
theorem cThr5 (P : Nat) (s : ByteArray) (x : Int) (c : BitVec 256) (u : Ni) (HT : NodeT P s u) : NodeT P s (.mk 5 x c [u]) := by
  intro bv a m k w hW hb hr hK
  obtain ⟨bf, bc, rfl⟩ := hb
  have T1 := Lib.hid (thr0 w P (.mk 5 x c [u]) (.slice a m k) (clo bf bc))
  have hr' := hr
  rw [rgtN] at hr'
  simp only [Bool.and_eq_true] at hr'
  have hru : rgtN u = true := rgtL_mem hr'.2 (by simp)
  obtain rfl : m = 1 := hK.len
  obtain ⟨b0, off, x0, y0, z0, rfl, hc, hk'⟩ := hK.at (show [u][0]? = some u from rfl)
  have D := Lib.hid (fun w1 (g : w.grownBy w1 none) => show w1.cell? ⟨b0, off, none⟩ = some (.int .i64 u.kind) ∧ w1.cell? ⟨b0, off + 1, none⟩ = some (.int .i64 u.index) ∧ w1.cell? ⟨b0, off + 2, none⟩ = some (.int .u64 (wd u.set 0)) ∧ w1.cell? ⟨b0, off + 3, none⟩ = some (.int .u64 (wd u.set 1)) ∧ w1.cell? ⟨b0, off + 4, none⟩ = some (.int .u64 (wd u.set 2)) ∧ w1.cell? ⟨b0, off + 5, none⟩ = some (.int .u64 (wd u.set 3)) ∧ w1.cell? ⟨b0, off + 6, none⟩ = some (.slice x0 y0 z0) from
    ⟨g.cell (hc 0 _ rfl) (by simp), g.cell (hc 1 _ rfl) (by simp), g.cell (hc 2 _ rfl) (by simp), g.cell (hc 3 _ rfl) (by simp), g.cell (hc 4 _ rfl) (by simp), g.cell (hc 5 _ rfl) (by simp), g.cell (hc 6 _ rfl) (by simp)⟩)
  have HO := Lib.hid (fun w1 (g : w.grownBy w1 none) => cRound P s u HT hru (clo bf bc) x0 y0 z0 w1 (hW.grown g) ⟨_, _, rfl⟩ (hk'.grown g))
  clear hW hK hr hr' hru HT hc hk'
  go_enter Tryz.func42, Tryz.ntmps42
  go_upto_region 1 with fail
  generalize World.alloc _ _ = w1 at T1 ⊢
  obtain ⟨q, eq⟩ : ∃ q, q = w.heap.size := ⟨_, rfl⟩
  rw [← eq] at T1 ⊢
  clear eq
  obtain ⟨d0, d1, d2, d3, d4, d5, d6⟩ := D.out w1 T1.out.g
  have cw := one_cell T1.out.W
  obtain ⟨s0, s1, s2, s3, s4, s5, s6⟩ := seven_cells T1.out.N
  dsimp only [Ni.kind, Ni.index, Ni.set] at s0 s1 s2 s3 s4 s5
  have cb := one_cell T1.out.B
  go_upto_region 14 with fail
  have SK := Lib.hid (show ∀ W, w1.grownBy W none → ((W.cell? ⟨q, 0, none⟩ = some (ptrV P) ∧ W.cell? ⟨q + 1, 6, none⟩ = some (.slice (some ⟨b0, off, none⟩) 1 k) ∧ W.cell? ⟨q + 1 + 1, 0, none⟩ = some (clo bf bc)) ∧ (W.cell? ⟨b0, off, none⟩ = some (.int .i64 u.kind) ∧ W.cell? ⟨b0, off + 1, none⟩ = some (.int .i64 u.index) ∧ W.cell? ⟨b0, off + 2, none⟩ = some (.int .u64 (wd u.set 0)) ∧ W.cell? ⟨b0, off + 3, none⟩ = some (.int .u64 (wd u.set 1)) ∧ W.cell? ⟨b0, off + 4, none⟩ = some (.int .u64 (wd u.set 2)) ∧ W.cell? ⟨b0, off + 5, none⟩ = some (.int .u64 (wd u.set 3)) ∧ W.cell? ⟨b0, off + 6, none⟩ = some (.slice x0 y0 z0))) from fun W g => ⟨⟨g.cell cw (by simp), g.cell s6 (by simp), g.cell cb (by simp)⟩, g.cell d0 (by simp), g.cell d1 (by simp), g.cell d2 (by simp), g.cell d3 (by simp), g.cell d4 (by simp), g.cell d5 (by simp), g.cell d6 (by simp)⟩)
  have gd := grown_drew (World.grownBy.refl w1 none)
  go_region_held3 (fun W => (W.cell? ⟨q, 0, none⟩ = some (ptrV P) ∧ W.cell? ⟨q + 1, 6, none⟩ = some (.slice (some ⟨b0, off, none⟩) 1 k) ∧ W.cell? ⟨q + 1 + 1, 0, none⟩ = some (clo bf bc)) ∧ (W.cell? ⟨b0, off, none⟩ = some (.int .i64 u.kind) ∧ W.cell? ⟨b0, off + 1, none⟩ = some (.int .i64 u.index) ∧ W.cell? ⟨b0, off + 2, none⟩ = some (.int .u64 (wd u.set 0)) ∧ W.cell? ⟨b0, off + 3, none⟩ = some (.int .u64 (wd u.set 1)) ∧ W.cell? ⟨b0, off + 4, none⟩ = some (.int .u64 (wd u.set 2)) ∧ W.cell? ⟨b0, off + 5, none⟩ = some (.int .u64 (wd u.set 3)) ∧ W.cell? ⟨b0, off + 6, none⟩ = some (.slice x0 y0 z0)))
    (first
      | exact SK.out _ (gd.trans g2)
      | exact SK.out _ gd
      | (go_keep; done))
    (first
      | (go_at_call 62; (with_reducible refine (HO.out _ (T1.out.g.trans gd)).mono ?_); rintro e w2 ⟨g2, v1, v2, xs, rfl, hv1, hv2, hM⟩; have G2 := Lib.hid g2; have HM := Lib.hid hM; have HF1 := Lib.hid hv1; have HF2 := Lib.hid hv2; clear hM hv1 hv2))
  all_goals
    go_wp2
    go_ret
    have g1 := T1.out.g.trans gd
    exact ⟨g1.trans G2.out, v1, xs, rfl, HF1.out, HM.out.up g1 (by simp [cnN, cnL]) (fun b m => by simp [thrN, thrR_one]) (fun W fz X b m h => by simpa [thrN, thrR_one] using h.2)⟩
set_option maxRecDepth 100000 in
set_option maxHeartbeats 4000000 in
theorem cThr7 (P : Nat) (s : ByteArray) (x : Int) (c : BitVec 256) (u : Ni) (HT : NodeT P s u) : NodeT P s (.mk 7 x c [u]) := by
  intro bv a m k w hW hb hr hK
  obtain ⟨bf, bc, rfl⟩ := hb
  have T1 := Lib.hid (thr0 w P (.mk 7 x c [u]) (.slice a m k) (clo bf bc))
  have hr' := hr
  rw [rgtN] at hr'
  simp only [Bool.and_eq_true] at hr'
  have hru : rgtN u = true := rgtL_mem hr'.2 (by simp)
  obtain rfl : m = 1 := hK.len
  obtain ⟨b0, off, x0, y0, z0, rfl, hc, hk'⟩ := hK.at (show [u][0]? = some u from rfl)
  have D := Lib.hid (fun w1 (g : w.grownBy w1 none) => show w1.cell? ⟨b0, off, none⟩ = some (.int .i64 u.kind) ∧ w1.cell? ⟨b0, off + 1, none⟩ = some (.int .i64 u.index) ∧ w1.cell? ⟨b0, off + 2, none⟩ = some (.int .u64 (wd u.set 0)) ∧ w1.cell? ⟨b0, off + 3, none⟩ = some (.int .u64 (wd u.set 1)) ∧ w1.cell? ⟨b0, off + 4, none⟩ = some (.int .u64 (wd u.set 2)) ∧ w1.cell? ⟨b0, off + 5, none⟩ = some (.int .u64 (wd u.set 3)) ∧ w1.cell? ⟨b0, off + 6, none⟩ = some (.slice x0 y0 z0) from
    ⟨g.cell (hc 0 _ rfl) (by simp), g.cell (hc 1 _ rfl) (by simp), g.cell (hc 2 _ rfl) (by simp), g.cell (hc 3 _ rfl) (by simp), g.cell (hc 4 _ rfl) (by simp), g.cell (hc 5 _ rfl) (by simp), g.cell (hc 6 _ rfl) (by simp)⟩)
  have HO := Lib.hid (fun w1 (g : w.grownBy w1 none) => HT (clo bf bc) x0 y0 z0 w1 (hW.grown g) ⟨_, _, rfl⟩ hru (hk'.grown g))
  clear hW hK hr hr' hru HT hc hk'
  go_enter Tryz.func42, Tryz.ntmps42
  go_upto_region 1 with fail
  generalize World.alloc _ _ = w1 at T1 ⊢
  obtain ⟨q, eq⟩ : ∃ q, q = w.heap.size := ⟨_, rfl⟩
  rw [← eq] at T1 ⊢
  clear eq
  obtain ⟨d0, d1, d2, d3, d4, d5, d6⟩ := D.out w1 T1.out.g
  have cw := one_cell T1.out.W
  obtain ⟨s0, s1, s2, s3, s4, s5, s6⟩ := seven_cells T1.out.N
  dsimp only [Ni.kind, Ni.index, Ni.set] at s0 s1 s2 s3 s4 s5
  have cb := one_cell T1.out.B
  go_upto_region 19 with fail
  have SK := Lib.hid (show ∀ W, w1.grownBy W none → ((W.cell? ⟨q, 0, none⟩ = some (ptrV P) ∧ W.cell? ⟨q + 1, 6, none⟩ = some (.slice (some ⟨b0, off, none⟩) 1 k) ∧ W.cell? ⟨q + 1 + 1, 0, none⟩ = some (clo bf bc)) ∧ (W.cell? ⟨b0, off, none⟩ = some (.int .i64 u.kind) ∧ W.cell? ⟨b0, off + 1, none⟩ = some (.int .i64 u.index) ∧ W.cell? ⟨b0, off + 2, none⟩ = some (.int .u64 (wd u.set 0)) ∧ W.cell? ⟨b0, off + 3, none⟩ = some (.int .u64 (wd u.set 1)) ∧ W.cell? ⟨b0, off + 4, none⟩ = some (.int .u64 (wd u.set 2)) ∧ W.cell? ⟨b0, off + 5, none⟩ = some (.int .u64 (wd u.set 3)) ∧ W.cell? ⟨b0, off + 6, none⟩ = some (.slice x0 y0 z0))) from fun W g => ⟨⟨g.cell cw (by simp), g.cell s6 (by simp), g.cell cb (by simp)⟩, g.cell d0 (by simp), g.cell d1 (by simp), g.cell d2 (by simp), g.cell d3 (by simp), g.cell d4 (by simp), g.cell d5 (by simp), g.cell d6 (by simp)⟩)
  have gd := grown_drew (World.grownBy.refl w1 none)
  go_region_held3 (fun W => (W.cell? ⟨q, 0, none⟩ = some (ptrV P) ∧ W.cell? ⟨q + 1, 6, none⟩ = some (.slice (some ⟨b0, off, none⟩) 1 k) ∧ W.cell? ⟨q + 1 + 1, 0, none⟩ = some (clo bf bc)) ∧ (W.cell? ⟨b0, off, none⟩ = some (.int .i64 u.kind) ∧ W.cell? ⟨b0, off + 1, none⟩ = some (.int .i64 u.index) ∧ W.cell? ⟨b0, off + 2, none⟩ = some (.int .u64 (wd u.set 0)) ∧ W.cell? ⟨b0, off + 3, none⟩ = some (.int .u64 (wd u.set 1)) ∧ W.cell? ⟨b0, off + 4, none⟩ = some (.int .u64 (wd u.set 2)) ∧ W.cell? ⟨b0, off + 5, none⟩ = some (.int .u64 (wd u.set 3)) ∧ W.cell? ⟨b0, off + 6, none⟩ = some (.slice x0 y0 z0)))
    (first
      | exact SK.out _ (gd.trans g2)
      | exact SK.out _ gd
      | (go_keep; done))
    (first
      | (go_at_call 42; (with_reducible refine (HO.out _ (T1.out.g.trans gd)).mono ?_); rintro e w2 ⟨g2, v, xs, rfl, hv, hM⟩; have G2 := Lib.hid g2; have HM := Lib.hid hM; have HF := Lib.hid hv; clear hM hv))
  all_goals
    go_wp2
    go_ret
    have g1 := T1.out.g.trans gd
    exact ⟨g1.trans G2.out, v, xs, rfl, HF.out, HM.out.up g1 (by simp [cnN, cnL]) (fun b m => by simp [thrN, thrR_one]) (fun W fz X b m h => by simpa [thrN, thrR_one] using h)⟩
end Go.Proofs.YtlkjejmmoalliaaGreatDoor

namespace Go.Proofs.YtlkjejmmoalliaaGreatDoor
open Go.RowKit

/-- a row of an empty node and another one, just made -/
theorem kids_maybe {w W : World} {u : Ni} {x0 : Option Addr} {y0 z0 B : Nat} (h : KidsE w (.slice x0 y0 z0) u.kids) (g : w.grownBy W none)
    (hB : W.heap[B]? = some (.cells #[.int .i64 0, .int .i64 0, .int .u64 0, .int .u64 0, .int .u64 0, .int .u64 0, .slice none 0 0, .int .i64 u.kind, .int .i64 u.index, .int .u64 (wd u.set 0), .int .u64 (wd u.set 1), .int .u64 (wd u.set 2), .int .u64 (wd u.set 3), .slice x0 y0 z0] 28 (0, 0))) :
    KidsE W (.slice (some ⟨B, 0, none⟩) 2 2) [noneI, u] := by
  refine .items B 0 2 [noneI, u] (fun k => if k = 0 then .slice none 0 0 else .slice x0 y0 z0) (by simp) trivial (by simp) ?_ ?_
  · intro k n hn j v hv
    match k, hn with
    | 0, hn =>
      simp at hn; subst hn
      simp only [if_true, cellsN, Ni.kind, Ni.index, Ni.set, wd_emp] at hv
      unfold World.cell?; rw [hB]
      match j, hv with
      | 0, hv => simpa using hv
      | 1, hv => simpa using hv
      | 2, hv => simpa using hv
      | 3, hv => simpa using hv
      | 4, hv => simpa using hv
      | 5, hv => simpa using hv
      | 6, hv => simpa using hv
    | 1, hn =>
      simp at hn; subst hn
      simp only [cellsN] at hv
      unfold World.cell?; rw [hB]
      match j, hv with
      | 0, hv => simpa using hv
      | 1, hv => simpa using hv
      | 2, hv => simpa using hv
      | 3, hv => simpa using hv
      | 4, hv => simpa using hv
      | 5, hv => simpa using hv
      | 6, hv => simpa using hv
  · intro k n hn
    match k, hn with
    | 0, hn => simp at hn; subst hn; exact .empty _ _
    | 1, hn => simp at hn; subst hn; exact h.grown g
set_option maxRecDepth 100000 in
set_option maxHeartbeats 4000000 in
theorem cThr6 (P : Nat) (s : ByteArray) (x : Int) (c : BitVec 256) (u : Ni) (HT : NodeT P s u) : NodeT P s (.mk 6 x c [u]) := by
  intro bv a m k w hW hb hr hK
  obtain ⟨bf, bc, rfl⟩ := hb
  have T1 := Lib.hid (thr0 w P (.mk 6 x c [u]) (.slice a m k) (clo bf bc))
  have hr' := hr
  rw [rgtN] at hr'
  simp only [Bool.and_eq_true] at hr'
  have hru : rgtN u = true := rgtL_mem hr'.2 (by simp)
  obtain rfl : m = 1 := hK.len
  obtain ⟨b0, off, x0, y0, z0, rfl, hc, hk'⟩ := hK.at (show [u][0]? = some u from rfl)
  have D := Lib.hid (fun w1 (g : w.grownBy w1 none) => show w1.cell? ⟨b0, off, none⟩ = some (.int .i64 u.kind) ∧ w1.cell? ⟨b0, off + 1, none⟩ = some (.int .i64 u.index) ∧ w1.cell? ⟨b0, off + 2, none⟩ = some (.int .u64 (wd u.set 0)) ∧ w1.cell? ⟨b0, off + 3, none⟩ = some (.int .u64 (wd u.set 1)) ∧ w1.cell? ⟨b0, off + 4, none⟩ = some (.int .u64 (wd u.set 2)) ∧ w1.cell? ⟨b0, off + 5, none⟩ = some (.int .u64 (wd u.set 3)) ∧ w1.cell? ⟨b0, off + 6, none⟩ = some (.slice x0 y0 z0) from
    ⟨g.cell (hc 0 _ rfl) (by simp), g.cell (hc 1 _ rfl) (by simp), g.cell (hc 2 _ rfl) (by simp), g.cell (hc 3 _ rfl) (by simp), g.cell (hc 4 _ rfl) (by simp), g.cell (hc 5 _ rfl) (by simp), g.cell (hc 6 _ rfl) (by simp)⟩)
  have HO := Lib.hid (fun W (g : w.grownBy W none) (B : Nat) hB => cAny P s [noneI, u] (by simp) (by simp) (fun n hn => by
    rcases List.mem_cons.1 hn with rfl | hn
    · exact cThr0 P s 0 emp []
    · simp at hn; subst hn; exact HT) (by rw [rgtL, rgtL, rgtL, hru]; rfl) (clo bf bc) (some ⟨B, 0, none⟩) 2 2 W (hW.grown g) ⟨_, _, rfl⟩ (kids_maybe hk' g hB))
  clear hW hK hr hr' hru HT hc hk'
  go_enter Tryz.func42, Tryz.ntmps42
  go_upto_region 1 with fail
  generalize World.alloc _ _ = w1 at T1 ⊢
  obtain ⟨q, eq⟩ : ∃ q, q = w.heap.size := ⟨_, rfl⟩
  rw [← eq] at T1 ⊢
  clear eq
  obtain ⟨d0, d1, d2, d3, d4, d5, d6⟩ := D.out w1 T1.out.g
  have cw := one_cell T1.out.W
  obtain ⟨s0, s1, s2, s3, s4, s5, s6⟩ := seven_cells T1.out.N
  dsimp only [Ni.kind, Ni.index, Ni.set] at s0 s1 s2 s3 s4 s5
  have cb := one_cell T1.out.B
  go_upto_region 17 with fail
  have SK := Lib.hid (show ∀ W, w1.grownBy W none → ((W.cell? ⟨q, 0, none⟩ = some (ptrV P) ∧ W.cell? ⟨q + 1, 6, none⟩ = some (.slice (some ⟨b0, off, none⟩) 1 k) ∧ W.cell? ⟨q + 1 + 1, 0, none⟩ = some (clo bf bc)) ∧ (W.cell? ⟨b0, off, none⟩ = some (.int .i64 u.kind) ∧ W.cell? ⟨b0, off + 1, none⟩ = some (.int .i64 u.index) ∧ W.cell? ⟨b0, off + 2, none⟩ = some (.int .u64 (wd u.set 0)) ∧ W.cell? ⟨b0, off + 3, none⟩ = some (.int .u64 (wd u.set 1)) ∧ W.cell? ⟨b0, off + 4, none⟩ = some (.int .u64 (wd u.set 2)) ∧ W.cell? ⟨b0, off + 5, none⟩ = some (.int .u64 (wd u.set 3)) ∧ W.cell? ⟨b0, off + 6, none⟩ = some (.slice x0 y0 z0))) from fun W g => ⟨⟨g.cell cw (by simp), g.cell s6 (by simp), g.cell cb (by simp)⟩, g.cell d0 (by simp), g.cell d1 (by simp), g.cell d2 (by simp), g.cell d3 (by simp), g.cell d4 (by simp), g.cell d5 (by simp), g.cell d6 (by simp)⟩)
  have gd := grown_drew (World.grownBy.refl w1 none)
  have ga := grown_drew (World.grownBy_alloc w1 (.cells #[.int .i64 0, .int .i64 0, .int .u64 0, .int .u64 0, .int .u64 0, .int .u64 0, .slice none 0 0, .int .i64 u.kind, .int .i64 u.index, .int .u64 (wd u.set 0), .int .u64 (wd u.set 1), .int .u64 (wd u.set 2), .int .u64 (wd u.set 3), .slice x0 y0 z0] 28) none)
  have HB := Lib.hid (HO.out _ (T1.out.g.trans ga) w1.heap.size (show (World.drew _).heap[w1.heap.size]? = _ from heap_alloc_new w1 _))
  go_region_held3 (fun W => (W.cell? ⟨q, 0, none⟩ = some (ptrV P) ∧ W.cell? ⟨q + 1, 6, none⟩ = some (.slice (some ⟨b0, off, none⟩) 1 k) ∧ W.cell? ⟨q + 1 + 1, 0, none⟩ = some (clo bf bc)) ∧ (W.cell? ⟨b0, off, none⟩ = some (.int .i64 u.kind) ∧ W.cell? ⟨b0, off + 1, none⟩ = some (.int .i64 u.index) ∧ W.cell? ⟨b0, off + 2, none⟩ = some (.int .u64 (wd u.set 0)) ∧ W.cell? ⟨b0, off + 3, none⟩ = some (.int .u64 (wd u.set 1)) ∧ W.cell? ⟨b0, off + 4, none⟩ = some (.int .u64 (wd u.set 2)) ∧ W.cell? ⟨b0, off + 5, none⟩ = some (.int .u64 (wd u.set 3)) ∧ W.cell? ⟨b0, off + 6, none⟩ = some (.slice x0 y0 z0)))
    (first
      | exact SK.out _ (ga.trans g2)
      | exact SK.out _ ga
      | exact SK.out _ gd
      | exact SK.out _ (grown_drew (World.grownBy_alloc w1 _ none))
      | (go_keep; done))
    (first
      | (go_at_call 61; (with_reducible refine (HB.out).mono ?_); rintro e w2 ⟨g2, v, xs, rfl, hv, hM⟩; have G2 := Lib.hid g2; have HM := Lib.hid hM; have HF := Lib.hid hv; clear hM hv))
  all_goals
    go_wp2
    go_ret
    have g1 := T1.out.g.trans ga
    exact ⟨g1.trans G2.out, v, xs, rfl, HF.out, HM.out.up g1 (by simp [cnN, cnL]) (fun b m => by simp [thrN, thrA, thrR_one]) (fun W fz X b m h => by simpa [thrN, thrA, thrR_one] using h)⟩
end Go.Proofs.YtlkjejmmoalliaaGreatDoor

namespace Go.Proofs.YtlkjejmmoalliaaGreatDoor
open Go.RowKit Go.Shelf
attribute [local go_sem] Oper.semAt_some

/-- a place of a row of nodes -/
abbrev KI (L : List Ni) := {k : Nat // k < L.length}
/-- what the loop's variables are given there -/
abbrev encK (L : List Ni) (kv : Nat → Value) (x : KI L) : Array Value := #[.int .i64 x.1, niV (L[x.1]'x.2) (kv x.1)]
/-- the first j rounds' places -/
def dnK (L : List Ni) : Nat → List (KI L)
  | 0 => []
  | j + 1 => dnK L j ++ (if h : L.length - 1 - j < L.length then [⟨L.length - 1 - j, h⟩] else [])
theorem dnK_succ (L : List Ni) (j : Nat) (h : L.length - 1 - j < L.length) : dnK L (j + 1) = dnK L j ++ [⟨L.length - 1 - j, h⟩] := by rw [dnK, dif_pos h]
theorem dnK_len (L : List Ni) : ∀ j, j ≤ L.length → (dnK L j).length = j
  | 0, _ => rfl
  | j + 1, h => by rw [dnK_succ L j (by omega), List.length_append, dnK_len L j (by omega)]; rfl
/-- the nodes that came: the last one ahead -/
def ndK (L : List Ni) (pre : List (KI L)) : List Ni := pre.reverse.map fun x => L[x.1]'x.2
theorem ndK_snoc (L : List Ni) (pre : List (KI L)) (x : KI L) : ndK L (pre ++ [x]) = (L[x.1]'x.2) :: ndK L pre := by unfold ndK; simp
theorem ndK_dn (L : List Ni) : ∀ j, j ≤ L.length → ndK L (dnK L j) = L.drop (L.length - j)
  | 0, _ => by simp [dnK, ndK]
  | j + 1, h => by
    have hlt : L.length - 1 - j < L.length := by omega
    rw [dnK_succ L j hlt, ndK_snoc, ndK_dn L j (by omega), show L.length - (j + 1) = L.length - 1 - j by omega, List.drop_eq_getElem_cons hlt]
    simp only []
    congr 2
    omega
theorem ndK_all (L : List Ni) : ndK L (dnK L L.length) = L := by rw [ndK_dn L _ (Nat.le_refl _)]; simp
/-- what a round keeps: all that lay ahead of n0 but one variable -/
def KpB (n0 q : Nat) (W W' : World) : Prop := ∀ k, k < n0 → k ≠ q → W'.heap[k]? = W.heap[k]?
theorem KpB.refl (n0 q : Nat) (W : World) : KpB n0 q W W := fun _ _ _ => rfl
theorem KpB.trans {n0 q : Nat} {A B C : World} (h : KpB n0 q A B) (h2 : KpB n0 q B C) : KpB n0 q A C := fun k hk hq => (h2 k hk hq).trans (h k hk hq)
theorem KpB.cell {n0 q b off : Nat} {W W' : World} {v : Value} (h : KpB n0 q W W') (hb : b < n0) (hq : b ≠ q) (hc : W.cell? ⟨b, off, none⟩ = some v) : W'.cell? ⟨b, off, none⟩ = some v :=
  (World.cell?_of_block (w := W) (w' := W') (a := ⟨b, off, none⟩) (h b hb hq)).trans hc

set_option maxRecDepth 100000 in
set_option maxHeartbeats 2000000 in
theorem back1_in (F : Fence) (n : Nat) (h64 : F.fn 74) (hro : F.round = none) (hn : 1 ≤ n) (l Bs n0 q b off c : Nat) (L : List Ni) (kv : Nat → Value) (hL : L.length ≤ 200)
    (hB : Bs < n0 ∧ Bs ≠ q) (hb : b < n0 ∧ b ≠ q) (hkv : ∀ k n, L[k]? = some n → ∃ x z, kv k = .slice x n.kids.length z) (J Jx : List (KI L) → World → Prop)
    (hY : ∀ pre x W, J pre W → pre.length < L.length → YieldAt F (n - 1) Tryz.prog l (encK L kv x) W fun e W' => (e = .returned (.bool true) ∧ J (pre ++ [x]) W' ∧ KpB n0 q W W') ∨ (e = .returned (.bool false) ∧ Jx (pre ++ [x]) W'))
    (W : World) (hBs : W.cell? ⟨Bs, 0, none⟩ = some (.slice (some ⟨b, off, none⟩) L.length c)) (hc : ∀ k n, L[k]? = some n → ∀ j u, (cellsN n (kv k))[j]? = some u → W.cell? ⟨b, off + k * 7 + j, none⟩ = some u) (h0 : J [] W) :
    CallsIn F n Tryz.prog 74 #[.func (.yield l) #[] #[], .pointer (some ⟨Bs, 0, none⟩)] W fun e W' => (∃ v, e = .returned v) ∧
      ((∃ ys, ys = dnK L L.length ∧ J ys W') ∨ (∃ pre, True ∧ Jx pre W')) := by
  refine callsIn_of_wp Tryz.func74 rfl h64 ?_ hro
  simp only [Tryz.ntmps74, List.size_toArray, List.length_cons, List.length_nil, Nat.reduceAdd, Nat.reduceSub, Array.replicate_succ, Array.replicate_zero, List.push_toArray, List.append_toArray, List.nil_append, List.cons_append]
  gi_wp2
  gi_loopw [3] (fun i wr => ∃ j k : Nat, k + j = L.length ∧ i = .int .i64 ((k : Int) - 1) ∧ J (dnK L j) wr ∧ KpB n0 q W wr) (fun i _ => (intOf i + 1).toNat)
  case atStart => exact ⟨0, L.length, by omega, by go_num, h0, KpB.refl _ _ _⟩
  case round =>
    obtain ⟨j, k, hjk, rfl, hJs, hnx⟩ := hrel
    have hBx := hnx.cell hB.1 hB.2 hBs
    cases k with
    | zero =>
      gi_wp2
      go_end0
      obtain rfl : j = L.length := by omega
      exact ⟨⟨_, rfl⟩, .inl ⟨_, rfl, hJs⟩⟩
    | succ k =>
      have hlt : k < L.length := by omega
      have hlt2 : L.length - 1 - j < L.length := by omega
      have ek : L.length - 1 - j = k := by omega
      have hg : L[k]? = some (L[k]'hlt) := List.getElem?_eq_getElem hlt
      obtain ⟨xa, xc, ekv⟩ := hkv k _ hg
      have hD := dnK_succ L j hlt2
      obtain ⟨fn, tmps, assign, body, hy, hR⟩ := hY (dnK L j) ⟨k, hlt⟩ wr hJs (by rw [dnK_len L j (by omega)]; omega)
      rw [show (⟨L.length - 1 - j, hlt2⟩ : KI L) = ⟨k, hlt⟩ from Subtype.ext ek] at hD
      simp only [encK, ekv] at hy
      have hcx := fun (i : Nat) (u : Value) (hu : (cellsN (L[k]'hlt) (kv k))[i]? = some u) => hnx.cell hb.1 hb.2 (hc k (L[k]'hlt) hg i u hu)
      rw [ekv] at hcx
      have HC := Lib.hid hcx
      clear hc hcx hkv
      generalize L[k]'hlt = nk at *
      have c0 : wr.cell? ⟨b, off + k * 7, none⟩ = some (.int .i64 nk.kind) := HC.out 0 _ rfl
      have c1 := HC.out 1 _ rfl
      have c2 := HC.out 2 _ rfl
      have c3 := HC.out 3 _ rfl
      have c4 := HC.out 4 _ rfl
      have c5 := HC.out 5 _ rfl
      have c6 := HC.out 6 _ rfl
      rw [show (((k + 1 : Nat) : Int) - 1) = (k : Int) by omega]
      gi_wp2
      refine hR.mono ?_
      rintro e W3 (⟨rfl, hJ3, hk3⟩ | ⟨rfl, hJx3⟩)
      · gi_wp2
        go_roundw
        case rel => exact ⟨j + 1, k, by omega, by go_num, by rw [hD]; exact hJ3, hnx.trans hk3⟩
        case measure => simp [intOf]
      · gi_wp2
        refine bodyPost_ret (results_none rfl _ _ _) rfl ?_
        exact ⟨⟨_, rfl⟩, .inr ⟨_, trivial, hJx3⟩⟩
set_option maxHeartbeats 1000000 in
/-- slices.Backward: the row in a variable, a function that holds it -/
theorem back_in (F : Fence) (n : Nat) (h54 : F.fn 60) (hro : F.round = none) (a : Option Addr) (m c : Nat) (w : World) :
    CallsIn F n Tryz.prog 60 #[.slice a m c] w fun e w' => e = .returned (.func (.func 74) #[] #[.pointer (some ⟨w.heap.size, 0, none⟩)]) ∧ w' = w.alloc (.cells #[.slice a m c] 26) := by
  refine callsIn_of_wp Tryz.func60 rfl h54 ?_ hro
  simp only [Tryz.ntmps60, List.size_toArray, List.length_cons, List.length_nil, Nat.reduceAdd, Nat.reduceSub, Array.replicate_succ, Array.replicate_zero, List.push_toArray, List.append_toArray, List.nil_append, List.cons_append]
  gi_wp2
  go_ret
  exact ⟨rfl, rfl⟩
/-- what it answers gives all nodes, from the last one on -/
theorem back_stops (F : Fence) (n : Nat) (h64 : F.fn 74) (hro : F.round = none) (hn : 1 ≤ n) (Bs n0 q b off c : Nat) (L : List Ni) (kv : Nat → Value) (hL : L.length ≤ 200)
    (hB : Bs < n0 ∧ Bs ≠ q) (hb : b < n0 ∧ b ≠ q) (hkv : ∀ k n, L[k]? = some n → ∃ x z, kv k = .slice x n.kids.length z) (w : World) (hn0 : n0 ≤ w.heap.size)
    (hBs : w.cell? ⟨Bs, 0, none⟩ = some (.slice (some ⟨b, off, none⟩) L.length c)) (hc : ∀ k n, L[k]? = some n → ∀ j u, (cellsN n (kv k))[j]? = some u → w.cell? ⟨b, off + k * 7 + j, none⟩ = some u) :
    SeqStopsK F n Tryz.prog 74 #[.pointer (some ⟨Bs, 0, none⟩)] (encK L kv) (KpB n0 q) (fun ys => ys = dnK L L.length) (fun _ => True) L.length w := fun l J Jx W hW _ _ hY h0 =>
  back1_in F n h64 hro hn l Bs n0 q b off c L kv hL hB hb hkv J Jx hY W ((hW.cell (p := ⟨Bs, 0, none⟩) (by have := hB.1; show Bs < _; omega)).trans hBs)
    (fun k nn hk j u hu => (hW.cell (p := ⟨b, off + k * 7 + j, none⟩) (by have := hb.1; show b < _; omega)).trans (hc k nn hk j u hu)) h0
end Go.Proofs.YtlkjejmmoalliaaGreatDoor

namespace Go.Proofs.YtlkjejmmoalliaaGreatDoor
open Go.RowKit Go.Shelf
attribute [local go_sem] Oper.semAt_some

/-- between two rounds: the steps that are made, with their variable q; w2: the world where the loop begins -/
def CatI (e : Nat) (w0 w2 : World) (P q : Nat) (bv : Value) (L : List Ni) (pre : List (KI L)) (W : World) : Prop :=
  (w0.grownBy W none ∧ w2.heap.size ≤ W.heap.size ∧ KpB w2.heap.size q w2 W) ∧ ∃ v D xs, isFn v ∧ W.heap[q]? = some (.cells #[v] 94 (0, 0)) ∧ (∀ k, D k → w2.heap.size ≤ k) ∧
    Made D W P (cnL (ndK L pre)) bv xs (fun W fz X b m => ActV W fz X v (thrR e (ndK L pre) b m).1) (fun b m => (thrR e (ndK L pre) b m).2)
theorem CatI.kept {e P q : Nat} {w0 w2 : World} {bv : Value} {L : List Ni} {pre : List (KI L)} {W W' : World} {row : Option Nat} (h : CatI e w0 w2 P q bv L pre W) (g : W.grownBy W' row) (h02 : w0.heap.size ≤ w2.heap.size)
    (hr : ∀ r, row = some r → w2.heap.size ≤ r ∧ ∃ o : Obj, W.heap[r]? = some o ∧ o.isCells = false) : CatI e w0 w2 P q bv L pre W' := by
  obtain ⟨⟨hG, hs, hK⟩, v, D, xs, hv, hq, hD, hM⟩ := h
  have hc : ∀ k, isC W k → some k ≠ row := fun k hk e => by
    obtain ⟨-, o, ho, hoc⟩ := hr k e.symm
    obtain ⟨c, t, f, h⟩ := hk
    rw [ho] at h; cases h; cases hoc
  refine ⟨⟨hG.andThen g (fun j hj => .inl (Nat.le_trans h02 (hr j hj).1)), Nat.le_trans hs g.size, fun k hk hq => (g.block k (by omega) (fun e => by have := (hr k e.symm).1; omega)).trans (hK k hk hq)⟩, v, D, xs, hv, (g.block q (cells_lt hq) (hc q ⟨_, _, _, hq⟩)).trans hq, hD,
    hM.later (fun _ h => h) (fun k hk => Nat.lt_of_lt_of_le (hM.hD k hk) g.size) (fun k hk hk2 => g.block k (hM.hD k hk) (hc k hk2))⟩
/-- one more node -/
theorem CatI.step {e P q : Nat} {w0 w2 : World} {bv v v' : Value} {L : List Ni} {pre : List (KI L)} {x : KI L} {W W2 : World} {D : Nat → Prop} {xs xs' : List (Value × Option Nat)}
    (hG : w0.grownBy W none) (hsz : w2.heap.size ≤ W.heap.size) (hK : KpB w2.heap.size q w2 W) (hq0 : w0.heap.size ≤ q) (hqb : q < w2.heap.size) (hq : W.heap[q]? = some (.cells #[v] 94 (0, 0))) (hD : ∀ k, D k → w2.heap.size ≤ k)
    (hM : Made D W P (cnL (ndK L pre)) bv xs (fun W fz X b m => ActV W fz X v (thrR e (ndK L pre) b m).1) (fun b m => (thrR e (ndK L pre) b m).2))
    (g2 : W.grownBy W2 none) (hN : MadeN e W.heap.size W2 P (L[x.1]'x.2) v v' xs') (hf : isFn v') :
    CatI e w0 w2 P q bv L (pre ++ [x]) (W2.setCell ⟨q, 0, none⟩ v') := by
  have q2 := heap_grown g2 hq
  have A := hM.later (w2 := W2) (fun _ h => h) (fun k hk => Nat.lt_of_lt_of_le (hM.hD k hk) g2.size) (fun k hk _ => (g2.block k (hM.hD k hk) (by simp)))
  have S := A.seq hN (fun k hk hi => by have := hM.hD k hk; have := hi.1; omega) A.hD (fun _ _ _ => rfl) (fun b m => (thrR e (ndK L pre) b m).1) (fun W fz X b m _ h => h)
  refine ⟨⟨grown_set (hG.trans g2) 0 _ hq0, by rw [World.size_setCell]; have := g2.size; omega, fun k hk hkq => (heap_setCell_other W2 ⟨q, 0, none⟩ k _ hkq).trans ((g2.block k (by omega) (by simp)).trans (hK k hk hkq))⟩,
    v', fun k => D k ∨ Iv W.heap.size W2 k, xs ++ xs', hf, heap_setCell_same W2 q 0 _ _ _ q2, fun k hk => hk.elim (hD k) (fun hk => by have := hk.1; omega), ?_⟩
  have hk0 : ∀ k, D k ∨ Iv W.heap.size W2 k → k ≠ q := fun k hk e => by
    subst e
    exact hk.elim (fun hk => by have := hD _ hk; omega) (fun hk => by have := hk.1; omega)
  refine S.same (by rw [ndK_snoc, cnL]; omega) (fun b m => by rw [ndK_snoc, thrR, thrR_len]) (fun _ h => h) (fun k hk => by rw [World.size_setCell]; exact S.hD k hk) (fun k hk _ => heap_setCell_other W2 ⟨q, 0, none⟩ k _ (hk0 k hk)) fun W fz X b m _ h => ?_
  rw [ndK_snoc, thrR, thrR_len]
  exact h.2
/-- a range over a function whose last variable lies in a block of its own in each round -/
theorem wpIn_rangeFunc_box {F : Fence} {n : Nat} {P : Program} {α : Type} {g : Operand} {ps : Array Tmp} {assign body : Code} {Q : Exit → Act → World → Prop} {a : Act} {w : World} (t8 : Nat) (ob : α → Obj) (hob : ∀ x, (ob x).isCells = true)
    (hro : F.round = none) (h1 : 1 ≤ n) {gf : Nat} {lb : Array Value} (hg : a.eval g = .func (.func gf) #[] lb) (hFg : F.fn gf) (eg : ∀ args w, (callFunc gf args).run P w = .ok (.enter gf args) w)
    {encs : α → Array Value} {Kp : World → World → Prop} {S Sp : List α → Prop} {N : Nat} {w0 : World} (hseq : SeqStopsK F (n - 1) P gf lb encs Kp S Sp N w0)
    (hKt : ∀ {A B C : World}, Kp A B → Kp B C → Kp A C) (hKb : ∀ (W : World) (l : Nat) (o o' : Obj), w.heap.size ≤ l → W.heap[l]? = some o → o.isCells = false → o.isWalk = false → Kp W (W.putObj l o')) (hb0 : Below w0.heap.size w0 w) (hps : ∀ x, (encs x).size = ps.size)
    (I : List α → World → Prop) (hI : OwnFrom w.heap.size I) (h0 : I [] w)
    (hassign : ∀ (l : Nat) (pre : List α) (x : α) (W : World) (K : Act → World → Prop), I pre W →
      (∀ Bx W', KeepsFrom w.heap.size W W' → Kp W W' → I pre W' → W'.heap[Bx]? = some (ob x) → K { tmps := ((ps.zip (encs x)).foldl (fun t (p, v) => t.setIfInBounds p v) a.tmps).setIfInBounds t8 (.pointer (some ⟨Bx, 0, none⟩)), defers := [] } W') →
      assign.wpIn (F.inRound l) (n - 1 - 1) P (Exit.then K (fun _ _ _ => False)) { tmps := (ps.zip (encs x)).foldl (fun t (p, v) => t.setIfInBounds p v) a.tmps, defers := [] } W)
    (hbody : ∀ (l : Nat) (pre : List α) (x : α) (Bx : Nat) (W : World), I pre W → W.heap[Bx]? = some (ob x) → pre.length < N →
      body.wpIn (F.inRound l) (n - 1 - 1) P (ownPostG w.heap.size Kp I (fun _ _ _ => False) (pre ++ [x]) W) { tmps := ((ps.zip (encs x)).foldl (fun t (p, v) => t.setIfInBounds p v) a.tmps).setIfInBounds t8 (.pointer (some ⟨Bx, 0, none⟩)), defers := [] } W)
    (hdone : ∀ (D : Nat) (xs : List α) (W : World), w.heap.size ≤ D → S xs → I xs W → W.heap[D]? = some (.deferred (some [])) → Q .normal { a with defers := { target := .collected D, args := #[] } :: a.defers } W) :
    (Code.rangeFunc g ps assign body).wpIn F n P Q a w :=
  wpIn_rangeFunc_ownH hro h1 hg hFg eg hseq hKt hKb hb0 hps I (fun _ _ _ => False) hI (fun _ _ _ _ _ h _ _ => h) h0
    (fun x a' W => ∃ Bx, W.heap[Bx]? = some (ob x) ∧ a' = { tmps := ((ps.zip (encs x)).foldl (fun t (p, v) => t.setIfInBounds p v) a.tmps).setIfInBounds t8 (.pointer (some ⟨Bx, 0, none⟩)), defers := [] })
    (fun x a' _ X Y row hs hg hr => by
      obtain ⟨Bx, h1, h2⟩ := hs
      refine ⟨Bx, (hg.block Bx (cells_lt h1) fun e => ?_).trans h1, h2⟩
      obtain ⟨-, o, ho, hoc⟩ := hr Bx e.symm
      rw [h1] at ho; cases ho; rw [hob] at hoc; cases hoc)
    (fun l pre x W K hi hK => hassign l pre x W K hi fun Bx W' k1 k2 k3 k4 => hK _ _ k1 k2 k3 ⟨Bx, k4, rfl⟩)
    (fun l pre x a' W _ _ hi ha hl => by obtain ⟨Bx, h1, rfl⟩ := ha; exact hbody l pre x Bx W hi h1 hl)
    hdone (fun _ _ _ _ _ _ h _ => h.elim)
set_option maxRecDepth 100000 in
set_option maxHeartbeats 8000000 in
theorem cThr2 (P : Nat) (s : ByteArray) (x : Int) (c : BitVec 256) (l : List Ni) (hl : l.length ≤ 200) (HT : ∀ n ∈ l, NodeT P s n) : NodeT P s (.mk 2 x c l) := by
  intro bv a m k w hW hb hr hK
  obtain ⟨bf, bc, rfl⟩ := hb
  rw [rgtN] at hr
  simp only [Bool.and_eq_true] at hr
  have h2 := kids_two hr.1.1.1 (.inl rfl)
  have hrl := hr.2
  clear hr
  have hK' : KidsE w (.slice a m k) l := hK
  obtain rfl := hK'.len
  have hcap := hK'.cap (by rintro rfl; simp at h2)
  obtain ⟨sv, hsv⟩ : ∃ sv, sv = Value.slice a l.length k := ⟨_, rfl⟩
  rw [← hsv] at hK'
  cases hK' with
  | empty => simp at h2
  | items b off c' _ kv hne hp hq hc hk =>
  cases hsv
  have hkv : ∀ k n, l[k]? = some n → ∃ x z, kv k = .slice x n.kids.length z := fun k n hn => (hk k n hn).shape
  have T1 := Lib.hid (thr0 w P (.mk 2 x c l) (.slice (some ⟨b, off, none⟩) l.length k) (clo bf bc))
  refine (callsIn_wide (n := 10)).1 ?_
  refine callsIn_of_wp_marks Tryz.func42 rfl trivial ?_ rfl
  simp only [Tryz.ntmps42, List.size_toArray, List.length_cons, List.length_nil, Nat.reduceAdd, Nat.reduceSub, Array.replicate_succ, Array.replicate_zero, List.push_toArray, List.append_toArray, List.nil_append, List.cons_append]
  gi_upto_region 1 with fail
  generalize World.alloc _ _ = w1 at T1 ⊢
  obtain ⟨q, eq⟩ : ∃ q, q = w.heap.size := ⟨_, rfl⟩
  rw [← eq] at T1 ⊢
  clear eq
  have HC := Lib.hid hc
  have HW := Lib.hid hW
  have HTT := Lib.hid HT
  have HK := Lib.hid hk
  have HKV := Lib.hid hkv
  clear hc hW HT hk hkv hK hp hq
  have z0 := one_cell T1.out.W
  obtain ⟨s0, s1, s2, s3, s4, s5, s6⟩ := seven_cells T1.out.N
  dsimp only [Ni.kind, Ni.index, Ni.set] at s0 s1 s2 s3 s4 s5
  have y0 := one_cell T1.out.B
  gi_wp2_with (refine ⟨trivial, ?_⟩; gi_at_call 60; refine (back_in Fence.wide _ trivial rfl _ _ _ _).mono ?_; rintro e w' ⟨rfl, rfl⟩)
  obtain ⟨w2, hw2⟩ : ∃ w2, w2 = w1.alloc (.cells #[.slice (some ⟨b, off, none⟩) l.length k] 26) := ⟨_, rfl⟩
  rw [← hw2]
  have g2 : w1.grownBy w2 none := by rw [hw2]; exact World.grownBy_alloc w1 _ none
  have hBs : w2.heap[w1.heap.size]? = some (.cells #[.slice (some ⟨b, off, none⟩) l.length k] 26 (0, 0)) := by rw [hw2]; exact heap_alloc_new w1 _
  have hs2 : w2.heap.size = w1.heap.size + 1 := by rw [hw2, World.size_alloc]
  have T2 := T1.out.B
  have hq5 : q + 1 + 1 < w1.heap.size := cells_lt T2
  have hq0 : w.heap.size ≤ q + 1 + 1 := by have := T1.out.h; omega
  have hbw : b < w.heap.size := by
    obtain ⟨n0, hn0⟩ : ∃ n0, l[0]? = some n0 := ⟨_, List.getElem?_eq_getElem (by omega)⟩
    exact cell_block (HC.out 0 n0 hn0 0 _ rfl)
  have G2 := T1.out.g.trans g2
  clear hw2
  generalize w1.heap.size = Bs at hBs hs2 hq5
  refine wpIn_rangeFunc_box 8 (fun x : KI l => .cells #[.int .i64 (l[x.1]'x.2).kind, .int .i64 (l[x.1]'x.2).index, .int .u64 (wd (l[x.1]'x.2).set 0), .int .u64 (wd (l[x.1]'x.2).set 1), .int .u64 (wd (l[x.1]'x.2).set 2), .int .u64 (wd (l[x.1]'x.2).set 3), kv x.1] 28) (fun _ => rfl)
    rfl (by decide) (gf := 74) (lb := #[.pointer (some ⟨Bs, 0, none⟩)]) rfl trivial (enters_of Tryz.func74 (by kernel_rfl) rfl)
    (back_stops Fence.wide 9 trivial rfl (by decide) Bs w2.heap.size (q + 1 + 1) b off k l kv hl ⟨by omega, by omega⟩ ⟨by omega, by omega⟩ HKV.out w2 (Nat.le_refl _) (one_cell hBs) (fun i n hn j u hu => G2.cell (HC.out i n hn j u hu) (by simp)))
    (fun h1 h2 => h1.trans h2) (fun W l o o' hl h _ _ kk hk _ => World.putObj_heap_other (by omega)) (Below.refl _ _) (fun _ => rfl)
    (CatI s.size w w2 P (q + 1 + 1) (clo bf bc) l)
    (fun pre A B row hs hg hr => hs.kept hg G2.size hr)
    ⟨⟨G2, Nat.le_refl _, KpB.refl _ _ _⟩, clo bf bc, fun _ => False, [], ⟨_, _, rfl⟩, heap_grown g2 T2, fun _ h => h.elim, (Made.nothing w2 P (clo bf bc)).same (by simp [ndK, cnL]) (fun b m => by simp [ndK, thrR]) (fun _ h => h) (fun _ h => h.elim) (fun _ _ _ => rfl) (fun W fz X b m _ h => by simpa [ndK, thrR] using h)⟩
    ?assign ?body ?done
  case assign =>
    rintro l' pre x' W K hI hK
    obtain ⟨xa, xc, ekv⟩ := HKV.out x'.1 _ (List.getElem?_eq_getElem x'.2)
    simp only [encK, ekv] at hK ⊢
    generalize l[x'.1]'x'.2 = nk at hK ⊢
    simp only [List.zip_toArray, List.zip_cons_cons, List.zip_nil_right, List.foldl_toArray', List.size_toArray, List.foldl_cons, List.foldl_nil, List.setIfInBounds_toArray, List.set_cons_succ, List.set_cons_zero] at hK ⊢
    have HK2 := Lib.hid hK
    have HI2 := Lib.hid hI
    clear hK hI
    gi_wp2
    exact HK2.out W.heap.size _ ((KeepsOthers.alloc _ _).from _) (fun kk hk _ => Below.heap_alloc W _ kk (by have := HI2.out.1.2.1; omega)) (HI2.out.kept (World.grownBy_alloc _ _ none) G2.size (fun r e => by cases e)) (heap_alloc_new W _)
  case body =>
    rintro l' pre x' Bx W hI hX hlt
    have hnx : l[x'.1]? = some (l[x'.1]'x'.2) := List.getElem?_eq_getElem x'.2
    obtain ⟨xa, xc, ekv⟩ := HKV.out x'.1 _ hnx
    obtain ⟨⟨hG, hs, hKp⟩, v, D, xs, hv, hq, hD, hM⟩ := hI
    obtain ⟨vf, vc, rfl⟩ := hv
    have HN := Lib.hid (HTT.out _ (List.getElem_mem x'.2))
    have HR := Lib.hid (rgtL_mem hrl (List.getElem_mem x'.2))
    have HKK := Lib.hid (show KidsE W (.slice xa (l[x'.1]'x'.2).kids.length xc) (l[x'.1]'x'.2).kids by rw [← ekv]; exact (KidsI.any (HK.out _ _ hnx)).grown hG)
    have HST := Lib.hid (fun W2 v' xs' g2 hN hf => CatI.step (x := x') (W2 := W2) (v' := v') (xs' := xs') hG hs hKp hq0 (by omega) hq hD hM g2 hN hf)
    have HKp := Lib.hid hKp
    have HG := Lib.hid hG
    have HX := Lib.hid hX
    have HQ5 := Lib.hid hq
    have HS := Lib.hid hs
    have HWW := Lib.hid (HW.out.grown hG)
    have wq : W.heap[q]? = some (.cells #[ptrV P] 90 (0, 0)) := (hKp q (by omega) (by omega)).trans (heap_grown g2 T1.out.W)
    have WQ := Lib.hid wq
    clear hM hD hG hX hq hKp wq hs hnx s0 s1 s2 s3 s4 s5 s6 z0 y0
    simp only [encK, ekv] at HX ⊢
    simp only [List.zip_toArray, List.zip_cons_cons, List.zip_nil_right, List.foldl_toArray', List.size_toArray, List.foldl_cons, List.foldl_nil, List.setIfInBounds_toArray, List.set_cons_succ, List.set_cons_zero]
    generalize l[x'.1]'x'.2 = nk at HX HN HR HKK HST ⊢
    have z0 := one_cell WQ.out
    obtain ⟨s0, s1, s2, s3, s4, s5, s6⟩ := seven_cells HX.out
    have y0 := one_cell HQ5.out
    have HCL := Lib.hid (HN.out (clo vf vc) xa _ xc W HWW.out ⟨_, _, rfl⟩ HR.out HKK.out)
    gi_wp2_with (refine ⟨trivial, ?_⟩; gi_at_call 42; refine (CallsIn.inRound l' (callsIn_wide.2 HCL.out)).mono ?_; rintro e w3 ⟨g3, v3, xs3, rfl, hf3, hM3⟩; have HF3 := Lib.hid hf3; obtain ⟨f3, c3, rfl⟩ := hf3; have y3 := one_cell (heap_grown g3 HQ5.out); have f5 := four_free (heap_grown g3 HQ5.out) 0; have G3 := Lib.hid g3; have HM3 := Lib.hid hM3; clear g3 hM3 z0 s0 s1 s2 s3 s4 s5 s6 y0)
    exact ⟨((KeepsOthers.of_grownBy G3.out (fun j o e => by cases e)).trans (KeepsOthers.setCell _ _ _)).from _,
      fun kk hk hkq => (heap_setCell_other w3 ⟨q + 1 + 1, 0, none⟩ kk _ hkq).trans (G3.out.block kk (by have := HS.out; omega) (by simp)), HST.out w3 _ xs3 G3.out HM3.out HF3.out⟩
  case done =>
    rintro D ys W hD rfl hI hKd
    have hI2 := hI.kept (grownBy_putObj' W D (.deferred none)) G2.size (fun r e => by cases e; exact ⟨hD, _, hKd, rfl⟩)
    have HI2 := Lib.hid hI2
    obtain ⟨-, v, D', xs, hv, hq, -, -⟩ := hI
    have y3 := one_cell hq
    obtain ⟨vf, vc, rfl⟩ := hv
    have HQ := Lib.hid hq
    clear hI2 hq
    gi_wp2
    refine ⟨by simp, .inl ⟨_, _, rfl, run_takeDeferred hKd, ?_⟩⟩
    refine ⟨_, results_tmp rfl _ _ _, ?_⟩
    obtain ⟨⟨hG, -, -⟩, v2, D2, xs2, hv2, hq2, hD2, hM2⟩ := HI2.out
    have e2 : v2 = clo vf vc := by
      rw [World.putObj_heap_other (by omega), HQ.out] at hq2
      simpa using hq2.symm
    subst e2
    refine ⟨hG, _, xs2, rfl, ⟨_, _, rfl⟩, ?_⟩
    have hnd := ndK_all l
    rw [hnd] at hM2
    exact hM2.same (by simp [cnN]) (fun b m => by simp [thrN]) (fun kk hk => ⟨by have := hD2 kk hk; have := G2.size; omega, hM2.hD kk hk⟩) (fun _ h => h.2) (fun _ _ _ => rfl) (fun W fz X b m _ h => by simpa [thrN] using h)
/-- through: all right nodes -/
theorem cThrough (P : Nat) (s : ByteArray) : ∀ (N : Nat) (n : Ni), szN n ≤ N → N ≤ 200 → NodeT P s n := by
  intro N
  induction N with
  | zero => intro n h _; rw [sz_eq] at h; omega
  | succ N ih =>
    intro n hN hN2
    obtain ⟨k, x, c, l⟩ := n
    have hz := sz_eq (.mk k x c l)
    have hl200 : l.length ≤ 200 := by have := len_le_sz l; simp only [Ni.kids] at hz; omega
    have hT : ∀ u ∈ l, NodeT P s u := fun u hu => ih u (by have := szL_mem hu; simp only [Ni.kids] at hz; omega) (by omega)
    intro bv a m kk w hW hb hr hK
    have hr' := hr
    rw [rgtN] at hr'
    simp only [Bool.and_eq_true] at hr'
    obtain ⟨⟨⟨hk, -⟩, -⟩, hl⟩ := hr'
    have hkk := kids_kind hk
    have hc : k = 0 ∨ k = 1 ∨ k = 2 ∨ k = 3 ∨ k = 4 ∨ k = 5 ∨ k = 6 ∨ k = 7 ∨ k = 8 ∨ k = 9 := by omega
    rcases hc with rfl | rfl | rfl | rfl | rfl | rfl | rfl | rfl | rfl | rfl
    · exact cThr0 P s x c l bv a m kk w hW hb hr hK
    · exact cThr1 P s x c l bv a m kk w hW hb hr hK
    · exact cThr2 P s x c l hl200 hT bv a m kk w hW hb hr hK
    · exact cThr3 P s x c l hl200 hT bv a m kk w hW hb hr hK
    all_goals try
      have h1 := kids_single hk (by first | exact .inl rfl | exact .inr (.inl rfl) | exact .inr (.inr (.inl rfl)) | exact .inr (.inr (.inr rfl)))
      obtain ⟨u, rfl⟩ := List.length_eq_one_iff.1 h1
      have hu := hT u (by simp)
    · exact cThr4 P s x c u hu bv a m kk w hW hb hr hK
    · exact cThr5 P s x c u hu bv a m kk w hW hb hr hK
    · exact cThr6 P s x c u hu bv a m kk w hW hb hr hK
    · exact cThr7 P s x c u hu bv a m kk w hW hb hr hK
    · exact cThr8 P s x c l bv a m kk w hW hb hr hK
    · exact cThr9 P s x c l bv a m kk w hW hb hr hK
end Go.Proofs.YtlkjejmmoalliaaGreatDoor

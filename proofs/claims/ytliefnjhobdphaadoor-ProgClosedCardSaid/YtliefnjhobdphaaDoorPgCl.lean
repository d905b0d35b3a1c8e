/- The writer's Jumps; an instruction is given where it leads. -/
import Derived.Test.YtliefnjhobdphaaDoorPgSp
namespace Go.Proofs.YtliefnjhobdphaaDoor
open Go.RowKit

/-- a number of an instruction is stored -/
theorem Wr.patch {p k j : Nat} {v u u0 : Value} {l : List Ins} {c c' : Ins} {w : World} (h : Wr p v l w) (hk : l[k]? = some c) (hj : j < 7) (h0 : (cellsC c)[j]? = some u0) (hs : (cellsC c).set j u = cellsC c') :
    ∃ g cap, v = .slice (some ⟨g, 0, none⟩) l.length cap ∧ w.cell? ⟨g, k * 7 + j, none⟩ = some u0 ∧ w.frozen? ⟨g, k * 7 + j, none⟩ = false ∧
      Wr p v (l.set k c') (w.setCell ⟨g, k * 7 + j, none⟩ u) ∧ Kp p v w v (w.setCell ⟨g, k * 7 + j, none⟩ u) := by
  obtain ⟨hP, hO⟩ := h
  rcases hO.2 with ⟨rfl, h0⟩ | ⟨g, cap, cur, rfl, hbg, hg, h4⟩
  · have : l = [] := List.eq_nil_of_length_eq_zero h0
    subst this; simp at hk
  · have hc := hO.cells (g := g) rfl _ _ (flatC_get l k c hk j u0 h0)
    rw [Addr.add_lit, Nat.zero_add] at hc
    obtain ⟨s1, g1⟩ := hO.stored (k * 7 + j) u
    refine ⟨g, cap, rfl, hc, four_free hg _, ⟨(heap_setCell_other w ⟨g, k * 7 + j, none⟩ p _ (fun e => by have e' : p = g := e; omega)).trans hP, ?_⟩, ⟨g1.os, g1.tape, g1.output, g1.size, fun b hb _ hv => g1.block b hb hv, .inl rfl⟩⟩
    rw [List.length_set, ← flatC_set l k c c' j u hk hj hs]
    exact s1

set_option maxRecDepth 100000 in
set_option maxHeartbeats 4000000 in
theorem cJump (p : Nat) (v : Value) (l : List Ins) (w : World) (h : Wr p v l w) (hl : l.length ≤ 10000) :
    Calls Tryd.prog 67 #[.pointer (some ⟨p, 0, none⟩)] w fun e w' =>
      ∃ b1 b2 v', e = .returned (.func (.func 72) #[] #[.pointer (some ⟨b1, 0, none⟩), .pointer (some ⟨b2, 0, none⟩)]) ∧ Wr p v' (l ++ [⟨2, 0, 0, emp⟩]) w' ∧ Kp p v w v' w' ∧ Clo p v' l.length b1 b2 w' := by
  have ga := World.grownBy_alloc w (.cells #[.pointer (some ⟨p, 0, none⟩)] 92) none
  have B1 := Lib.hid (heap_alloc_new w (.cells #[.pointer (some ⟨p, 0, none⟩)] 92))
  have W1 := Lib.hid (h.kept ga)
  have K1 := Lib.hid (Kp.ofGrown (p := p) (v := v) ga)
  have S1 := Lib.hid (h.safe (w' := w.alloc (.cells #[.pointer (some ⟨p, 0, none⟩)] 92)) (Nat.le_refl _) (by rw [World.size_alloc]; omega))
  clear ga h
  go_enter Tryd.func67, Tryd.ntmps67
  go_upto_region 1 with fail
  generalize w.alloc _ = w1 at B1 K1 W1 S1 ⊢
  generalize w.heap.size = q at B1 S1 ⊢
  have c0 := one_cell B1.out
  have HP := Lib.hid (cPut0 p v l 2 0 0 w1 W1.out (by omega))
  go_upto_region 2 with (go_at_call 32; (with_reducible refine (HP.out).mono ?_); rintro e w5 ⟨rfl, v', W5, K5⟩)
  obtain ⟨K6, C6⟩ := Clo.late (k := l.length) K1.out B1.out S1.out K5 W5
  have K6 := Lib.hid K6; have C6 := Lib.hid C6
  have W6 := Lib.hid (W5.kept (World.grownBy_alloc w5 (.cells #[.int .i64 l.length] 3) none))
  clear K5 W5 B1 HP c0
  generalize w5.alloc _ = w6 at K6 C6 W6 ⊢
  go_wp2
  go_ret
  exact ⟨q, _, v', rfl, W6.out, K6.out, C6.out⟩

set_option maxRecDepth 100000 in
set_option maxHeartbeats 4000000 in
theorem cElse (p b1 b2 k : Nat) (v : Value) (l : List Ins) (c : Ins) (w : World) (h : Wr p v l w) (hk : l[k]? = some c) (C : Clo p v k b1 b2 w) :
    Calls Tryd.prog 71 #[.pointer (some ⟨b1, 0, none⟩), .pointer (some ⟨b2, 0, none⟩)] w fun e w' =>
      e = .returned (.tuple #[]) ∧ Wr p v (l.set k ⟨c.o, c.x, l.length, c.s⟩) w' ∧ Kp p v w v w' := by
  have hlt : k < l.length := (List.getElem?_eq_some_iff.1 hk).1
  obtain ⟨g, cap, rfl, c3, f3, W3, K3⟩ := h.patch hk (j := 2) (u := .int .i64 l.length) (c' := ⟨c.o, c.x, l.length, c.s⟩) (by omega) rfl rfl
  have W3 := Lib.hid W3; have K3 := Lib.hid K3
  have p0 := one_cell h.P
  have c1 := one_cell C.A
  have c2 := one_cell C.B
  have hki : ((k : Int) < l.length) := by omega
  clear h C hk
  go_enter Tryd.func71, Tryd.ntmps71
  go_wp2_with fail
  go_region
  all_goals
    go_end0
    exact ⟨rfl, W3.out.kept (grown_drew (World.grownBy.refl _ _)), K3.out.trans (Kp.ofGrown (grown_drew (World.grownBy.refl _ _)))⟩

set_option maxRecDepth 100000 in
set_option maxHeartbeats 4000000 in
theorem cHere (p b1 b2 k : Nat) (v : Value) (l : List Ins) (c : Ins) (w : World) (h : Wr p v l w) (hk : l[k]? = some c) (C : Clo p v k b1 b2 w) :
    Calls Tryd.prog 72 #[.pointer (some ⟨b1, 0, none⟩), .pointer (some ⟨b2, 0, none⟩)] w fun e w' =>
      e = .returned (.tuple #[]) ∧ Wr p v (l.set k ⟨c.o, l.length, c.y, c.s⟩) w' ∧ Kp p v w v w' := by
  have hlt : k < l.length := (List.getElem?_eq_some_iff.1 hk).1
  obtain ⟨g, cap, rfl, c3, f3, W3, K3⟩ := h.patch hk (j := 1) (u := .int .i64 l.length) (c' := ⟨c.o, l.length, c.y, c.s⟩) (by omega) rfl rfl
  have W3 := Lib.hid W3; have K3 := Lib.hid K3
  have p0 := one_cell h.P
  have c1 := one_cell C.A
  have c2 := one_cell C.B
  have hki : ((k : Int) < l.length) := by omega
  clear h C hk
  go_enter Tryd.func72, Tryd.ntmps72
  go_wp2_with fail
  go_region
  all_goals
    go_end0
    exact ⟨rfl, W3.out.kept (grown_drew (World.grownBy.refl _ _)), K3.out.trans (Kp.ofGrown (grown_drew (World.grownBy.refl _ _)))⟩
end Go.Proofs.YtliefnjhobdphaaDoor

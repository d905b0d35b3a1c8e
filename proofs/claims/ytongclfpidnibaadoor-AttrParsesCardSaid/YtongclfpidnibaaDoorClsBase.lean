/- Worlds that a call leaves behind; a region that draws and calls what only makes memory: what layer 6's walks share. -/
import Derived.Test.YtongclfpidnibaaDoorGrown
import Derived.Test.YtongclfpidnibaaDoorClsPlain
import Derived.WalkKit
import Derived.WalkSpells
import Derived.OwnWalk
import Derived.Lib.Hide
import Derived.KernelRfl
import Derived.StillTactics
import Derived.Laws.Pointers
import Derived.Deep.RegionHeld3
import Derived.Deep.QuietTactic
import Derived.Deep.LoopGhost
import Derived.BigQuiet
import Derived.Deep.DeepCutAuto
import Derived.Deep.CutBlock
import Derived.Shelf.Abstract
namespace Go.Proofs.YtongclfpidnibaaDoor
open Go.RowKit

theorem ret_bool {a b : Bool} (h : a = b) : Ending.returned (.bool a) = .returned (.bool b) := by rw [h]
theorem ret_int {k : IntKind} {a b : Int} (h : a = b) : Ending.returned (.int k a) = .returned (.int k b) := by rw [h]

theorem grown_set {w w1 : World} (h : w.grownBy w1 none) {b : Nat} (o : Nat) (v : Value) (hb : w.heap.size ≤ b) : w.grownBy (w1.setCell ⟨b, o, none⟩ v) none :=
  grown_of_below ((below_of_grown h).setCell hb v)
theorem heap_grown {w w' : World} (h : w.grownBy w' none) {b : Nat} {o : Obj} (hb : w.heap[b]? = some o) : w'.heap[b]? = some o := by
  rw [h.block b (by rcases Nat.lt_or_ge b w.heap.size with h | h; exact h; simp [Array.getElem?_eq_none h] at hb) (by simp)]; exact hb

/-- a world that has grown -/
structure Gr (w : World) where
  W : World
  g : w.grownBy W none
/-- a region that draws, reads, and calls what only makes memory: one walk -/
theorem wp_region_grows {P : Program} {id : Nat} {Q : Exit → Act → World → Prop} {a : Act} {w : World} {l : List Oper} (hm : P.follows .mixedOrders = true) (hB : Region.lexB .any l.toArray = true)
    (h : wpQuiet P l.toArray (fun w' => ∃ u : Gr w, w' = u.W) (fun a' => ∀ w', (∃ u : Gr w, w' = u.W) → Q .normal a' w') l a) : (Code.region id l.toArray true).wp P Q a w :=
  wp_region_quiet (C := fun w' => ∃ u : Gr w, w' = u.W) hm hB ⟨⟨_, grown_drew (World.grownBy.refl w none)⟩, rfl⟩ (by simpa using h)

/-- a set as a value; in memory -/
abbrev setV (s : BitVec 256) : Value := .agg #[.int .u64 (wd s 0), .int .u64 (wd s 1), .int .u64 (wd s 2), .int .u64 (wd s 3)]
structure SetAt (w : World) (b : Nat) (s : BitVec 256) : Prop where
  c0 : w.cell? ⟨b, 0, none⟩ = some (.int .u64 (wd s 0))
  c1 : w.cell? ⟨b, 1, none⟩ = some (.int .u64 (wd s 1))
  c2 : w.cell? ⟨b, 2, none⟩ = some (.int .u64 (wd s 2))
  c3 : w.cell? ⟨b, 3, none⟩ = some (.int .u64 (wd s 3))
theorem SetAt.at {w : World} {b : Nat} {s : BitVec 256} (h : SetAt w b s) (i : Nat) (hi : i < 4) : w.cell? ⟨b, i, none⟩ = some (.int .u64 (wd s i)) := by
  obtain rfl | rfl | rfl | rfl : i = 0 ∨ i = 1 ∨ i = 2 ∨ i = 3 := by omega
  · exact h.c0
  · exact h.c1
  · exact h.c2
  · exact h.c3
theorem SetAt.lt {w : World} {b : Nat} {s : BitVec 256} (h : SetAt w b s) : b < w.heap.size := cell_block h.c0
theorem SetAt.grown {w w' : World} {b : Nat} {s : BitVec 256} (h : SetAt w b s) (g : w.grownBy w' none) : SetAt w' b s :=
  ⟨g.cell h.c0 (by simp), g.cell h.c1 (by simp), g.cell h.c2 (by simp), g.cell h.c3 (by simp)⟩
theorem SetAt.kept {w w' : World} {b : Nat} {s : BitVec 256} {row : Option Nat} (h : SetAt w b s) (g : w.grownBy w' row) (hr : some b ≠ row) : SetAt w' b s :=
  ⟨g.cell h.c0 hr, g.cell h.c1 hr, g.cell h.c2 hr, g.cell h.c3 hr⟩
theorem set_new (w : World) (s : BitVec 256) (t : TypeId) : SetAt (w.alloc (.cells #[.int .u64 (wd s 0), .int .u64 (wd s 1), .int .u64 (wd s 2), .int .u64 (wd s 3)] t)) w.heap.size s := by
  have h := heap_alloc_new w (.cells #[.int .u64 (wd s 0), .int .u64 (wd s 1), .int .u64 (wd s 2), .int .u64 (wd s 3)] t)
  constructor <;> (unfold World.cell?; rw [h]; rfl)
/-- four cells in a block -/
theorem four_cells {w : World} {b : Nat} {v0 v1 v2 v3 : Value} {t : TypeId} (h : w.heap[b]? = some (.cells #[v0, v1, v2, v3] t (0, 0))) :
    w.cell? ⟨b, 0, none⟩ = some v0 ∧ w.cell? ⟨b, 1, none⟩ = some v1 ∧ w.cell? ⟨b, 2, none⟩ = some v2 ∧ w.cell? ⟨b, 3, none⟩ = some v3 := by
  refine ⟨?_, ?_, ?_, ?_⟩ <;> (unfold World.cell?; rw [h]; rfl)
theorem four_free {w : World} {b : Nat} {c : Array Value} {t : TypeId} (h : w.heap[b]? = some (.cells c t (0, 0))) (i : Nat) : w.frozen? ⟨b, i, none⟩ = false := frozen_of_row w b i c t h
theorem set_four {w : World} {b : Nat} {a0 a1 a2 a3 : Value} {t : TypeId} (h : w.heap[b]? = some (.cells #[a0, a1, a2, a3] t (0, 0))) (v0 v1 v2 v3 : Value) :
    ((((w.setCell ⟨b, 0, none⟩ v0).setCell ⟨b, 1, none⟩ v1).setCell ⟨b, 2, none⟩ v2).setCell ⟨b, 3, none⟩ v3).heap[b]? = some (.cells #[v0, v1, v2, v3] t (0, 0)) :=
  heap_setCell_same _ b 3 _ _ v3 (heap_setCell_same _ b 2 _ _ v2 (heap_setCell_same _ b 1 _ _ v1 (heap_setCell_same _ b 0 _ _ v0 h)))
theorem heap2 (w : World) (A B : Obj) : ((w.alloc A).alloc B).heap[w.heap.size]? = some A ∧ ((w.alloc A).alloc B).heap[w.heap.size + 1]? = some B ∧ w.grownBy ((w.alloc A).alloc B) none :=
  ⟨heap_alloc2_old w A B, heap_alloc2_new w A B, (World.grownBy_alloc w A none).trans (World.grownBy_alloc _ B none)⟩
theorem heap3 (w : World) (A B C : Obj) : (((w.alloc A).alloc B).alloc C).heap[w.heap.size]? = some A ∧ (((w.alloc A).alloc B).alloc C).heap[w.heap.size + 1]? = some B ∧ (((w.alloc A).alloc B).alloc C).heap[w.heap.size + 1 + 1]? = some C ∧ w.grownBy (((w.alloc A).alloc B).alloc C) none := by
  have e : ((w.alloc A).alloc B).heap.size = w.heap.size + 1 + 1 := by show ((w.heap.push A).push B).size = _; simp
  have g := World.grownBy_alloc ((w.alloc A).alloc B) C none
  refine ⟨heap_grown g (heap_alloc2_old w A B), heap_grown g (heap_alloc2_new w A B), ?_, ((World.grownBy_alloc w A none).trans (World.grownBy_alloc _ B none)).trans g⟩
  have := heap_alloc_new ((w.alloc A).alloc B) C
  rw [e] at this; exact this
theorem set_of_block {w : World} {b : Nat} {s : BitVec 256} {t : TypeId} (h : w.heap[b]? = some (.cells #[.int .u64 (wd s 0), .int .u64 (wd s 1), .int .u64 (wd s 2), .int .u64 (wd s 3)] t (0, 0))) : SetAt w b s := by
  obtain ⟨c0, c1, c2, c3⟩ := four_cells h
  exact ⟨c0, c1, c2, c3⟩
/-- a set that is handed back out of a block -/
theorem back_setT (T : TypeId) {e : TypeId} (hT : Tryd.prog.underlying T = some (.array 4 e)) (hi : (Tryd.prog.info? T).map (·.size) = some 4) {fn : Func} {p : Tmp} {w : World} {g : Nat} {s : BitVec 256} {tmps : Array Value} (hf : fn.results = #[.cell p T])
    (hp : tmps.getD p undef = .pointer (some ⟨g, 0, none⟩)) (hg : w.heap[g]? = some (.cells #[.int .u64 (wd s 0), .int .u64 (wd s 1), .int .u64 (wd s 2), .int .u64 (wd s 3)] T (0, 0))) :
    (results fn tmps).run Tryd.prog w = .ok (setV s) w :=
  results_cell_row hf tmps w g _ _ _ _ hp hg hT rfl hi
end Go.Proofs.YtongclfpidnibaaDoor

/- Rows of instructions that a call makes: one, none, two; a row behind a row. -/
import Derived.Test.YtlkjejmmoalliaaGreatDoorPgWr
import Derived.Laws.AppendOwnNone
namespace Go.Proofs.YtlkjejmmoalliaaGreatDoor
open Go.RowKit

theorem own_one (w : World) (c : Ins) (T : TypeId) (base : Nat) (hb : base ≤ w.heap.size) : (w.alloc (.cells #[.int .i64 c.o, .int .i64 c.x, .int .i64 c.y, .int .u64 (wd c.s 0), .int .u64 (wd c.s 1), .int .u64 (wd c.s 2), .int .u64 (wd c.s 3)] T)).ownsRow base T 7 (.slice (some ⟨w.heap.size, 0, none⟩) 1 1) 1 (flatC [c]) :=
  ⟨rfl, .inr ⟨w.heap.size, 1, _, rfl, hb, heap_alloc_new w _, Nat.le_refl _, by decide, rfl, rfl⟩⟩
theorem own_zero (w : World) (T : TypeId) (base : Nat) (hb : base ≤ w.heap.size) : (w.alloc (.cells #[] T)).ownsRow base T 7 (.slice (some ⟨w.heap.size, 0, none⟩) 0 0) 0 (flatC []) :=
  ⟨rfl, .inr ⟨w.heap.size, 0, _, rfl, hb, heap_alloc_new w _, Nat.le_refl _, by decide, rfl, rfl⟩⟩
theorem own_set (w : World) (s : BitVec 256) (T : TypeId) (base : Nat) (hb : base ≤ w.heap.size) : (w.alloc (.cells #[.int .i64 0, .int .i64 0, .int .i64 0, .int .u64 (wd s 0), .int .u64 (wd s 1), .int .u64 (wd s 2), .int .u64 (wd s 3)] T)).ownsRow base T 7 (.slice (some ⟨w.heap.size, 0, none⟩) 1 1) 1 (flatC [⟨0, 0, 0, s⟩]) :=
  own_one w ⟨0, 0, 0, s⟩ T base hb
theorem flat_plain (o x y : Int) : flatC [⟨o, x, y, emp⟩] = [.int .i64 o, .int .i64 x, .int .i64 y, .int .u64 0, .int .u64 0, .int .u64 0, .int .u64 0] := by
  rw [flatC_one]; unfold cellsC; simp [wd_emp]
theorem own_plain (w : World) (o x y : Int) (T : TypeId) (base : Nat) (hb : base ≤ w.heap.size) : (w.alloc (.cells #[.int .i64 o, .int .i64 x, .int .i64 y, .int .u64 0, .int .u64 0, .int .u64 0, .int .u64 0] T)).ownsRow base T 7 (.slice (some ⟨w.heap.size, 0, none⟩) 1 1) 1 (flatC [⟨o, x, y, emp⟩]) := by
  rw [flat_plain]
  exact ⟨rfl, .inr ⟨w.heap.size, 1, _, rfl, hb, heap_alloc_new w _, Nat.le_refl _, by decide, rfl, rfl⟩⟩
theorem own_two (w : World) (o x o' x' : Int) (T : TypeId) (base : Nat) (hb : base ≤ w.heap.size) : (w.alloc (.cells #[.int .i64 o, .int .i64 x, .int .i64 0, .int .u64 0, .int .u64 0, .int .u64 0, .int .u64 0, .int .i64 o', .int .i64 x', .int .i64 0, .int .u64 0, .int .u64 0, .int .u64 0, .int .u64 0] T)).ownsRow base T 7 (.slice (some ⟨w.heap.size, 0, none⟩) 2 2) 2 (flatC [⟨o, x, 0, emp⟩, ⟨o', x', 0, emp⟩]) := by
  rw [flatC_cons, ← flatC_one, flat_plain, flat_plain]
  exact ⟨rfl, .inr ⟨w.heap.size, 2, _, rfl, hb, heap_alloc_new w _, Nat.le_refl _, by decide, rfl, rfl⟩⟩
/-- a row that grew lies where nothing lay before the call -/
theorem grown_own {w0 w w' : World} {base : Nat} {T : TypeId} {s n : Nat} {v : Value} {xs : List Value} (h : w0.grownBy w none) (g : w.grownBy w' v.ownBlock) (o : w.ownsRow base T s v n xs) (hb : w0.heap.size ≤ base) : w0.grownBy w' none :=
  h.andThen g (fun j e => .inl (by have := (o.lt j e).1; omega))
end Go.Proofs.YtlkjejmmoalliaaGreatDoor

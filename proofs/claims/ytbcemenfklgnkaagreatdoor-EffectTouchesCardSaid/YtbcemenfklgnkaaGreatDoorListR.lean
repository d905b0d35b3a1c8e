/- A list of texts that a call makes: its cells, step by step. -/
import Derived.Test.YtbcemenfklgnkaaGreatDoorListC
namespace Go.Proofs.YtbcemenfklgnkaaGreatDoor
open Go.RowKit Go.Maps

theorem cells_snoc (l : List ByteArray) (x : ByteArray) : cellsOf (l ++ [x]) = cellsOf l ++ [.string x] := by unfold cellsOf; simp
theorem row_cells {w wr : World} {l' : List ByteArray} {a' : Option Addr} {c' : Nat} (h : Below w.heap.size w wr) (hr : Row w (.slice a' l'.length c') l') (hne : l' ≠ []) :
    ∃ b off, a' = some ⟨b, off, none⟩ ∧ ∀ j x, l'[j]? = some x → wr.cell? ⟨b, off + j, none⟩ = some (.string x) := by
  obtain ⟨a, c, e, -, hc⟩ := hr.later h
  obtain ⟨b, off, ea, -, hcc⟩ := hc hne
  cases e
  exact ⟨b, off, ea, hcc⟩
/-- the list m, and that nothing else has turned -/
def RSt (w wr : World) (out : Value) (m : List ByteArray) : Prop :=
  wr.ownsRow w.heap.size 9 1 out m.length (cellsOf m) ∧ Below w.heap.size w wr

theorem RSt.start (w : World) : RSt w (w.alloc (.cells #[] 9)) (.slice (some ⟨w.heap.size, 0, none⟩) 0 0) [] :=
  ⟨World.ownsRow_made w #[] 0 (Nat.le_refl _) (by decide) rfl, (Below.refl _ _).alloc (Nat.le_refl _) _⟩

theorem RSt.add {w wr w2 : World} {m : List ByteArray} {out v' : Value} {x : ByteArray} {o : Obj} (h : RSt w wr out m)
    (hr : w2.ownsRow w.heap.size 9 1 v' (m.length + 1) (cellsOf m ++ [.string x])) (hg2 : (wr.alloc o).grownBy w2 out.ownBlock) : RSt w w2 v' (m ++ [x]) := by
  obtain ⟨h2, h3⟩ := h
  have s2 := hg2.size
  have s3 := h3.size
  simp at s2
  refine ⟨by rw [List.length_append, List.length_singleton, cells_snoc]; exact hr, ?_⟩
  exact (h3.alloc (by omega) _).grown hg2 (by simp; omega) (fun k e => (h2.lt k e).1)

theorem RSt.row {w wr : World} {out : Value} {m : List ByteArray} (h : RSt w wr out m) (hm : m.length ≤ 80) : Row wr out m := row_of_owns h.1 (by omega)
end Go.Proofs.YtbcemenfklgnkaaGreatDoor

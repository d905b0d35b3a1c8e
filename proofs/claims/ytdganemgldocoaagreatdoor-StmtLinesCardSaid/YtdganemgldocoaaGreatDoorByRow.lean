/- Rows of bytes that a call makes: their append, as a text. The library's variable of the longest text that is searched at once. -/
import Derived.Test.YtdganemgldocoaaGreatDoorGrown
import Derived.Laws.Pointers
import Derived.Deep.AppendLies
import Derived.OneCell
import Derived.OwnWalk
import Derived.WalkSmall
import Derived.Laws.AppendOwn
import Derived.Laws.BytesArg
namespace Go.Proofs.YtdganemgldocoaaGreatDoor
open Go.RowKit

theorem infoU8 : (Tryz.prog.info? 5).map (fun i => (i.zero, i.size, i.bytes)) = some (some (.int .u8 0), 1, 1) := by kernel_rfl
theorem by_one (k : Int) : ∀ u ∈ ([.int .u8 k] : List Value), u.oneCell' = true := by intro u hu; simp at hu; subst hu; rfl
theorem by_new (w : World) (k : Int) (T : TypeId) (m : Nat) (hm : m = w.heap.size) : ∀ j x, ([.int .u8 k] : List Value)[j]? = some x → (w.alloc (.cells #[.int .u8 k] T)).cell? ((⟨m, 0, none⟩ : Addr).add j) = some x := by
  subst hm
  exact World.news_of_block (cs := #[.int .u8 k]) (t := T) (fr := (0, 0)) (heap_alloc_new w _)
abbrev byV (W : List UInt8) : List Value := W.map fun b => Value.int .u8 b.toNat
theorem by_zero (w : World) (T : TypeId) (base : Nat) (hb : base ≤ w.heap.size) : (w.alloc (.cells #[] T)).ownsRow base T 1 (.slice (some ⟨w.heap.size, 0, none⟩) 0 0) 0 (byV []) :=
  ⟨rfl, .inr ⟨w.heap.size, 0, _, rfl, hb, heap_alloc_new w _, Nat.le_refl _, by decide, rfl, rfl⟩⟩
/-- a row of bytes as a text -/
theorem conv_row {w : World} {base : Nat} {v : Value} {W : List UInt8} (h : w.ownsRow base 5 1 v W.length (byV W)) : ∃ t : ByteArray, (convert 88 9 v).run Tryz.prog w = .ok (.string t) w ∧ t.data.toList = W := by
  rcases h.2 with ⟨rfl, h0⟩ | ⟨g, cap, cur, rfl, -, hg, hc⟩
  · refine ⟨ByteArray.empty, run_convert_bytes_nil w 88 5 Tryz.underlying88 Tryz.underlying5 0 0 9 Tryz.underlying9, ?_⟩
    have := List.eq_nil_of_length_eq_zero h0
    rw [this]; rfl
  · refine ⟨_, run_convert_bytes_arg w 88 5 Tryz.underlying88 Tryz.underlying5 g 0 W.length cap (W.map fun b => (b.toNat : Int)) (by simp) (fun i hi => ?_) 9 Tryz.underlying9, ?_⟩
    · have := h.cells (g := g) rfl i (.int .u8 (W[i]'hi).toNat) (by simp [hi])
      rw [Addr.add_lit] at this
      rw [this]
      simp [List.getD, hi]
    · simp [strOfNums, List.map_map, Function.comp_def]
/-- the library's variable of how long a text is that its processor looks for holds some number -/
def MaxI (w : World) : Prop := ∃ m, w.cell? ⟨19, 0, none⟩ = some (.int .i64 m)
theorem MaxI.grown {w w' : World} (h : MaxI w) (hg : w.grownBy w' none) : MaxI w' := by
  obtain ⟨m, hm⟩ := h
  exact ⟨m, ((below_of_grown hg).cell (p := ⟨19, 0, none⟩) (cell_block hm)).trans hm⟩
end Go.Proofs.YtdganemgldocoaaGreatDoor

/- A struct of a number and a text: in a block, handed back. The document's own attributes: a letter's number, whether a flag is set, of a text, their letters. -/
import Derived.Test.YtdganemgldocoaaDoorClsBase
import Derived.Test.YtdganemgldocoaaDoorAtPlain
import Derived.IntWalk
import Derived.Lib.RepeatB
namespace Go.Proofs.YtdganemgldocoaaDoor
open Go.RowKit

/-- attributes as a value -/
abbrev atV (f : Int) (p : ByteArray) : Value := .agg #[.int .i64 f, .string p]
theorem two_at {w : World} {b : Nat} {a0 a1 : Value} {t : TypeId} (h : w.heap[b]? = some (.cells #[a0, a1] t (0, 0))) : w.cell? ⟨b, 0, none⟩ = some a0 ∧ w.cell? ⟨b, 1, none⟩ = some a1 := by
  refine ⟨?_, ?_⟩ <;> (unfold World.cell?; rw [h]; rfl)
theorem free_at {w : World} {b : Nat} {c : Array Value} {t : TypeId} (h : w.heap[b]? = some (.cells c t (0, 0))) (i : Nat) : w.frozen? ⟨b, i, none⟩ = false := frozen_of_row w b i c t h
theorem set_at2 {w : World} {b : Nat} {a0 a1 : Value} {t : TypeId} (h : w.heap[b]? = some (.cells #[a0, a1] t (0, 0))) (v0 v1 : Value) :
    ((w.setCell ⟨b, 0, none⟩ v0).setCell ⟨b, 1, none⟩ v1).heap[b]? = some (.cells #[v0, v1] t (0, 0)) := heap_setCell_same _ b 1 _ _ v1 (heap_setCell_same _ b 0 _ _ v0 h)
theorem set_at0 {w : World} {b : Nat} {a0 a1 : Value} {t : TypeId} (h : w.heap[b]? = some (.cells #[a0, a1] t (0, 0))) (v0 : Value) :
    (w.setCell ⟨b, 0, none⟩ v0).heap[b]? = some (.cells #[v0, a1] t (0, 0)) := heap_setCell_same _ b 0 _ _ v0 h
theorem set_at1 {w : World} {b : Nat} {a0 a1 : Value} {t : TypeId} (h : w.heap[b]? = some (.cells #[a0, a1] t (0, 0))) (v1 : Value) :
    (w.setCell ⟨b, 1, none⟩ v1).heap[b]? = some (.cells #[a0, v1] t (0, 0)) := heap_setCell_same _ b 1 _ _ v1 h
theorem grown_at2 {w w1 : World} (h : w.grownBy w1 none) {b : Nat} (v0 v1 : Value) (hb : w.heap.size ≤ b) : w.grownBy ((w1.setCell ⟨b, 0, none⟩ v0).setCell ⟨b, 1, none⟩ v1) none :=
  grown_of_below (((below_of_grown h).setCell hb v0).setCell hb v1)
theorem grown_at1 {w w1 : World} (h : w.grownBy w1 none) {b : Nat} (o : Nat) (v : Value) (hb : w.heap.size ≤ b) : w.grownBy (w1.setCell ⟨b, o, none⟩ v) none :=
  grown_of_below ((below_of_grown h).setCell hb v)
theorem kept_at {w w' : World} (hg : w.grownBy w' none) {b : Nat} {o : Obj} (h : w.heap[b]? = some o) : w'.heap[b]? = some o :=
  (hg.block b (Array.getElem?_eq_some_iff.1 h).1 (by simp)).trans h
theorem back_at2 (T : TypeId) {fs : Array Field} (hT : Tryd.prog.underlying T = some (.struct fs)) (hi : (Tryd.prog.info? T).map (·.size) = some 2) {fn : Func} {p q : Tmp} {w : World} {g : Nat} {a0 a1 v : Value} {tmps : Array Value} (hf : fn.results = #[.cell p T, .tmp q])
    (hp : tmps.getD p undef = .pointer (some ⟨g, 0, none⟩)) (hq : tmps.getD q undef = v) (hg : w.heap[g]? = some (.cells #[a0, a1] T (0, 0))) :
    (results fn tmps).run Tryd.prog w = .ok (.tuple #[.agg #[a0, a1], v]) w := by
  have hp' : tmps[p]?.getD undef = .pointer (some ⟨g, 0, none⟩) := by simpa using hp
  have hq' : tmps[q]?.getD undef = v := by simpa using hq
  have hl := run_loadVar_row (P := Tryd.prog) w g T T _ (0, 0) _ hg hT rfl hi
  simp [results, hf, hp', hq', asAddr, hl]
/-- a block that a store to another one leaves -/
theorem far_at {w : World} {b q : Nat} {o : Obj} (h : w.heap[b]? = some o) (hne : b ≠ q) (i : Nat) (v : Value) : (w.setCell ⟨q, i, none⟩ v).heap[b]? = some o := by
  rw [Below.heap_setCell _ _ _ _ (show b ≠ (⟨q, i, none⟩ : Addr).block from hne)]; exact h
def szV : Value → Nat
  | .string s => s.size
  | _ => 0
end Go.Proofs.YtdganemgldocoaaDoor

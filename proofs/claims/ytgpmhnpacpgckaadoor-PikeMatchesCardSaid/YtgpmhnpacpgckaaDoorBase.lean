/- Worlds that a call leaves behind, and the value of an error: what every layer's walks share. -/
import Derived.Test.YtgpmhnpacpgckaaDoorGrown
import Derived.WalkKit
import Derived.WalkSpells
import Derived.OwnWalk
import Derived.Maps.RangeWalk
import Derived.Lib.Hide
import Derived.KernelRfl
import Derived.StillTactics
import Derived.Laws.Pointers
import Derived.Deep.RegionHeld3
import Derived.Deep.QuietTactic
import Derived.Deep.LoopGhost
import Derived.BigQuiet
import Derived.Maps.OwnSet
namespace Go.Proofs.YtgpmhnpacpgckaaDoor
open Go.RowKit Go.Maps

theorem cell_al2 {w : World} {a : Addr} {v : Value} (h : w.cell? a = some v) (o o' : Obj) : ((w.alloc o).alloc o').cell? a = some v := cell_al (cell_al h o) o'
/-- the error of a number: nil of 0 -/
def errV (A : Nat → Addr) (k : Nat) : Value := if k = 0 then .nilIface else .iface 129 (.pointer (some (A k)))
/-- each variable of a list (an error's number, the variable's) holds its error -/
def Sents (L : List (Nat × Nat)) (A : Nat → Addr) (w : World) : Prop := ∀ q ∈ L, w.cell? ⟨q.2, 0, none⟩ = some (.iface 129 (.pointer (some (A q.1))))
theorem Sents.kept {L : List (Nat × Nat)} {A : Nat → Addr} {w w' : World} {row : Option Nat} (h : Sents L A w) (hg : w.grownBy w' row) (hr : ∀ q ∈ L, some q.2 ≠ row) : Sents L A w' :=
  fun q hq => hg.cell (h q hq) (hr q hq)
theorem Sents.grown {L : List (Nat × Nat)} {A : Nat → Addr} {w w' : World} (h : Sents L A w) (hg : w.grownBy w' none) : Sents L A w' := h.kept hg (by simp)
theorem Sents.sub {L L' : List (Nat × Nat)} {A : Nat → Addr} {w : World} (h : Sents L A w) (hs : ∀ q ∈ L', q ∈ L) : Sents L' A w := fun q hq => h q (hs q hq)
theorem Sents.later {L : List (Nat × Nat)} {A : Nat → Addr} {w w' : World} (h : Sents L A w) (hb : Below w.heap.size w w') : Sents L A w' := fun q hq => (hb.cell (cell_block (h q hq))).trans (h q hq)
theorem errV_zero {A : Nat → Addr} : errV A 0 = .nilIface := rfl
theorem errV_ne {A : Nat → Addr} {k : Nat} (h : k ≠ 0) : errV A k = .iface 129 (.pointer (some (A k))) := by unfold errV; rw [if_neg h]

end Go.Proofs.YtgpmhnpacpgckaaDoor

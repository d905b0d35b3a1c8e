/- Worlds that a call leaves behind: what all layers' walks share. Worlds that a call leaves behind, and the value of an error: what every layer's walks share. -/
import Derived.Test.YtdganemgldocoaaGreatDoorRows
import Derived.WalkKit
import Derived.WalkSpells
import Derived.OwnWalk
import Derived.Lib.Hide
import Derived.KernelRfl
import Derived.StillTactics
import Derived.Laws.Pointers
import Derived.Deep.RegionHeld3
import Derived.Deep.QuietTactic
import Derived.BigQuiet
import Derived.Maps.RangeWalk
import Derived.Deep.LoopGhost
import Derived.Maps.OwnSet
namespace Go.Proofs.YtdganemgldocoaaGreatDoor
open Go.RowKit

theorem cell_block {w : World} {b off : Nat} {v : Value} (h : w.cell? ⟨b, off, none⟩ = some v) : b < w.heap.size := by
  rcases Nat.lt_or_ge b w.heap.size with hb | hb
  · exact hb
  · unfold World.cell? at h
    rw [Array.getElem?_eq_none hb] at h
    cases h
theorem grown_drew {w w' : World} {row : Option Nat} (h : w.grownBy w' row) : w.grownBy w'.drew row := ⟨h.os, h.tape, h.output, h.size, h.block⟩
theorem below_of_grown {w w' : World} (h : w.grownBy w' none) : Below w.heap.size w w' := (Below.refl _ _).grown h (Nat.le_refl _) (fun _ e => by cases e)
theorem grown_of_below {w w' : World} (h : Below w.heap.size w w') : w.grownBy w' none := ⟨h.os, h.tape, h.output, h.size, fun k hk _ => h.block k hk⟩
theorem cell_al {w : World} {a : Addr} {v : Value} (h : w.cell? a = some v) (o : Obj) : (w.alloc o).cell? a = some v := by
  rw [World.cell?_alloc_some _ _ _ (by rw [h]; rfl)]; exact h
theorem grown_none {w w1 w2 : World} {b : Nat} (h : w.grownBy w1 none) (g : w1.grownBy w2 (some b)) (hb : w.heap.size ≤ b) : w.grownBy w2 none :=
  h.andThen g (fun j hj => .inl (by cases hj; exact hb))
theorem grown_drewN {w w' : World} {row : Option Nat} (h : w.grownBy w' row) (n : Nat) : w.grownBy (w'.drewN n) row := by
  induction n with
  | zero => exact h
  | succ n ih => exact grown_drew ih
end Go.Proofs.YtdganemgldocoaaGreatDoor

namespace Go.Proofs.YtdganemgldocoaaGreatDoor
open Go.RowKit Go.Maps

theorem cell_al2 {w : World} {a : Addr} {v : Value} (h : w.cell? a = some v) (o o' : Obj) : ((w.alloc o).alloc o').cell? a = some v := cell_al (cell_al h o) o'
/-- the error of a number: nil of 0 -/
def errV (A : Nat → Addr) (k : Nat) : Value := if k = 0 then .nilIface else .iface 202 (.pointer (some (A k)))
/-- each variable of a list (an error's number, the variable's) holds its error -/
def Sents (L : List (Nat × Nat)) (A : Nat → Addr) (w : World) : Prop := ∀ q ∈ L, w.cell? ⟨q.2, 0, none⟩ = some (.iface 202 (.pointer (some (A q.1))))
theorem Sents.kept {L : List (Nat × Nat)} {A : Nat → Addr} {w w' : World} {row : Option Nat} (h : Sents L A w) (hg : w.grownBy w' row) (hr : ∀ q ∈ L, some q.2 ≠ row) : Sents L A w' :=
  fun q hq => hg.cell (h q hq) (hr q hq)
theorem Sents.grown {L : List (Nat × Nat)} {A : Nat → Addr} {w w' : World} (h : Sents L A w) (hg : w.grownBy w' none) : Sents L A w' := h.kept hg (by simp)
theorem Sents.sub {L L' : List (Nat × Nat)} {A : Nat → Addr} {w : World} (h : Sents L A w) (hs : ∀ q ∈ L', q ∈ L) : Sents L' A w := fun q hq => h q (hs q hq)
theorem Sents.later {L : List (Nat × Nat)} {A : Nat → Addr} {w w' : World} (h : Sents L A w) (hb : Below w.heap.size w w') : Sents L A w' := fun q hq => (hb.cell (cell_block (h q hq))).trans (h q hq)
theorem errV_zero {A : Nat → Addr} : errV A 0 = .nilIface := rfl
theorem errV_ne {A : Nat → Addr} {k : Nat} (h : k ≠ 0) : errV A k = .iface 202 (.pointer (some (A k))) := by unfold errV; rw [if_neg h]

end Go.Proofs.YtdganemgldocoaaGreatDoor

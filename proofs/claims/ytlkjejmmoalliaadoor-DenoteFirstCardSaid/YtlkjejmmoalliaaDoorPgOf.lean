/- The writer's code of any right node. Programs: Compile and Of. Of: a text's program; the chapter's example. -/
import Derived.Test.YtlkjejmmoalliaaDoorPgAlt
import Derived.Test.YtlkjejmmoalliaaDoorPgMem
import Derived.Test.YtlkjejmmoalliaaDoorRexV
namespace Go.Proofs.YtlkjejmmoalliaaDoor
open Go.RowKit

end Go.Proofs.YtlkjejmmoalliaaDoor

namespace Go.Proofs.YtlkjejmmoalliaaDoor
open Go.RowKit

/-- the number of a node's error, and its program -/
def cmpE (n : Ni) : Nat := if rgtN n then (if lenN n > 197 then 10 else 0) else 17
def cmpL (n : Ni) : List Ins := if cmpE n = 0 then prgN n else []
def ProgOut (A : Nat → Addr) (l : List Ins) (k : Nat) (e : Ending) (w' : World) : Prop := ∃ a c, e = .returned (.tuple #[.slice a l.length c, errV A k]) ∧ CRow w' (.slice a l.length c) l
theorem row_nil (w : World) : CRow w (.slice none 0 0) [] := ⟨none, 0, rfl, fun k x hx => by simp at hx⟩

end Go.Proofs.YtlkjejmmoalliaaDoor

namespace Go.Proofs.YtlkjejmmoalliaaDoor
open Go.RowKit

/-- a text's program, empty if it has none -/
def prgT (s : ByteArray) : List Ins := if (parN s).2 = 0 then prgN (toI (parN s).1) else []
theorem cmp_of {s : ByteArray} (h : (parN s).2 = 0) : cmpE (toI (parN s).1) = 0 ∧ cmpL (toI (parN s).1) = prgT s := by
  obtain ⟨h1, h2⟩ := par_right h
  have h3 : cmpE (toI (parN s).1) = 0 := by unfold cmpE; rw [h1, if_pos rfl, if_neg (by omega)]
  exact ⟨h3, by unfold cmpL prgT; rw [h3, h]⟩

end Go.Proofs.YtlkjejmmoalliaaDoor

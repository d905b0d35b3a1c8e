/- errors.Is on the listed errors; package millwrightnum's number of an error. The number of an error. -/
import Derived.Test.YtgpmhnpacpgckaaDoorLaidErr
import Derived.LaidEql
import Derived.Stop.Asserts
import Derived.RowKitTokens
namespace Go.Proofs.YtgpmhnpacpgckaaDoor
open Go.RowKit Go.Extern.Stop Go.Stop Go.Extern

def isCompFn : Array Value → Sem Value := Extern.ReflectliteType.method fun t => do Extern.Rtype.noPackHeld "Comparable" t; pure (.bool (← typeInfo t).comparable)
theorem isComparable (w : World) : (isCompFn #[.agg #[.pointer (some ⟨6, 129, none⟩)]]).run Tryd.prog w = .ok (.bool true) w := by kernel_rfl
theorem isComp : (Tryd.prog.info? 129).map (·.comparable) = some true := by kernel_rfl
theorem isSize : (Tryd.prog.info? 146).map (·.size) = some 1 := by kernel_rfl
end Go.Proofs.YtgpmhnpacpgckaaDoor

namespace Go.Proofs.YtgpmhnpacpgckaaDoor
open Go.RowKit

theorem SentAt.later {A : Nat → Addr} {w w' : World} {q : Sn} (h : SentAt A w q) (hb : Below w.heap.size w w') : SentAt A w' q := by
  obtain ⟨h1, c, t, h2⟩ := h
  have hlt : (A q.num).block < w.heap.size := (Array.getElem?_eq_some_iff.1 h2).1
  exact ⟨(hb.cell (cell_block h1)).trans h1, c, t, (hb.block _ hlt).trans h2⟩
end Go.Proofs.YtgpmhnpacpgckaaDoor

/- A world in which listed variables hold what is listed: errors, and plain tables. -/
import Derived.Test.YtgpmhnpacpgckaaDoorLaidErr
import Derived.LaidSub
namespace Go.Proofs.YtgpmhnpacpgckaaDoor
open Go.RowKit Go.Maps Go.ChangeShapes Go.WideShapes Go.Deep

/-- a datum's cells, where it is plain -/
def cellsD : Nat → DataW Unit → List Value
  | n + 1, .agg ds => ds.flatMap (cellsD n)
  | _ + 1, .lit (.int k i) => [.int k i]
  | _ + 1, .lit (.string l) => [.string ⟨l.toArray⟩]
  | _ + 1, .lit (.bool b) => [.bool b]
  | _, _ => []
/-- what lies behind a listed error -/
def boxD : DataW Unit → List Value
  | .iface _ (.ptr d) => cellsD 4 d
  | _ => []
def isBox : DataW Unit → Bool
  | .iface _ (.ptr _) => true
  | _ => false
/-- a world in which all listed variables hold what is listed: tables, and errors -/
noncomputable def laidWorldX (L : List (String × DataW Unit)) (os : Os) : World :=
  let w0 := World.holding Tryd.prog os ⟨((L.filter fun x => isBox x.2).map fun x => Obj.cells (boxD x.2).toArray 146).toArray, #[], []⟩
  { w0 with heap := (L.foldl (fun (h : Array Obj × Nat) (x : String × DataW Unit) => match Tryd.prog.globalNamed x.1 with
      | some g => if isBox x.2 then (h.1.modify g fun
          | .cells _ t frozen => .cells #[.iface 129 (.pointer (some ⟨low + h.2, 0, none⟩))] t frozen
          | o => o, h.2 + 1) else (h.1.modify g fun
          | .cells _ t frozen => .cells (cellsD 4 x.2).toArray t frozen
          | o => o, h.2)
      | none => h) (w0.heap, 0)).1 }
end Go.Proofs.YtgpmhnpacpgckaaDoor

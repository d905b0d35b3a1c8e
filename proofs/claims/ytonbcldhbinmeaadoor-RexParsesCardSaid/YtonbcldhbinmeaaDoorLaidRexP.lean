/- What RexParses lists: all errors, and the table of the signs behind an atom. -/
import Derived.Test.YtonbcldhbinmeaaDoorLaidRex
import Derived.Test.YtonbcldhbinmeaaDoorErrNum
namespace Go.Proofs.YtonbcldhbinmeaaDoor
open Go.RowKit Go.Maps Go.ChangeShapes Go.WideShapes Go.Deep

def listP : List (String × DataW Unit) := Rows.rexParsesRow.laid
theorem listP_plain (W : World) : laidMetH Tryd.prog listP W = laidMet Tryd.prog listP W := MakeChecks.laidMetH_plain _ _ _ (by kernel_rfl)
theorem listP_err : listP.filter (fun x => allSn.any fun q => q.name == x.1) = allSn.map Sn.laid := by kernel_rfl
theorem listP_rep : listP.filter isRepV = [("millwright/rex.repeats", repD)] := by kernel_rfl
set_option maxRecDepth 100000 in
theorem listP_met (os : Os) (args : Array Value) : laidMet Tryd.prog listP ((laidWorldX listP os).forCall (fun _ _ => 0) ⟨#[], args, []⟩).memory :=
  laidMet_of_run3 8 (by kernel_rfl) (by kernel_rfl) (by kernel_rfl)
end Go.Proofs.YtonbcldhbinmeaaDoor

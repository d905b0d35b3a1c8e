/- A world in which the listed variables of layer 3's laws hold what is listed. -/
import Derived.Test.YtgicfbhhnohndaaGreatDoorLaidAr
namespace Go.Proofs.YtgicfbhhnohndaaGreatDoor
open Go.ChangeShapes Go.WideShapes Go.RowKit Go.Maps Go.Deep

/-- what the laws of layer 3 list -/
def listA : List (String × DataW Unit) := Rows.arParsesRow.laid
theorem listA_plain (W : World) : laidMetH Tryz.prog listA W = laidMet Tryz.prog listA W := MakeChecks.laidMetH_plain _ _ _ (by kernel_rfl)
theorem listA_ex : listA.filter isEx = exSn.map Sn.laid := by kernel_rfl
theorem listA_pow : listA.filter isPow = [("internal/strconv.uint64pow10", Lib.tabData .u64 Lib.pow10Tab)] := by kernel_rfl
set_option maxRecDepth 100000 in
theorem listA_met (os : Os) (args : Array Value) : laidMet Tryz.prog listA ((laidWorldX listA os).forCall (fun _ _ => 0) ⟨#[], args, []⟩).memory :=
  laidMet_of_run3 8 (by kernel_rfl) (by kernel_rfl) (by kernel_rfl)
end Go.Proofs.YtgicfbhhnohndaaGreatDoor

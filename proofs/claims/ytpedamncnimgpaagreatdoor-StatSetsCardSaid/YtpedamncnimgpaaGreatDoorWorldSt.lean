/- Worlds in which the listed variables of layer 4's laws hold what is listed. -/
import Derived.Test.YtpedamncnimgpaaGreatDoorLaidAr
namespace Go.Proofs.YtpedamncnimgpaaGreatDoor
open Go.ChangeShapes Go.WideShapes Go.RowKit Go.Maps Go.Deep

/-- what the law of Set lists -/
def listT : List (String × DataW Unit) := Rows.statSetsRow.laid
theorem listT_plain (W : World) : laidMetH Tryz.prog listT W = laidMet Tryz.prog listT W := MakeChecks.laidMetH_plain _ _ _ (by kernel_rfl)
theorem listT_ex : listT.filter isEx = exSn.map Sn.laid := by kernel_rfl
theorem listT_pow : listT.filter isPow = [("internal/strconv.uint64pow10", Lib.tabData .u64 Lib.pow10Tab)] := by kernel_rfl
set_option maxRecDepth 100000 in
theorem listT_met (os : Os) (args : Array Value) : laidMet Tryz.prog listT ((laidWorldX listT os).forCall (fun _ _ => 0) ⟨#[], args, []⟩).memory :=
  laidMet_of_run3 8 (by kernel_rfl) (by kernel_rfl) (by kernel_rfl)
/-- what the law of names apart lists: six errors, and the library's two -/
def listU : List (String × DataW Unit) := Rows.statApartRow.laid
def eightSn : List Sn := exSn.filter fun q => q.num == 1 || q.num == 2 || q.num == 3 || q.num == 4 || q.num == 9 || q.num == 10 || q.num == 19 || q.num == 20
theorem eightSn_ok : ∀ q ∈ eightSn, q.ok := fun q hq => exSn_ok q (List.mem_filter.1 hq).1
theorem listU_plain (W : World) : laidMetH Tryz.prog listU W = laidMet Tryz.prog listU W := MakeChecks.laidMetH_plain _ _ _ (by kernel_rfl)
theorem listU_ex : listU.filter (fun x => eightSn.any fun q => q.name == x.1) = eightSn.map Sn.laid := by kernel_rfl
theorem listU_pow : listU.filter isPow = [("internal/strconv.uint64pow10", Lib.tabData .u64 Lib.pow10Tab)] := by kernel_rfl
set_option maxRecDepth 100000 in
theorem listU_met (os : Os) (args : Array Value) : laidMet Tryz.prog listU ((laidWorldX listU os).forCall (fun _ _ => 0) ⟨#[], args, []⟩).memory :=
  laidMet_of_run3 8 (by kernel_rfl) (by kernel_rfl) (by kernel_rfl)
theorem envU {W : World} (h : laidMet Tryz.prog listU W) : ∃ A, Env A W := by
  obtain ⟨A, hE, -⟩ := envs_of_laid eightSn (by decide) eightSn_ok (by decide) (by simp [eightSn, exSn, synSn]) listU_ex listU_pow h
  exact ⟨A, hE⟩
end Go.Proofs.YtpedamncnimgpaaGreatDoor

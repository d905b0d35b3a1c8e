/- What layer 12's laws list: the errors, errors' own variable of a type, the table of powers of ten. -/
import Derived.Test.YtdganemgldocoaaGreatDoorLaidErr
import Derived.Test.YtdganemgldocoaaGreatDoorLnWhere
import Derived.ProofKit
import Derived.OpenShut
import Derived.ShutString
import Derived.ChangeOld
import Derived.LaidHandle
import Derived.Lib.LaidTab
namespace Go.Proofs.YtdganemgldocoaaGreatDoor
open Go.RowKit Go.Maps Go.ChangeShapes Go.WideShapes Go.Deep

def hndD : DataW Unit := .iface "internal/reflectlite.rtype" (.agg [.ptr (.lit (.string [101, 114, 114, 111, 114]))])
theorem et_glob : Tryz.prog.globalNamed "errors.errorType" = some 2 := by kernel_rfl
theorem rt_type : (Tryz.prog.cutTypes.find? (·.1 == "internal/reflectlite.rtype")).map (·.2) = some 146 := by kernel_rfl
theorem one_error : ((List.range 233).filter fun t => Tryz.prog.rowNamed t [101, 114, 114, 111, 114]) = [25] := by kernel_rfl
theorem types_size : Tryz.prog.types.size = 233 := by kernel_rfl
theorem errTy_of_laid {W : World} {L : List (String × DataW Unit)} (hf : L.filter (fun x => x.1 == "errors.errorType") = [("errors.errorType", hndD)]) (h : laidMetH Tryz.prog L W) : ErrTy W := by
  have hm : ("errors.errorType", hndD) ∈ L := (List.mem_filter.1 (by rw [hf]; exact List.mem_singleton.2 rfl)).1
  obtain ⟨name, u, ty, e1, e2, e3, e4, e5⟩ := (laidMetH_iff.1 h).2 _ (List.mem_filter.2 ⟨hm, rfl⟩)
  have en : name = [101, 114, 114, 111, 114] := (Option.some.inj e1).symm
  subst en
  obtain rfl := Option.some.inj (rt_type.symm.trans e2)
  have ht : ty ∈ (List.range 233).filter fun t => Tryz.prog.rowNamed t [101, 114, 114, 111, 114] := List.mem_filter.2 ⟨List.mem_range.2 (by rw [← types_size]; exact e3), e4⟩
  rw [one_error] at ht
  obtain rfl := List.mem_singleton.1 ht
  have hh : typeHandle Tryz.prog 25 = .pointer (some ⟨23, 25, none⟩) := by kernel_rfl
  rw [hh] at e5
  unfold ErrTy
  simpa using World.var?_cell et_glob e5 0
theorem sentsH_of_laid {W : World} {L : List (String × DataW Unit)} (E : List Sn) (hnum : (E.map Sn.num).Nodup) (hok : ∀ q ∈ E, q.ok)
    (h1 : (L.filter fun x => x.2.handleName?.isNone).filter (fun x => E.any fun q => q.name == x.1) = E.map Sn.laid) (h : laidMetH Tryz.prog L W) :
    ∃ A : Nat → Addr, (∀ q ∈ E, SentAt A W q) ∧ ∀ q ∈ E, ∀ r ∈ E, q.num ≠ r.num → A q.num ≠ A r.num := by
  have he := (laidMetH_iff.1 h).1.filter (fun x => E.any fun q => q.name == x.1)
  rw [h1] at he
  exact sents_of_laid hnum hok he
def isPow12 (x : String × DataW Unit) : Bool := x.1 == "internal/strconv.uint64pow10"
/-- a world in which all that is listed holds, errors' variable of a type among it -/
noncomputable def laidWorldH (L : List (String × DataW Unit)) (os : Os) : World :=
  let w0 := laidWorldX (L.filter fun x => x.2.handleName?.isNone) os
  { w0 with heap := w0.heap.modify 2 fun
      | .cells _ t frozen => .cells #[.iface 146 (.agg #[.pointer (some ⟨23, 25, none⟩)])] t frozen
      | o => o }
theorem int_bounds {i : Int} (h : (Lit.int .i64 i).wf = true) : -9223372036854775808 ≤ i ∧ i ≤ 9223372036854775807 := by
  unfold Lit.wf at h
  rw [Bool.and_eq_true, decide_eq_true_eq, decide_eq_true_eq] at h
  exact h
/-- the two errors of Split -/
def twoL : List Sn := [⟨2, "millwright/api.ErrLong", 0, [116, 104, 101, 114, 101, 32, 105, 115, 32, 109, 111, 114, 101, 32, 116, 104, 97, 110, 32, 109, 97, 121, 32, 98, 101]⟩, ⟨5, "millwright/api.ErrQuote", 5, [97, 32, 113, 117, 111, 116, 101, 32, 104, 97, 115, 32, 110, 111, 32, 101, 110, 100]⟩]
theorem two_ok : twoL.all Sn.okB = true := by kernel_rfl
theorem twoL_ok : ∀ q ∈ twoL, q.ok := fun q hq => by
  have := List.all_eq_true.1 two_ok q hq
  unfold Sn.okB at this
  rw [Bool.and_eq_true, beq_iff_eq, beq_iff_eq] at this
  exact this
/-- what Split reads: the two errors -/
def TwoE (A : Nat → Addr) (w : World) : Prop := ∀ q ∈ twoL, SentAt A w q
theorem TwoE.grown {A : Nat → Addr} {w w' : World} (h : TwoE A w) (hg : w.grownBy w' none) : TwoE A w' := fun q hq => (h q hq).later (below_of_grown hg)
theorem TwoE.long {A : Nat → Addr} {w : World} (h : TwoE A w) : w.cell? ⟨0, 0, none⟩ = some (.iface 202 (.pointer (some (A 2)))) :=
  (h ⟨2, "millwright/api.ErrLong", 0, [116, 104, 101, 114, 101, 32, 105, 115, 32, 109, 111, 114, 101, 32, 116, 104, 97, 110, 32, 109, 97, 121, 32, 98, 101]⟩ (by simp [twoL])).1
theorem TwoE.quote {A : Nat → Addr} {w : World} (h : TwoE A w) : w.cell? ⟨5, 0, none⟩ = some (.iface 202 (.pointer (some (A 5)))) :=
  (h ⟨5, "millwright/api.ErrQuote", 5, [97, 32, 113, 117, 111, 116, 101, 32, 104, 97, 115, 32, 110, 111, 32, 101, 110, 100]⟩ (by simp [twoL])).1
theorem two_of_all {A : Nat → Addr} {w : World} (h : ErrEnv A w) : TwoE A w := fun q hq => h.1 q (by
  simp only [twoL, List.mem_cons, List.not_mem_nil, or_false] at hq
  rcases hq with rfl | rfl <;> simp [allSn])
end Go.Proofs.YtdganemgldocoaaGreatDoor

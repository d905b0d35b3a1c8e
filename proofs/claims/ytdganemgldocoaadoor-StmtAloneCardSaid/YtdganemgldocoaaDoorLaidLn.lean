/- What layer 12's laws list: the errors, errors' own variable of a type, the table of powers of ten. -/
import Derived.Test.YtdganemgldocoaaDoorLaidErr
import Derived.Test.YtdganemgldocoaaDoorLnWhere
import Derived.ProofKit
import Derived.OpenShut
import Derived.ShutString
import Derived.ChangeOld
import Derived.LaidHandle
import Derived.Lib.LaidTab
namespace Go.Proofs.YtdganemgldocoaaDoor
open Go.RowKit Go.Maps Go.ChangeShapes Go.WideShapes Go.Deep

def hndD : DataW Unit := .iface "internal/reflectlite.rtype" (.agg [.ptr (.lit (.string [101, 114, 114, 111, 114]))])
theorem one_error : ((List.range 152).filter fun t => Tryd.prog.rowNamed t [101, 114, 114, 111, 114]) = [25] := by kernel_rfl
theorem types_size : Tryd.prog.types.size = 152 := by kernel_rfl
theorem sentsH_of_laid {W : World} {L : List (String × DataW Unit)} (E : List Sn) (hnum : (E.map Sn.num).Nodup) (hok : ∀ q ∈ E, q.ok)
    (h1 : (L.filter fun x => x.2.handleName?.isNone).filter (fun x => E.any fun q => q.name == x.1) = E.map Sn.laid) (h : laidMetH Tryd.prog L W) :
    ∃ A : Nat → Addr, (∀ q ∈ E, SentAt A W q) ∧ ∀ q ∈ E, ∀ r ∈ E, q.num ≠ r.num → A q.num ≠ A r.num := by
  have he := (laidMetH_iff.1 h).1.filter (fun x => E.any fun q => q.name == x.1)
  rw [h1] at he
  exact sents_of_laid hnum hok he
def isPow12 (x : String × DataW Unit) : Bool := x.1 == "internal/strconv.uint64pow10"
theorem int_bounds {i : Int} (h : (Lit.int .i64 i).wf = true) : -9223372036854775808 ≤ i ∧ i ≤ 9223372036854775807 := by
  unfold Lit.wf at h
  rw [Bool.and_eq_true, decide_eq_true_eq, decide_eq_true_eq] at h
  exact h
/-- the two errors of Split -/
def twoL : List Sn := [⟨2, "millwright/api.ErrLong", 0, [116, 104, 101, 114, 101, 32, 105, 115, 32, 109, 111, 114, 101, 32, 116, 104, 97, 110, 32, 109, 97, 121, 32, 98, 101]⟩, ⟨5, "millwright/api.ErrQuote", 2, [97, 32, 113, 117, 111, 116, 101, 32, 104, 97, 115, 32, 110, 111, 32, 101, 110, 100]⟩]
theorem two_ok : twoL.all Sn.okB = true := by kernel_rfl
theorem twoL_ok : ∀ q ∈ twoL, q.ok := fun q hq => by
  have := List.all_eq_true.1 two_ok q hq
  unfold Sn.okB at this
  rw [Bool.and_eq_true, beq_iff_eq, beq_iff_eq] at this
  exact this
/-- what Split reads: the two errors -/
def TwoE (A : Nat → Addr) (w : World) : Prop := ∀ q ∈ twoL, SentAt A w q
theorem TwoE.grown {A : Nat → Addr} {w w' : World} (h : TwoE A w) (hg : w.grownBy w' none) : TwoE A w' := fun q hq => (h q hq).later (below_of_grown hg)
theorem TwoE.long {A : Nat → Addr} {w : World} (h : TwoE A w) : w.cell? ⟨0, 0, none⟩ = some (.iface 135 (.pointer (some (A 2)))) :=
  (h ⟨2, "millwright/api.ErrLong", 0, [116, 104, 101, 114, 101, 32, 105, 115, 32, 109, 111, 114, 101, 32, 116, 104, 97, 110, 32, 109, 97, 121, 32, 98, 101]⟩ (by simp [twoL])).1
theorem TwoE.quote {A : Nat → Addr} {w : World} (h : TwoE A w) : w.cell? ⟨2, 0, none⟩ = some (.iface 135 (.pointer (some (A 5)))) :=
  (h ⟨5, "millwright/api.ErrQuote", 2, [97, 32, 113, 117, 111, 116, 101, 32, 104, 97, 115, 32, 110, 111, 32, 101, 110, 100]⟩ (by simp [twoL])).1
end Go.Proofs.YtdganemgldocoaaDoor

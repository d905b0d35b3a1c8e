/- What layer 12's laws list: the errors, errors' own variable of a type, the table of powers of ten. -/
import Derived.Test.YtigjmaicolgalaaDoorLaidErr
import Derived.Test.YtigjmaicolgalaaDoorLnOut
import Derived.ProofKit
import Derived.OpenShut
import Derived.ShutString
import Derived.ChangeOld
import Derived.LaidHandle
import Derived.Lib.LaidTab
namespace Go.Proofs.YtigjmaicolgalaaDoor
open Go.RowKit Go.Maps Go.ChangeShapes Go.WideShapes Go.Deep

def hndD : DataW Unit := .iface "internal/reflectlite.rtype" (.agg [.ptr (.lit (.string [101, 114, 114, 111, 114]))])
theorem et_glob : Tryd.prog.globalNamed "errors.errorType" = some 18 := by kernel_rfl
theorem rt_type : (Tryd.prog.cutTypes.find? (·.1 == "internal/reflectlite.rtype")).map (·.2) = some 90 := by kernel_rfl
theorem one_error : ((List.range 172).filter fun t => Tryd.prog.rowNamed t [101, 114, 114, 111, 114]) = [25] := by kernel_rfl
theorem types_size : Tryd.prog.types.size = 172 := by kernel_rfl
theorem errTy_of_laid {W : World} {L : List (String × DataW Unit)} (hf : L.filter (fun x => x.1 == "errors.errorType") = [("errors.errorType", hndD)]) (h : laidMetH Tryd.prog L W) : ErrTy W := by
  have hm : ("errors.errorType", hndD) ∈ L := (List.mem_filter.1 (by rw [hf]; exact List.mem_singleton.2 rfl)).1
  obtain ⟨name, u, ty, e1, e2, e3, e4, e5⟩ := (laidMetH_iff.1 h).2 _ (List.mem_filter.2 ⟨hm, rfl⟩)
  have en : name = [101, 114, 114, 111, 114] := (Option.some.inj e1).symm
  subst en
  obtain rfl := Option.some.inj (rt_type.symm.trans e2)
  have ht : ty ∈ (List.range 172).filter fun t => Tryd.prog.rowNamed t [101, 114, 114, 111, 114] := List.mem_filter.2 ⟨List.mem_range.2 (by rw [← types_size]; exact e3), e4⟩
  rw [one_error] at ht
  obtain rfl := List.mem_singleton.1 ht
  have hh : typeHandle Tryd.prog 25 = .pointer (some ⟨25, 25, none⟩) := by kernel_rfl
  rw [hh] at e5
  unfold ErrTy
  simpa using World.var?_cell et_glob e5 0
theorem sentsH_of_laid {W : World} {L : List (String × DataW Unit)} (E : List Sn) (hnum : (E.map Sn.num).Nodup) (hok : ∀ q ∈ E, q.ok)
    (h1 : (L.filter fun x => x.2.handleName?.isNone).filter (fun x => E.any fun q => q.name == x.1) = E.map Sn.laid) (h : laidMetH Tryd.prog L W) :
    ∃ A : Nat → Addr, (∀ q ∈ E, SentAt A W q) ∧ ∀ q ∈ E, ∀ r ∈ E, q.num ≠ r.num → A q.num ≠ A r.num := by
  have he := (laidMetH_iff.1 h).1.filter (fun x => E.any fun q => q.name == x.1)
  rw [h1] at he
  exact sents_of_laid hnum hok he
def isPow12 (x : String × DataW Unit) : Bool := x.1 == "internal/strconv.uint64pow10"
theorem powH_of_laid {W : World} {L : List (String × DataW Unit)} (h2 : (L.filter fun x => x.2.handleName?.isNone).filter isPow12 = [("internal/strconv.uint64pow10", Lib.tabData .u64 Lib.pow10Tab)]) (h : laidMetH Tryd.prog L W) :
    Lib.TabIs Tryd.prog W "internal/strconv.uint64pow10" .u64 Lib.pow10Tab := by
  have hp := (laidMetH_iff.1 h).1.filter isPow12
  rw [h2] at hp
  exact Lib.tabIs_of_head (g := 20) (t := 128) (e := 114) (n := 20) (by kernel_rfl) (by kernel_rfl) Tryd.underlying128 Tryd.underlying114 (by kernel_rfl) (by kernel_rfl) hp
/-- a world in which all that is listed holds, errors' variable of a type among it -/
noncomputable def laidWorldH (L : List (String × DataW Unit)) (os : Os) : World :=
  let w0 := laidWorldX (L.filter fun x => x.2.handleName?.isNone) os
  { w0 with heap := w0.heap.modify 18 fun
      | .cells _ t frozen => .cells #[.iface 90 (.agg #[.pointer (some ⟨25, 25, none⟩)])] t frozen
      | o => o }
theorem int_bounds {i : Int} (h : (Lit.int .i64 i).wf = true) : -9223372036854775808 ≤ i ∧ i ≤ 9223372036854775807 := by
  unfold Lit.wf at h
  rw [Bool.and_eq_true, decide_eq_true_eq, decide_eq_true_eq] at h
  exact h
/-- the two errors of Split -/
def twoL : List Sn := allSn.filter fun q => q.num == 2 || q.num == 5
theorem twoL_ok : ∀ q ∈ twoL, q.ok := fun q hq => allSn_ok q (List.mem_filter.1 hq).1
/-- what Split reads: the two errors -/
def TwoE (A : Nat → Addr) (w : World) : Prop := ∀ q ∈ twoL, SentAt A w q
theorem TwoE.grown {A : Nat → Addr} {w w' : World} (h : TwoE A w) (hg : w.grownBy w' none) : TwoE A w' := fun q hq => (h q hq).later (below_of_grown hg)
theorem TwoE.long {A : Nat → Addr} {w : World} (h : TwoE A w) : w.cell? ⟨0, 0, none⟩ = some (.iface 141 (.pointer (some (A 2)))) :=
  (h ⟨2, "millwright/api.ErrLong", 0, [116, 104, 101, 114, 101, 32, 105, 115, 32, 109, 111, 114, 101, 32, 116, 104, 97, 110, 32, 109, 97, 121, 32, 98, 101]⟩ (by simp [twoL, allSn])).1
theorem TwoE.quote {A : Nat → Addr} {w : World} (h : TwoE A w) : w.cell? ⟨4, 0, none⟩ = some (.iface 141 (.pointer (some (A 5)))) :=
  (h ⟨5, "millwright/api.ErrQuote", 4, [97, 32, 113, 117, 111, 116, 101, 32, 104, 97, 115, 32, 110, 111, 32, 101, 110, 100]⟩ (by simp [twoL, allSn])).1
theorem two_of_all {A : Nat → Addr} {w : World} (h : ErrEnv A w) : TwoE A w := fun q hq => h.1 q (List.mem_filter.1 hq).1
end Go.Proofs.YtigjmaicolgalaaDoor

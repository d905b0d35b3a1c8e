/- Files compared. -/
import Derived.Test.YtpedamncnimgpaaDoorTreeC
import Derived.Test.YtpedamncnimgpaaDoorTreeE
import Derived.Laws.StructEq
namespace Go.Proofs.YtpedamncnimgpaaDoor
open Go.RowKit Go.Maps

def eqFl (f g : Fl) : Bool := f.n.toList == g.n.toList && f.c.toList == g.c.toList && f.t == g.t
theorem eqFl_iff {f g : Fl} : eqFl f g = true ↔ f = g := by
  unfold eqFl
  rw [Bool.and_eq_true, Bool.and_eq_true, beq_iff_eq, beq_iff_eq, beq_iff_eq, ByteArray.toList_eq, ByteArray.toList_eq, ByteArray.toList_eq, ByteArray.toList_eq]
  constructor
  · rintro ⟨⟨h1, h2⟩, h3⟩
    cases f; cases g
    simp only at h1 h2 h3
    rw [bytes_ext h1, bytes_ext h2, h3]
  · rintro rfl; exact ⟨⟨rfl, rfl⟩, rfl⟩
theorem eqFl_self (f : Fl) : eqFl f f = true := eqFl_iff.2 rfl
theorem guardF (op : BinOp) (x y : Operand) (xs ys : Array Value) (w : World) : (eqGuard op 31 x y (.agg xs) (.agg ys)).run Tryd.prog w = .ok () w := run_eqGuard_agg w op _ x y xs ys (by kernel_rfl)
theorem neqF (f g : Fl) (w : World) : (binOp .neq 31 (.agg #[.string f.n, .string f.c, .int .i64 f.t]) (.agg #[.string g.n, .string g.c, .int .i64 g.t])).run Tryd.prog w = .ok (.bool (!eqFl f g)) w := by
  have hS : Tryd.prog.underlying 31 = some (.struct (Tryd.prog.fieldsOf 31)) := by kernel_rfl
  have hp : Tryd.prog.stoodInHeld 31 = false := by kernel_rfl
  have u3 := Tryd.underlying3
  have a3 := Tryd.isAgg3
  have z3 := Tryd.sizeOf3
  have u9 := Tryd.underlying9
  have a9 := Tryd.isAgg9
  have z9 := Tryd.sizeOf9
  rw [run_neq_struct, show (10000 : Nat) = 9999 + 1 from rfl, run_equalIn_agg w 9999 _ _ _ hS hp]
  simp only [Program.fieldsOf, Tryd.underlying31]
  go_simp
  unfold eqFl
  by_cases h1 : (f.n.toList == g.n.toList) = true <;> by_cases h2 : (f.c.toList == g.c.toList) = true <;> by_cases h3 : (f.t == g.t) = true <;> simp_all
end Go.Proofs.YtpedamncnimgpaaDoor

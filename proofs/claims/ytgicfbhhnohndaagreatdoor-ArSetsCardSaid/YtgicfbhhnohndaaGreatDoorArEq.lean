/- Members compared. -/
import Derived.Test.YtgicfbhhnohndaaGreatDoorMRow
import Derived.Laws.StructEq
namespace Go.Proofs.YtgicfbhhnohndaaGreatDoor
open Go.RowKit

def eqMb (f g : Mb) : Bool := f.n.toList == g.n.toList && f.t == g.t && f.c.toList == g.c.toList
theorem eqMb_iff {f g : Mb} : eqMb f g = true ↔ f = g := by
  unfold eqMb
  rw [Bool.and_eq_true, Bool.and_eq_true, beq_iff_eq, beq_iff_eq, beq_iff_eq, Lib.toList_data, Lib.toList_data, Lib.toList_data, Lib.toList_data]
  constructor
  · rintro ⟨⟨h1, h2⟩, h3⟩
    exact mb_ext (ba_ext h1) h2 (ba_ext h3)
  · rintro rfl; exact ⟨⟨rfl, rfl⟩, rfl⟩
theorem eqMb_self (f : Mb) : eqMb f f = true := eqMb_iff.2 rfl
theorem eqMb_not {f g : Mb} (h : f ≠ g) : eqMb f g = false := by
  cases e : eqMb f g
  · rfl
  · exact absurd (eqMb_iff.1 e) h
theorem guardM (op : BinOp) (x y : Operand) (xs ys : Array Value) (w : World) : (eqGuard op 35 x y (.agg xs) (.agg ys)).run Tryz.prog w = .ok () w := run_eqGuard_agg w op _ x y xs ys (by kernel_rfl)
theorem guardN (op : BinOp) (x y : Operand) (xs ys : Array Value) (w : World) : (eqGuard op 45 x y (.agg xs) (.agg ys)).run Tryz.prog w = .ok () w := run_eqGuard_agg w op _ x y xs ys (by kernel_rfl)
theorem eqlM (f g : Mb) (w : World) : (binOp .eql 35 (.agg #[.string f.n, .int .i64 f.t, .string f.c]) (.agg #[.string g.n, .int .i64 g.t, .string g.c])).run Tryz.prog w = .ok (.bool (eqMb f g)) w := by
  have hS : Tryz.prog.underlying 35 = some (.struct (Tryz.prog.fieldsOf 35)) := by kernel_rfl
  have hp : Tryz.prog.stoodInHeld 35 = false := by kernel_rfl
  have u3 := Tryz.underlying3
  have a3 := Tryz.isAgg3
  have z3 := Tryz.sizeOf3
  have u9 := Tryz.underlying9
  have a9 := Tryz.isAgg9
  have z9 := Tryz.sizeOf9
  rw [run_eql_struct, show (10000 : Nat) = 9999 + 1 from rfl, run_equalIn_agg w 9999 _ _ _ hS hp]
  simp only [Program.fieldsOf, Tryz.underlying35]
  go_simp
  unfold eqMb
  by_cases h1 : (f.n.toList == g.n.toList) = true <;> by_cases h2 : (f.c.toList == g.c.toList) = true <;> by_cases h3 : (f.t == g.t) = true <;> simp_all
theorem neqM (f g : Mb) (w : World) : (binOp .neq 35 (.agg #[.string f.n, .int .i64 f.t, .string f.c]) (.agg #[.string g.n, .int .i64 g.t, .string g.c])).run Tryz.prog w = .ok (.bool (!eqMb f g)) w := by
  have h := eqlM f g w
  rw [run_eql_struct] at h
  rw [run_neq_struct]
  cases hr : (Op.equalIn 10000 35 (.agg #[.string f.n, .int .i64 f.t, .string f.c]) (.agg #[.string g.n, .int .i64 g.t, .string g.c])).run Tryz.prog w with
  | ok b w1 =>
    rw [hr] at h
    simp only [Result.andThen, Result.ok.injEq, Value.bool.injEq] at h ⊢
    exact ⟨by rw [h.1], h.2⟩
  | halt x w1 => rw [hr] at h; simp [Result.andThen] at h
theorem neqN (f g : Mb) (w : World) : (binOp .neq 45 (.agg #[.string f.n, .int .i64 f.t, .string f.c]) (.agg #[.string g.n, .int .i64 g.t, .string g.c])).run Tryz.prog w = .ok (.bool (!eqMb f g)) w := by
  have hS : Tryz.prog.underlying 45 = some (.struct (Tryz.prog.fieldsOf 45)) := by kernel_rfl
  have hp : Tryz.prog.stoodInHeld 45 = false := by kernel_rfl
  have u3 := Tryz.underlying3
  have a3 := Tryz.isAgg3
  have z3 := Tryz.sizeOf3
  have u9 := Tryz.underlying9
  have a9 := Tryz.isAgg9
  have z9 := Tryz.sizeOf9
  rw [run_neq_struct, show (10000 : Nat) = 9999 + 1 from rfl, run_equalIn_agg w 9999 _ _ _ hS hp]
  simp only [Program.fieldsOf, Tryz.underlying45]
  go_simp
  unfold eqMb
  by_cases h1 : (f.n.toList == g.n.toList) = true <;> by_cases h2 : (f.c.toList == g.c.toList) = true <;> by_cases h3 : (f.t == g.t) = true <;> simp_all
end Go.Proofs.YtgicfbhhnohndaaGreatDoor

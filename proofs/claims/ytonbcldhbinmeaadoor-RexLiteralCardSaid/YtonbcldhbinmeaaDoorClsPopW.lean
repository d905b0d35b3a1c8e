/- Walks of layer 6: math/bits.OnesCount64. -/
import Derived.Test.YtonbcldhbinmeaaDoorClsPlainB
namespace Go.Proofs.YtonbcldhbinmeaaDoor
open Go.RowKit

set_option maxHeartbeats 1000000 in
theorem cPop (x : Nat) (hx : x < 18446744073709551616) (w : World) :
    Calls Tryd.prog 32 #[.int .u64 x] w fun e w' => e = .returned (.int .i64 (popN 64 x)) ∧ w = w' := by
  obtain ⟨q1, q2, q3, q4, q5, q6, q7, q8⟩ := pop_all x hx
  have w1 : IntKind.u64.wrap (bits .and .u64 ((x : Int) / 2) 6148914691236517205 + bits .and .u64 (x : Int) 6148914691236517205) = ((p1 x : Nat) : Int) := by
    have a := u64_and_n (x / 2) 6148914691236517205 (by omega) (by omega)
    have b := u64_and_n x 6148914691236517205 hx (by omega)
    have c := wrap_n (p1 x) q1
    rw [Int.natCast_ediv] at a
    rw [← c]
    unfold p1
    rw [Int.natCast_add, ← a, ← b]; rfl
  have w2 : IntKind.u64.wrap (bits .and .u64 ((p1 x : Int) / 4) 3689348814741910323 + bits .and .u64 (p1 x : Int) 3689348814741910323) = ((p2 (p1 x) : Nat) : Int) := by
    have a := u64_and_n (p1 x / 4) 3689348814741910323 (by omega) (by omega)
    have b := u64_and_n (p1 x) 3689348814741910323 q1 (by omega)
    have c := wrap_n (p2 (p1 x)) q2
    rw [Int.natCast_ediv] at a
    rw [← c]
    generalize p1 x = y at a b
    unfold p2
    rw [Int.natCast_add, ← a, ← b]; rfl
  have w3 : bits .and .u64 (IntKind.u64.wrap ((p2 (p1 x) : Int) / 16 + (p2 (p1 x) : Int))) 1085102592571150095 = ((p3 (p2 (p1 x)) : Nat) : Int) := by
    have a := u64_and_n (p2 (p1 x) / 16 + p2 (p1 x)) 1085102592571150095 q3 (by omega)
    have c := wrap_n _ q3
    generalize p2 (p1 x) = y at a c
    rw [Int.natCast_add, Int.natCast_ediv] at c a
    unfold p3
    rw [show ((16 : Nat) : Int) = 16 from rfl] at c a
    rw [c]; exact a
  have w4 : IntKind.u64.wrap ((p3 (p2 (p1 x)) : Int) + (p3 (p2 (p1 x)) : Int) / 256) = ((p4 (p3 (p2 (p1 x))) : Nat) : Int) := by
    have c := wrap_n _ q5
    generalize p3 (p2 (p1 x)) = y at c
    rw [← c]; unfold p4; rw [Int.natCast_add, Int.natCast_ediv]; rfl
  have w5 : IntKind.u64.wrap ((p4 (p3 (p2 (p1 x))) : Int) + (p4 (p3 (p2 (p1 x))) : Int) / 65536) = ((p5 (p4 (p3 (p2 (p1 x)))) : Nat) : Int) := by
    have c := wrap_n _ q6
    generalize p4 (p3 (p2 (p1 x))) = y at c
    rw [← c]; unfold p5; rw [Int.natCast_add, Int.natCast_ediv]; rfl
  have w6 : IntKind.u64.wrap ((p5 (p4 (p3 (p2 (p1 x)))) : Int) + (p5 (p4 (p3 (p2 (p1 x)))) : Int) / 4294967296) = ((p6 (p5 (p4 (p3 (p2 (p1 x))))) : Nat) : Int) := by
    have c := wrap_n _ (Nat.lt_trans q7 (by decide))
    generalize p5 (p4 (p3 (p2 (p1 x)))) = y at c
    rw [← c]; unfold p6; rw [Int.natCast_add, Int.natCast_ediv]; rfl
  have w7 := i64_and127 (p6 (p5 (p4 (p3 (p2 (p1 x)))))) (by omega) (by omega)
  have w8 : ((p6 (p5 (p4 (p3 (p2 (p1 x))))) : Nat) : Int) % 128 = (popN 64 x : Int) := by omega
  have w9 : ((p6 (p5 (p4 (p3 (p2 (p1 x))))) : Nat) : Int) ≤ 9223372036854775807 := by omega
  have W7 := Lib.hid w7; have W8 := Lib.hid w8
  clear q1 q2 q3 q4 q5 q6 q7 q8 w7 w8
  go_enter Tryd.func32, Tryd.ntmps32
  go_wp2
  go_ret
  refine ⟨congrArg (fun x => Ending.returned (Value.int IntKind.i64 x)) ?_, rfl⟩
  exact W7.out.trans W8.out
end Go.Proofs.YtonbcldhbinmeaaDoor

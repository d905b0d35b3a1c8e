/- Walks of layer 6: the closures over words; Has; the ones of a word. -/
import Derived.Test.YtkemhpjgmnibpaaClsBase
import Derived.Test.YtkemhpjgmnibpaaClsPop
namespace Go.Proofs.Ytkemhpjgmnibpaa
open Go.RowKit

theorem i64_and127 (x : Int) (h0 : 0 ≤ x) (h1 : x < 9223372036854775808) : bits .and .i64 x 127 = x % 128 :=
  bits_mask .i64 63 (by decide) (fun n a b => by rw [IntKind.wrap_i64]; omega) 7 (by decide) x h0 h1
theorem u64_and_n (x : Nat) (m : Nat) (hx : x < 18446744073709551616) (hm : m < 18446744073709551616) : bits .and .u64 (x : Int) (m : Int) = ((x &&& m : Nat) : Int) := bits_and_u64_nat x m hx hm
theorem wrap_n (x : Nat) (hx : x < 18446744073709551616) : IntKind.u64.wrap (x : Int) = x := by rw [IntKind.wrap_u64]; omega

theorem has_and (s : BitVec 256) (b : Nat) : (bits .and .u64 (wd s (b / 64) / 2 ^ (b % 64)) 1 == (1 : Int)) = inn s b := by
  have hj : b % 64 < 64 := by omega
  have h := has_bit s (b / 64) (b % 64) hj
  rw [show 64 * (b / 64) + b % 64 = b by omega] at h
  have e : wd s (b / 64) / 2 ^ (b % 64) = ((wn s (b / 64) / 2 ^ (b % 64) : Nat) : Int) := by
    unfold wd; rw [Int.natCast_ediv, Int.natCast_pow]; rfl
  have hl : wn s (b / 64) / 2 ^ (b % 64) < 18446744073709551616 := Nat.lt_of_le_of_lt (Nat.div_le_self _ _) (wn_lt s _)
  have a := u64_and_n _ 1 hl (by omega)
  rw [e]
  rw [show ((1 : Nat) : Int) = 1 from rfl] at a
  rw [a, Nat.and_one_is_mod, h]
  cases inn s b <;> rfl

theorem cOr (s t : BitVec 256) (i p q : Nat) (w : World) (hi : i < 4) (hs : SetAt w p s) (ht : SetAt w q t) :
    Calls Try.prog 23 #[.int .i64 i, .pointer (some ⟨p, 0, none⟩), .pointer (some ⟨q, 0, none⟩)] w fun e w' => e = .returned (.int .u64 (wd (un s t) i)) ∧ w.grownBy w' none := by
  have h1 := hs.at i hi
  have h2 := ht.at i hi
  have H := Lib.hid (wd_or s t i)
  clear hs ht
  go_enter Try.func23, Try.ntmps23
  go_wp2
  go_quiet (fail)
  go_wp2
  go_ret
  exact ⟨congrArg (fun x => Ending.returned (Value.int IntKind.u64 x)) H.out, grown_drewN (World.grownBy.refl _ _) _⟩

theorem cAnd (s t : BitVec 256) (i p q : Nat) (w : World) (hi : i < 4) (hs : SetAt w p s) (ht : SetAt w q t) :
    Calls Try.prog 24 #[.int .i64 i, .pointer (some ⟨p, 0, none⟩), .pointer (some ⟨q, 0, none⟩)] w fun e w' => e = .returned (.int .u64 (wd (me s t) i)) ∧ w.grownBy w' none := by
  have h1 := hs.at i hi
  have h2 := ht.at i hi
  have H := Lib.hid (wd_and s t i)
  clear hs ht
  go_enter Try.func24, Try.ntmps24
  go_wp2
  go_quiet (fail)
  go_wp2
  go_ret
  exact ⟨congrArg (fun x => Ending.returned (Value.int IntKind.u64 x)) H.out, grown_drewN (World.grownBy.refl _ _) _⟩

theorem cNot1 (s : BitVec 256) (i p : Nat) (w : World) (hi : i < 4) (hs : SetAt w p s) :
    Calls Try.prog 25 #[.int .i64 i, .pointer (some ⟨p, 0, none⟩)] w fun e w' => e = .returned (.int .u64 (wd (no s) i)) ∧ w = w' := by
  have h1 := hs.at i hi
  have H := Lib.hid (wd_not s i hi)
  clear hs
  go_enter Try.func25, Try.ntmps25
  go_wp2
  go_ret
  all_goals exact ⟨congrArg (fun x => Ending.returned (Value.int IntKind.u64 x)) H.out, rfl⟩

theorem cHas (s : BitVec 256) (b : Nat) (w : World) (hb : b < 256) :
    Calls Try.prog 15 #[setV s, .int .u8 b] w fun e w' => e = .returned (.bool (inn s b)) ∧ w.grownBy w' none := by
  go_enter Try.func15, Try.ntmps15
  go_upto_region 1 with fail
  have G := Lib.hid (World.grownBy_alloc w (.cells #[.int .u64 (wd s 0), .int .u64 (wd s 1), .int .u64 (wd s 2), .int .u64 (wd s 3)] 27) none)
  have S := set_new w s 27
  have h1 := S.at (b / 64) (by omega)
  clear S
  generalize w.heap.size = p at h1 ⊢
  generalize w.alloc (.cells #[.int .u64 (wd s 0), .int .u64 (wd s 1), .int .u64 (wd s 2), .int .u64 (wd s 3)] 27) = w1 at G h1 ⊢
  have v0 := wd_ge s (b / 64); have v1 := wd_le s (b / 64)
  have H := Lib.hid (has_and s b)
  go_wp2
  go_ret
  exact ⟨ret_bool H.out, G.out⟩

set_option maxHeartbeats 1000000 in
theorem cPop (x : Nat) (hx : x < 18446744073709551616) (w : World) :
    Calls Try.prog 26 #[.int .u64 x] w fun e w' => e = .returned (.int .i64 (popN 64 x)) ∧ w = w' := by
  obtain ⟨q1, q2, q3, q4, q5, q6, q7, q8⟩ := pop_all x hx
  have w1 : IntKind.u64.wrap (bits .and .u64 ((x : Int) / 2) 6148914691236517205 + bits .and .u64 (x : Int) 6148914691236517205) = ((p1 x : Nat) : Int) := by
    have a := u64_and_n (x / 2) 6148914691236517205 (by omega) (by omega)
    have b := u64_and_n x 6148914691236517205 hx (by omega)
    have c := wrap_n (p1 x) q1
    rw [Int.natCast_ediv] at a
    rw [← c]
    unfold p1
    rw [Int.natCast_add, ← a, ← b]; rfl
  have w2 : IntKind.u64.wrap (bits .and .u64 ((p1 x : Int) / 4) 3689348814741910323 + bits .and .u64 (p1 x : Int) 3689348814741910323) = ((p2 (p1 x) : Nat) : Int) := by
    have a := u64_and_n (p1 x / 4) 3689348814741910323 (by omega) (by omega)
    have b := u64_and_n (p1 x) 3689348814741910323 q1 (by omega)
    have c := wrap_n (p2 (p1 x)) q2
    rw [Int.natCast_ediv] at a
    rw [← c]
    generalize p1 x = y at a b
    unfold p2
    rw [Int.natCast_add, ← a, ← b]; rfl
  have w3 : bits .and .u64 (IntKind.u64.wrap ((p2 (p1 x) : Int) / 16 + (p2 (p1 x) : Int))) 1085102592571150095 = ((p3 (p2 (p1 x)) : Nat) : Int) := by
    have a := u64_and_n (p2 (p1 x) / 16 + p2 (p1 x)) 1085102592571150095 q3 (by omega)
    have c := wrap_n _ q3
    generalize p2 (p1 x) = y at a c
    rw [Int.natCast_add, Int.natCast_ediv] at c a
    unfold p3
    rw [show ((16 : Nat) : Int) = 16 from rfl] at c a
    rw [c]; exact a
  have w4 : IntKind.u64.wrap ((p3 (p2 (p1 x)) : Int) + (p3 (p2 (p1 x)) : Int) / 256) = ((p4 (p3 (p2 (p1 x))) : Nat) : Int) := by
    have c := wrap_n _ q5
    generalize p3 (p2 (p1 x)) = y at c
    rw [← c]; unfold p4; rw [Int.natCast_add, Int.natCast_ediv]; rfl
  have w5 : IntKind.u64.wrap ((p4 (p3 (p2 (p1 x))) : Int) + (p4 (p3 (p2 (p1 x))) : Int) / 65536) = ((p5 (p4 (p3 (p2 (p1 x)))) : Nat) : Int) := by
    have c := wrap_n _ q6
    generalize p4 (p3 (p2 (p1 x))) = y at c
    rw [← c]; unfold p5; rw [Int.natCast_add, Int.natCast_ediv]; rfl
  have w6 : IntKind.u64.wrap ((p5 (p4 (p3 (p2 (p1 x)))) : Int) + (p5 (p4 (p3 (p2 (p1 x)))) : Int) / 4294967296) = ((p6 (p5 (p4 (p3 (p2 (p1 x))))) : Nat) : Int) := by
    have c := wrap_n _ (Nat.lt_trans q7 (by decide))
    generalize p5 (p4 (p3 (p2 (p1 x)))) = y at c
    rw [← c]; unfold p6; rw [Int.natCast_add, Int.natCast_ediv]; rfl
  have w7 := i64_and127 (p6 (p5 (p4 (p3 (p2 (p1 x)))))) (by omega) (by omega)
  have w8 : ((p6 (p5 (p4 (p3 (p2 (p1 x))))) : Nat) : Int) % 128 = (popN 64 x : Int) := by omega
  have w9 : ((p6 (p5 (p4 (p3 (p2 (p1 x))))) : Nat) : Int) ≤ 9223372036854775807 := by omega
  have W7 := Lib.hid w7; have W8 := Lib.hid w8
  clear q1 q2 q3 q4 q5 q6 q7 q8 w7 w8
  go_enter Try.func26, Try.ntmps26
  go_wp2
  go_ret
  refine ⟨congrArg (fun x => Ending.returned (Value.int IntKind.i64 x)) ?_, rfl⟩
  exact W7.out.trans W8.out
end Go.Proofs.Ytkemhpjgmnibpaa

/- errors.Is and errors.As on an error type with a line that wraps another error, and millwrightnum's number of it. -/
import Derived.Test.YtigjmaicolgalaaDoorLaidErr
import Derived.WalkSmall
namespace Go.Proofs.YtigjmaicolgalaaDoor
open Go.RowKit Go.Extern.Stop Go.Stop Go.Extern

/-- a fault as it lies in memory: its line, what it wraps -/
def FltAt (w : World) (q : Nat) (line : Int) (v : Value) : Prop := w.heap[q]? = some (.cells #[.int .i64 line, v] 44 (0, 0))
abbrev fltV (q : Nat) : Value := .iface 41 (.pointer (some ⟨q, 0, none⟩))
theorem FltAt.cells {w : World} {q : Nat} {line : Int} {v : Value} (h : FltAt w q line v) : w.cell? ⟨q, 0, none⟩ = some (.int .i64 line) ∧ w.cell? ⟨q, 1, none⟩ = some v := by
  unfold FltAt at h
  constructor <;> simp [World.cell?, h]
theorem FltAt.lt {w : World} {q : Nat} {line : Int} {v : Value} (h : FltAt w q line v) : q < w.heap.size := (Array.getElem?_eq_some_iff.1 h).1
theorem FltAt.grown {w w' : World} {q : Nat} {line : Int} {v : Value} (h : FltAt w q line v) (hg : w.grownBy w' none) : FltAt w' q line v := (hg.block q h.lt (by simp)).trans h
theorem FltAt.later {w w' : World} {q : Nat} {line : Int} {v : Value} (h : FltAt w q line v) (hb : Below w.heap.size w w') : FltAt w' q line v := (hb.block _ h.lt).trans h

theorem noIsF (v : Value) (xT : TypeId) (w : World) : (Instr.typeAssert (.iface 41 v) xT 100 true).run Tryd.prog w = .ok (.tuple #[.nilIface, .bool false]) w := run_typeAssert_lacksB Tryd.underlying100 (by kernel_rfl) (by kernel_rfl) v xT w
theorem hasUnwrapF (v : Value) (xT : TypeId) (w : World) : (Instr.typeAssert (.iface 41 v) xT 97 true).run Tryd.prog w = .ok (.tuple #[.iface 41 v, .bool true]) w := run_typeAssert_hasB Tryd.underlying97 (by kernel_rfl) v xT w
theorem methodUnwrapF (v : Value) (w : World) : (Go.method 272 41 v "Unwrap").run Tryd.prog w = .ok (21, v) w := by kernel_rfl

theorem pUnwrap (q : Nat) (line : Int) (v : Value) (w : World) (h : FltAt w q line v) : Calls Tryd.prog 21 #[.pointer (some ⟨q, 0, none⟩)] w fun e w' => e = .returned v ∧ w = w' := by
  obtain ⟨h0, h1⟩ := h.cells
  go_enter Tryd.func21, Tryd.ntmps21
  go_wp2
  go_ret
  exact ⟨rfl, rfl⟩

set_option maxRecDepth 100000 in
set_option maxHeartbeats 1000000 in
/-- a fault that wraps the error -/
theorem isF_same (q : Nat) (line : Int) (a : Addr) (w : World) (h : FltAt w q line (.iface 141 (.pointer (some a)))) :
    Calls Tryd.prog 31 #[fltV q, .iface 141 (.pointer (some a))] w fun e w' => e = .returned (.bool true) ∧ w = w' := by
  obtain ⟨i, hi, hcmp⟩ := Option.map_eq_some_iff.1 isComp
  obtain ⟨j, hj, hjs⟩ := Option.map_eq_some_iff.1 isSize
  have h8 := @run_callFunc_extern Tryd.prog 43 _ Extern.ReflectliteType.typeOf Tryd.func43 (by kernel_rfl) (by kernel_rfl) (by kernel_rfl) (by kernel_rfl)
  have h32 := @run_callFunc_extern Tryd.prog 113 _ isCompFn Tryd.func113 (by kernel_rfl) (by kernel_rfl) (by kernel_rfl) (by kernel_rfl)
  have tT := isTypeOf
  have cT := isComparable
  have mR := isMethodComparable
  have nF := noIsF
  have uF := hasUnwrapF
  have mU := methodUnwrapF
  have hty1 := run_eql_iface_types (P := Tryd.prog) 41 141 (.pointer (some ⟨q, 0, none⟩)) (.pointer (some a)) Tryd.underlying25 (by decide) w
  have heq := run_eql_iface_ptr_same (P := Tryd.prog) w a Tryd.underlying25 Tryd.underlying141 hi hcmp hj
  have CU := Lib.hid (pUnwrap q line _ w h)
  clear h
  go_enter Tryd.func31, Tryd.ntmps31
  go_wp2
  refine wp_loop_rounds 2 ?_
  rw [rounds_succ]
  go_wp2_with (go_at_call 21; (with_reducible refine CU.out.mono ?_); rintro e w3 ⟨rfl, rfl⟩)
  rw [rounds_succ]
  go_wp2
  go_ret
  exact ⟨rfl, rfl⟩
set_option maxRecDepth 100000 in
set_option maxHeartbeats 1000000 in
/-- a fault that wraps another error -/
theorem isF_other (q : Nat) (line : Int) (a b : Addr) (w : World) (h : FltAt w q line (.iface 141 (.pointer (some a)))) (ca cb : Array Value) (ta tb : TypeId) (hne : a ≠ b) (ha : w.heap[a.block]? = some (.cells ca ta (0, 0))) (hb : w.heap[b.block]? = some (.cells cb tb (0, 0))) :
    Calls Tryd.prog 31 #[fltV q, .iface 141 (.pointer (some b))] w fun e w' => e = .returned (.bool false) ∧ w = w' := by
  obtain ⟨i, hi, hcmp⟩ := Option.map_eq_some_iff.1 isComp
  obtain ⟨j, hj, hjs⟩ := Option.map_eq_some_iff.1 isSize
  have h8 := @run_callFunc_extern Tryd.prog 43 _ Extern.ReflectliteType.typeOf Tryd.func43 (by kernel_rfl) (by kernel_rfl) (by kernel_rfl) (by kernel_rfl)
  have h32 := @run_callFunc_extern Tryd.prog 113 _ isCompFn Tryd.func113 (by kernel_rfl) (by kernel_rfl) (by kernel_rfl) (by kernel_rfl)
  have tT := isTypeOf
  have cT := isComparable
  have mR := isMethodComparable
  have nF := noIsF
  have uF := hasUnwrapF
  have mU := methodUnwrapF
  have nE := noIsE
  have uE := noUnwrapE
  have vE := noUnwrapsE
  have hty1 := run_eql_iface_types (P := Tryd.prog) 41 141 (.pointer (some ⟨q, 0, none⟩)) (.pointer (some b)) Tryd.underlying25 (by decide) w
  have heq := run_eql_iface_ptr_other (P := Tryd.prog) w Tryd.underlying25 Tryd.underlying141 hi hcmp hj (by rw [hjs]; decide) hne ha hb
  have CU := Lib.hid (pUnwrap q line _ w h)
  clear h
  go_enter Tryd.func31, Tryd.ntmps31
  go_wp2
  refine wp_loop_rounds 2 ?_
  rw [rounds_succ]
  go_wp2_with (go_at_call 21; (with_reducible refine CU.out.mono ?_); rintro e w3 ⟨rfl, rfl⟩)
  rw [rounds_succ]
  go_wp2
  go_ret
  exact ⟨rfl, rfl⟩
set_option maxRecDepth 100000 in
set_option maxHeartbeats 1000000 in
/-- a fault that wraps a fault that wraps the error -/
theorem isG_same (q : Nat) (line : Int) (a : Addr) (w : World) (q2 : Nat) (line2 : Int) (h : FltAt w q line (fltV q2)) (h2 : FltAt w q2 line2 (.iface 141 (.pointer (some a)))) :
    Calls Tryd.prog 31 #[fltV q, .iface 141 (.pointer (some a))] w fun e w' => e = .returned (.bool true) ∧ w = w' := by
  obtain ⟨i, hi, hcmp⟩ := Option.map_eq_some_iff.1 isComp
  obtain ⟨j, hj, hjs⟩ := Option.map_eq_some_iff.1 isSize
  have h8 := @run_callFunc_extern Tryd.prog 43 _ Extern.ReflectliteType.typeOf Tryd.func43 (by kernel_rfl) (by kernel_rfl) (by kernel_rfl) (by kernel_rfl)
  have h32 := @run_callFunc_extern Tryd.prog 113 _ isCompFn Tryd.func113 (by kernel_rfl) (by kernel_rfl) (by kernel_rfl) (by kernel_rfl)
  have tT := isTypeOf
  have cT := isComparable
  have mR := isMethodComparable
  have nF := noIsF
  have uF := hasUnwrapF
  have mU := methodUnwrapF
  have hty1 := run_eql_iface_types (P := Tryd.prog) 41 141 (.pointer (some ⟨q, 0, none⟩)) (.pointer (some a)) Tryd.underlying25 (by decide) w
  have hty2 := run_eql_iface_types (P := Tryd.prog) 41 141 (.pointer (some ⟨q2, 0, none⟩)) (.pointer (some a)) Tryd.underlying25 (by decide) w
  have heq := run_eql_iface_ptr_same (P := Tryd.prog) w a Tryd.underlying25 Tryd.underlying141 hi hcmp hj
  have CU := Lib.hid (pUnwrap q line _ w h)
  have CV := Lib.hid (pUnwrap q2 line2 _ w h2)
  clear h2
  clear h
  go_enter Tryd.func31, Tryd.ntmps31
  go_wp2
  refine wp_loop_rounds 3 ?_
  rw [rounds_succ]
  go_wp2_with (go_at_call 21; (with_reducible refine CU.out.mono ?_); rintro e w3 ⟨rfl, rfl⟩)
  rw [rounds_succ]
  go_wp2_with (go_at_call 21; (with_reducible refine CV.out.mono ?_); rintro e w3 ⟨rfl, rfl⟩)
  rw [rounds_succ]
  go_wp2
  go_ret
  exact ⟨rfl, rfl⟩
set_option maxRecDepth 100000 in
set_option maxHeartbeats 1000000 in
/-- a fault that wraps a fault that wraps another error -/
theorem isG_other (q : Nat) (line : Int) (a b : Addr) (w : World) (q2 : Nat) (line2 : Int) (h : FltAt w q line (fltV q2)) (h2 : FltAt w q2 line2 (.iface 141 (.pointer (some a)))) (ca cb : Array Value) (ta tb : TypeId) (hne : a ≠ b) (ha : w.heap[a.block]? = some (.cells ca ta (0, 0))) (hb : w.heap[b.block]? = some (.cells cb tb (0, 0))) :
    Calls Tryd.prog 31 #[fltV q, .iface 141 (.pointer (some b))] w fun e w' => e = .returned (.bool false) ∧ w = w' := by
  obtain ⟨i, hi, hcmp⟩ := Option.map_eq_some_iff.1 isComp
  obtain ⟨j, hj, hjs⟩ := Option.map_eq_some_iff.1 isSize
  have h8 := @run_callFunc_extern Tryd.prog 43 _ Extern.ReflectliteType.typeOf Tryd.func43 (by kernel_rfl) (by kernel_rfl) (by kernel_rfl) (by kernel_rfl)
  have h32 := @run_callFunc_extern Tryd.prog 113 _ isCompFn Tryd.func113 (by kernel_rfl) (by kernel_rfl) (by kernel_rfl) (by kernel_rfl)
  have tT := isTypeOf
  have cT := isComparable
  have mR := isMethodComparable
  have nF := noIsF
  have uF := hasUnwrapF
  have mU := methodUnwrapF
  have nE := noIsE
  have uE := noUnwrapE
  have vE := noUnwrapsE
  have hty1 := run_eql_iface_types (P := Tryd.prog) 41 141 (.pointer (some ⟨q, 0, none⟩)) (.pointer (some b)) Tryd.underlying25 (by decide) w
  have hty2 := run_eql_iface_types (P := Tryd.prog) 41 141 (.pointer (some ⟨q2, 0, none⟩)) (.pointer (some b)) Tryd.underlying25 (by decide) w
  have heq := run_eql_iface_ptr_other (P := Tryd.prog) w Tryd.underlying25 Tryd.underlying141 hi hcmp hj (by rw [hjs]; decide) hne ha hb
  have CU := Lib.hid (pUnwrap q line _ w h)
  have CV := Lib.hid (pUnwrap q2 line2 _ w h2)
  clear h2
  clear h
  go_enter Tryd.func31, Tryd.ntmps31
  go_wp2
  refine wp_loop_rounds 3 ?_
  rw [rounds_succ]
  go_wp2_with (go_at_call 21; (with_reducible refine CU.out.mono ?_); rintro e w3 ⟨rfl, rfl⟩)
  rw [rounds_succ]
  go_wp2_with (go_at_call 21; (with_reducible refine CV.out.mono ?_); rintro e w3 ⟨rfl, rfl⟩)
  rw [rounds_succ]
  go_wp2
  go_ret
  exact ⟨rfl, rfl⟩
set_option maxRecDepth 100000 in
set_option maxHeartbeats 1000000 in
theorem lNumF (A : Nat → Addr) (k : Nat) (h1 : 1 ≤ k) (h2 : k ≤ 18) (q : Nat) (line : Int) (w : World) (hE : ErrEnv A w) (h : FltAt w q line (errV A k)) :
    Calls Tryd.prog 20 #[fltV q] w fun e w' => e = .returned (.int .i64 k) ∧ w.grownBy w' none := by
  have HE := Lib.hid hE
  rw [errV_ne (by omega)] at h
  have HF := Lib.hid h
  clear h
  go_enter Tryd.func20, Tryd.ntmps20
  go_wp2_with fail
  refine (lAllErr A _ HE.out).mono ?_
  rintro e w1 ⟨b, rfl, hc, g1⟩
  have HC := Lib.hid hc; have G1 := Lib.hid g1
  have E1 := Lib.hid (HE.out.later (below_of_grown g1))
  clear hc g1
  go_wp2
  go_loop [9] (fun i => ∃ j : Nat, j < k ∧ i = .int .i64 j) (fun i => 18 - (intOf i).toNat)
  case atStart => exact ⟨0, by omega, rfl⟩
  case round =>
    obtain ⟨j, hj, rfl⟩ := hrel
    have hcell := HC.out j (by omega)
    by_cases hjk : j + 1 = k
    · subst hjk
      go_wp2_with (go_at_call 31; refine (isF_same q line (A (j + 1)) _ (HF.out.grown G1.out)).mono ?_; rintro e w' ⟨rfl, rfl⟩)
      go_ret
      exact ⟨by simp, G1.out⟩
    · obtain ⟨ca, ta, ha⟩ := E1.out.row h1 h2
      obtain ⟨cb, tb, hb⟩ := E1.out.row (k := j + 1) (by omega) (by omega)
      have HA := Lib.hid ha; have HB := Lib.hid hb
      have HNE := Lib.hid (E1.out.apart (j := k) (k := j + 1) h1 h2 (by omega) (by omega) (by omega))
      clear ha hb
      go_wp2_with (go_at_call 31; refine (isF_other q line (A k) (A (j + 1)) _ (HF.out.grown G1.out) _ _ _ _ HNE.out HA.out HB.out).mono ?_; rintro e w' ⟨rfl, rfl⟩)
      go_round
      case rel => exact ⟨j + 1, by omega, by go_num⟩
      case measure => simp [intOf]; omega
set_option maxRecDepth 100000 in
set_option maxHeartbeats 1000000 in
theorem lNumG (A : Nat → Addr) (k : Nat) (h1 : 1 ≤ k) (h2 : k ≤ 18) (q : Nat) (line : Int) (w : World) (hE : ErrEnv A w) (q2 : Nat) (line2 : Int) (h : FltAt w q line (fltV q2)) (hh : FltAt w q2 line2 (errV A k)) :
    Calls Tryd.prog 20 #[fltV q] w fun e w' => e = .returned (.int .i64 k) ∧ w.grownBy w' none := by
  have HE := Lib.hid hE
  rw [errV_ne (by omega)] at hh
  have HF := Lib.hid h
  have HG := Lib.hid hh
  clear h hh
  go_enter Tryd.func20, Tryd.ntmps20
  go_wp2_with fail
  refine (lAllErr A _ HE.out).mono ?_
  rintro e w1 ⟨b, rfl, hc, g1⟩
  have HC := Lib.hid hc; have G1 := Lib.hid g1
  have E1 := Lib.hid (HE.out.later (below_of_grown g1))
  clear hc g1
  go_wp2
  go_loop [9] (fun i => ∃ j : Nat, j < k ∧ i = .int .i64 j) (fun i => 18 - (intOf i).toNat)
  case atStart => exact ⟨0, by omega, rfl⟩
  case round =>
    obtain ⟨j, hj, rfl⟩ := hrel
    have hcell := HC.out j (by omega)
    by_cases hjk : j + 1 = k
    · subst hjk
      go_wp2_with (go_at_call 31; refine (isG_same q line (A (j + 1)) _ q2 line2 (HF.out.grown G1.out) (HG.out.grown G1.out)).mono ?_; rintro e w' ⟨rfl, rfl⟩)
      go_ret
      exact ⟨by simp, G1.out⟩
    · obtain ⟨ca, ta, ha⟩ := E1.out.row h1 h2
      obtain ⟨cb, tb, hb⟩ := E1.out.row (k := j + 1) (by omega) (by omega)
      have HA := Lib.hid ha; have HB := Lib.hid hb
      have HNE := Lib.hid (E1.out.apart (j := k) (k := j + 1) h1 h2 (by omega) (by omega) (by omega))
      clear ha hb
      go_wp2_with (go_at_call 31; refine (isG_other q line (A k) (A (j + 1)) _ q2 line2 (HF.out.grown G1.out) (HG.out.grown G1.out) _ _ _ _ HNE.out HA.out HB.out).mono ?_; rintro e w' ⟨rfl, rfl⟩)
      go_round
      case rel => exact ⟨j + 1, by omega, by go_num⟩
      case measure => simp [intOf]; omega
end Go.Proofs.YtigjmaicolgalaaDoor

/- errors.Is on the listed errors; package millwrightnum's number of an error. The number of an error. -/
import Derived.Test.YtliefnjhobdphaaDoorLaidErr
import Derived.LaidEql
import Derived.Stop.Asserts
import Derived.RowKitTokens
namespace Go.Proofs.YtliefnjhobdphaaDoor
open Go.RowKit Go.Extern.Stop Go.Stop Go.Extern

theorem isTypeOf (v : Value) (w : World) : (Extern.ReflectliteType.typeOf #[.iface 133 v]).run Tryd.prog w = .ok (.iface 103 (.agg #[.pointer (some ⟨20, 133, none⟩)])) w := by kernel_rfl
def isCompFn : Array Value → Sem Value := Extern.ReflectliteType.method fun t => do Extern.Rtype.noPackHeld "Comparable" t; pure (.bool (← typeInfo t).comparable)
theorem isComparable (w : World) : (isCompFn #[.agg #[.pointer (some ⟨20, 133, none⟩)]]).run Tryd.prog w = .ok (.bool true) w := by kernel_rfl
theorem isMethodComparable (v : Value) (w : World) : (Go.method 271 103 v "Comparable").run Tryd.prog w = .ok (111, v) w := by kernel_rfl
theorem isComp : (Tryd.prog.info? 133).map (·.comparable) = some true := by kernel_rfl
theorem isSize : (Tryd.prog.info? 159).map (·.size) = some 1 := by kernel_rfl
theorem noIsE (v : Value) (xT : TypeId) (w : World) : (Instr.typeAssert (.iface 133 v) xT 105 true).run Tryd.prog w = .ok (.tuple #[.nilIface, .bool false]) w := run_typeAssert_lacksB Tryd.underlying105 (by kernel_rfl) (by kernel_rfl) v xT w
theorem noUnwrapE (v : Value) (xT : TypeId) (w : World) : (Instr.typeAssert (.iface 133 v) xT 108 true).run Tryd.prog w = .ok (.tuple #[.nilIface, .bool false]) w := run_typeAssert_lacksB Tryd.underlying108 (by kernel_rfl) (by kernel_rfl) v xT w
theorem noUnwrapsE (v : Value) (xT : TypeId) (w : World) : (Instr.typeAssert (.iface 133 v) xT 110 true).run Tryd.prog w = .ok (.tuple #[.nilIface, .bool false]) w := run_typeAssert_lacksB Tryd.underlying110 (by kernel_rfl) (by kernel_rfl) v xT w

set_option maxRecDepth 100000 in
theorem is_same (a : Addr) (w : World) :
    Calls Tryd.prog 25 #[.iface 133 (.pointer (some a)), .iface 133 (.pointer (some a))] w fun e w' => e = .returned (.bool true) ∧ w = w' := by
  obtain ⟨i, hi, hcmp⟩ := Option.map_eq_some_iff.1 isComp
  obtain ⟨j, hj, hjs⟩ := Option.map_eq_some_iff.1 isSize
  have h8 := @run_callFunc_extern Tryd.prog 45 _ Extern.ReflectliteType.typeOf Tryd.func45 (by kernel_rfl) (by kernel_rfl) (by kernel_rfl) (by kernel_rfl)
  have h32 := @run_callFunc_extern Tryd.prog 111 _ isCompFn Tryd.func111 (by kernel_rfl) (by kernel_rfl) (by kernel_rfl) (by kernel_rfl)
  have tT := isTypeOf
  have cT := isComparable
  have mR := isMethodComparable
  have heq := run_eql_iface_ptr_same (P := Tryd.prog) w a Tryd.underlying25 Tryd.underlying133 hi hcmp hj
  go_enter Tryd.func25, Tryd.ntmps25
  go_wp2
  refine wp_loop_rounds 1 ?_
  rw [rounds_succ]
  go_wp2
  go_ret
  exact ⟨rfl, rfl⟩

set_option maxRecDepth 100000 in
theorem is_other (a b : Addr) (ca cb : Array Value) (ta tb : TypeId) (w : World) (hne : a ≠ b) (ha : w.heap[a.block]? = some (.cells ca ta (0, 0))) (hb : w.heap[b.block]? = some (.cells cb tb (0, 0))) :
    Calls Tryd.prog 25 #[.iface 133 (.pointer (some a)), .iface 133 (.pointer (some b))] w fun e w' => e = .returned (.bool false) ∧ w = w' := by
  obtain ⟨i, hi, hcmp⟩ := Option.map_eq_some_iff.1 isComp
  obtain ⟨j, hj, hjs⟩ := Option.map_eq_some_iff.1 isSize
  have h8 := @run_callFunc_extern Tryd.prog 45 _ Extern.ReflectliteType.typeOf Tryd.func45 (by kernel_rfl) (by kernel_rfl) (by kernel_rfl) (by kernel_rfl)
  have h32 := @run_callFunc_extern Tryd.prog 111 _ isCompFn Tryd.func111 (by kernel_rfl) (by kernel_rfl) (by kernel_rfl) (by kernel_rfl)
  have tT := isTypeOf
  have cT := isComparable
  have mR := isMethodComparable
  have nE := noIsE
  have uE := noUnwrapE
  have vE := noUnwrapsE
  have heq := run_eql_iface_ptr_other (P := Tryd.prog) w Tryd.underlying25 Tryd.underlying133 hi hcmp hj (by rw [hjs]; decide) hne ha hb
  go_enter Tryd.func25, Tryd.ntmps25
  go_wp2
  refine wp_loop_rounds 1 ?_
  rw [rounds_succ]
  go_wp2
  go_ret
  exact ⟨rfl, rfl⟩
end Go.Proofs.YtliefnjhobdphaaDoor

namespace Go.Proofs.YtliefnjhobdphaaDoor
open Go.RowKit

/-- the errors as they lie in memory, each another one -/
def ErrEnv (A : Nat → Addr) (w : World) : Prop := (∀ q ∈ allSn, SentAt A w q) ∧ ∀ q ∈ allSn, ∀ r ∈ allSn, q.num ≠ r.num → A q.num ≠ A r.num
theorem SentAt.later {A : Nat → Addr} {w w' : World} {q : Sn} (h : SentAt A w q) (hb : Below w.heap.size w w') : SentAt A w' q := by
  obtain ⟨h1, c, t, h2⟩ := h
  have hlt : (A q.num).block < w.heap.size := (Array.getElem?_eq_some_iff.1 h2).1
  exact ⟨(hb.cell (cell_block h1)).trans h1, c, t, (hb.block _ hlt).trans h2⟩
theorem ErrEnv.later {A : Nat → Addr} {w w' : World} (h : ErrEnv A w) (hb : Below w.heap.size w w') : ErrEnv A w' := ⟨fun q hq => (h.1 q hq).later hb, h.2⟩
theorem num_mem : ∀ k : Nat, 1 ≤ k → k ≤ 18 → ∃ q ∈ allSn, q.num = k := by
  intro k h1 h2
  have : ∀ j : Fin 18, ∃ q ∈ allSn, q.num = j.1 + 1 := by decide
  obtain ⟨q, hq, e⟩ := this ⟨k - 1, by omega⟩
  exact ⟨q, hq, by simp only at e; omega⟩
theorem ErrEnv.row {A : Nat → Addr} {w : World} (h : ErrEnv A w) {k : Nat} (h1 : 1 ≤ k) (h2 : k ≤ 18) : ∃ c t, w.heap[(A k).block]? = some (.cells c t (0, 0)) := by
  obtain ⟨q, hq, rfl⟩ := num_mem k h1 h2
  exact (h.1 q hq).2
theorem ErrEnv.apart {A : Nat → Addr} {w : World} (h : ErrEnv A w) {j k : Nat} (h1 : 1 ≤ j) (h2 : j ≤ 18) (h3 : 1 ≤ k) (h4 : k ≤ 18) (hne : j ≠ k) : A j ≠ A k := by
  obtain ⟨q, hq, rfl⟩ := num_mem j h1 h2
  obtain ⟨r, hr, rfl⟩ := num_mem k h3 h4
  exact h.2 q hq r hr hne

set_option maxRecDepth 100000 in
set_option maxHeartbeats 1000000 in
theorem lAllErr (A : Nat → Addr) (w : World) (h : ErrEnv A w) :
    Calls Tryd.prog 24 #[] w fun e w' => ∃ b, e = .returned (.slice (some ⟨b, 0, none⟩) 18 18) ∧ (∀ i, i < 18 → w'.cell? ⟨b, i, none⟩ = some (.iface 133 (.pointer (some (A (i + 1)))))) ∧ w.grownBy w' none := by
  have g1 := (h.1 ⟨1, _, _, _⟩ (List.mem_cons_self ..)).1
  have gs : ∀ q ∈ allSn, w.cell? ⟨q.g, 0, none⟩ = some (.iface 133 (.pointer (some (A q.num)))) := fun q hq => (h.1 q hq).1
  have GS := Lib.hid gs
  clear gs g1 h
  unfold allSn at GS
  have gs := GS.out
  simp only [List.forall_mem_cons, List.not_mem_nil, false_implies, implies_true, and_true] at gs
  obtain ⟨h1, h2, h3, h4, h5, h6, h7, h8, h9, h10, h11, h12, h13, h14, h15, h16, h17, h18⟩ := gs
  clear GS
  go_enter Tryd.func24, Tryd.ntmps24
  go_wp2
  go_ret
  refine ⟨_, rfl, fun i hi => ?_, World.grownBy_alloc _ _ _⟩
  match i, hi with
  | 0, _ => go_simp
  | 1, _ => go_simp
  | 2, _ => go_simp
  | 3, _ => go_simp
  | 4, _ => go_simp
  | 5, _ => go_simp
  | 6, _ => go_simp
  | 7, _ => go_simp
  | 8, _ => go_simp
  | 9, _ => go_simp
  | 10, _ => go_simp
  | 11, _ => go_simp
  | 12, _ => go_simp
  | 13, _ => go_simp
  | 14, _ => go_simp
  | 15, _ => go_simp
  | 16, _ => go_simp
  | 17, _ => go_simp
  | n + 18, h => exact absurd h (by omega)

set_option maxRecDepth 100000 in
set_option maxHeartbeats 1000000 in
theorem lNum (A : Nat → Addr) (k : Nat) (h1 : 1 ≤ k) (h2 : k ≤ 18) (w : World) (h : ErrEnv A w) :
    Calls Tryd.prog 9 #[.iface 133 (.pointer (some (A k)))] w fun e w' => e = .returned (.int .i64 k) ∧ w.grownBy w' none := by
  have HE := Lib.hid h
  clear h
  go_enter Tryd.func9, Tryd.ntmps9
  go_wp2_with fail
  refine (lAllErr A _ HE.out).mono ?_
  rintro e w1 ⟨b, rfl, hc, g1⟩
  have HC := Lib.hid hc; have G1 := Lib.hid g1
  have E1 := Lib.hid (HE.out.later (below_of_grown g1))
  clear hc g1
  go_wp2
  go_loop [9] (fun i => ∃ j : Nat, j < k ∧ i = .int .i64 j) (fun i => 18 - (intOf i).toNat)
  case atStart => exact ⟨0, by omega, rfl⟩
  case round =>
    obtain ⟨j, hj, rfl⟩ := hrel
    have hcell := HC.out j (by omega)
    by_cases hjk : j + 1 = k
    · subst hjk
      go_wp2_with (go_at_call 25; refine (is_same (A (j + 1)) _).mono ?_; rintro e w' ⟨rfl, rfl⟩)
      go_ret
      exact ⟨by simp, G1.out⟩
    · obtain ⟨ca, ta, ha⟩ := E1.out.row h1 h2
      obtain ⟨cb, tb, hb⟩ := E1.out.row (k := j + 1) (by omega) (by omega)
      have HA := Lib.hid ha; have HB := Lib.hid hb
      have HNE := Lib.hid (E1.out.apart (j := k) (k := j + 1) h1 h2 (by omega) (by omega) (by omega))
      clear ha hb
      go_wp2_with (go_at_call 25; refine (is_other (A k) (A (j + 1)) _ _ _ _ _ HNE.out HA.out HB.out).mono ?_; rintro e w' ⟨rfl, rfl⟩)
      go_round
      case rel => exact ⟨j + 1, by omega, by go_num⟩
      case measure => simp [intOf]; omega

set_option maxRecDepth 100000 in
set_option maxHeartbeats 1000000 in
theorem lNum0 (w : World) : Calls Tryd.prog 9 #[.nilIface] w fun e w' => e = .returned (.int .i64 0) ∧ w.grownBy w' none := by
  go_enter Tryd.func9, Tryd.ntmps9
  go_wp2
  go_ret
  exact ⟨rfl, World.grownBy.refl _ _⟩
/-- the number of an error, whichever it is -/
theorem lNumV (A : Nat → Addr) (k : Nat) (h2 : k ≤ 18) (w : World) (h : ErrEnv A w) :
    Calls Tryd.prog 9 #[errV A k] w fun e w' => e = .returned (.int .i64 k) ∧ w.grownBy w' none := by
  rcases Nat.eq_zero_or_pos k with rfl | hk
  · exact lNum0 w
  · rw [errV_ne (by omega)]; exact lNum A k hk h2 w h
end Go.Proofs.YtliefnjhobdphaaDoor

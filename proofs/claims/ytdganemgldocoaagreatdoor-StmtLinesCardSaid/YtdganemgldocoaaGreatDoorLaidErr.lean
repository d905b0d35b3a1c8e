/- What the listed variables hold when a law begins: the errors; a world in which they do. A world in which listed variables hold what is listed: errors, and plain tables. errors.Is on the listed errors; package millwrightnum's number of an error. The number of an error. -/
import Derived.Test.YtdganemgldocoaaGreatDoorGrown
import Derived.ChangeSame
import Derived.ChangeVars
import Derived.JoinedOf
import Derived.RowKit
import Derived.RowKitTokens
import Derived.LaidLaws
import Derived.Stop.Joined
import Derived.Stop.LaidErr
import Derived.MakeChecks
import Derived.Deep.DeepLaidRun
import Derived.Deep.Slices
import Derived.LaidSub
import Derived.LaidEql
import Derived.Stop.Asserts
namespace Go.Proofs.YtdganemgldocoaaGreatDoor
open Go.RowKit Go.Maps Go.ChangeShapes Go.WideShapes Go.Deep

theorem ifaceErr : ∃ ms, Tryz.prog.underlying 25 = some (.interface ms) := ⟨_, Tryz.underlying25⟩
theorem cellsErr : Tryz.prog.cellsOf 222 = 1 := by kernel_rfl
theorem cellsStr : Tryz.prog.cellsOf 9 = 1 := by kernel_rfl
theorem cellsInt : Tryz.prog.cellsOf 3 = 1 := by kernel_rfl
theorem starErr : "*" ++ "errors.errorString" = "*errors.errorString" := by decide
theorem rowErr (u : TypeId) (h : Tryz.prog.typeName? 3 u = some "*errors.errorString") : u = 202 :=
  typeName_ptr_named (nm := "errors.errorString") (by rw [starErr]; kernel_rfl) (by kernel_rfl) (by decide) u (by rw [starErr]; exact h)

/-- a listed error: its number, its variable's name and number, its text -/
structure Sn where
  num : Nat
  name : String
  g : Nat
  text : List UInt8
def Sn.laid (q : Sn) : String × DataW Unit := (q.name, .iface "*errors.errorString" (.ptr (.agg [.lit (.string q.text)])))
/-- the variable is of that name, and of type error -/
def Sn.ok (q : Sn) : Prop := Tryz.prog.globalNamed q.name = some q.g ∧ (Tryz.prog.globals[q.g]?).map (·.type) = some 25
/-- the variable holds the error of its number, whose cells can't be written -/
def SentAt (A : Nat → Addr) (W : World) (q : Sn) : Prop :=
  W.cell? ⟨q.g, 0, none⟩ = some (.iface 202 (.pointer (some (A q.num)))) ∧ ∃ c t, W.heap[(A q.num).block]? = some (.cells c t (0, 0))

set_option maxRecDepth 100000 in
theorem laid_go {W : World} : ∀ (L : List Sn) (ps : List MemPlace), DataW.LaidVars Tryz.prog W (L.map Sn.laid) ps →
    (∀ b off, MemPlace.cell b off ∈ ps → (∃ c t, W.heap[b]? = some (.cells c t (0, 0))) ∧ ∀ u v, W.cell? ⟨b, off, none⟩ = some (.iface u v) → Value.okWide Tryz.prog W .any 0 u v) →
    ps.Nodup → (L.map Sn.num).Nodup → (∀ q ∈ L, q.ok) →
    ∃ A : Nat → Addr, (∀ q ∈ L, SentAt A W q) ∧ (∀ q ∈ L, MemPlace.cell (A q.num).block (A q.num).off ∈ ps) ∧ ∀ q ∈ L, ∀ r ∈ L, q.num ≠ r.num → A q.num ≠ A r.num
  | [], ps, _, _, _, _, _ => ⟨fun _ => ⟨0, 0, none⟩, by simp, by simp, by simp⟩
  | q :: L, ps, h, hrows, hnd, hnum, hok => by
    obtain ⟨g, t, cs, fuel, p, ps', hg, ht, hv, hd, hr, rfl⟩ := h
    obtain ⟨hg', ht'⟩ := hok q (by simp)
    obtain rfl := Option.some.inj (hg'.symm.trans hg)
    obtain rfl := Option.some.inj (ht'.symm.trans ht)
    obtain ⟨l0⟩ := cs
    have ok0 : ∀ u v, l0 = [.iface u v] → Value.okWide Tryz.prog W .any 0 u v := fun u v e => by
      subst e
      exact (hrows q.g 0 (by simp [MemPlace.row])).2 u v (by simpa using World.var?_cell hg' hv 0)
    obtain ⟨a, s, rfl, hc, hs, hz, rfl⟩ := errorString_of_trod Tryz.underlying25 rowErr Tryz.underlying202 Tryz.underlying222 rfl rfl Tryz.underlying9 cellsErr cellsStr hd ok0
    have hcell : W.cell? ⟨q.g, 0, none⟩ = some (.iface 202 (.pointer (some a))) := by simpa using World.var?_cell hg' hv 0
    have hin : MemPlace.cell a.block a.off ∈ MemPlace.row a 1 := by simp [MemPlace.row]
    have hrow := (hrows a.block a.off (List.mem_append_left _ (List.mem_append_right _ hin))).1
    obtain ⟨hnq, hnl⟩ := List.nodup_cons.1 hnum
    obtain ⟨_, hnd2, hdis⟩ := List.nodup_append.1 hnd
    obtain ⟨A, h1, h2, h3⟩ := laid_go L ps' hr (fun b off hm => hrows b off (List.mem_append_right _ hm)) hnd2 hnl (fun r hr => hok r (by simp [hr]))
    have hne : ∀ r ∈ L, r.num ≠ q.num := fun r hr e => hnq (e ▸ List.mem_map_of_mem hr)
    have hapart : ∀ r ∈ L, a ≠ A r.num := fun r hr e => by
      have m1 : MemPlace.cell a.block a.off ∈ ps' := by rw [e]; exact h2 r hr
      exact hdis _ (List.mem_append_right _ hin) _ m1 rfl
    obtain ⟨A', e1, e2⟩ : ∃ A' : Nat → Addr, A' q.num = a ∧ ∀ r ∈ L, A' r.num = A r.num :=
      ⟨fun n => if n = q.num then a else A n, if_pos rfl, fun r hr => if_neg (hne r hr)⟩
    refine ⟨A', fun r hr => ?_, fun r hr => ?_, fun r hr r' hr' hn => ?_⟩
    · rcases List.mem_cons.1 hr with h | h
      · rw [h]; unfold SentAt; rw [e1]; exact ⟨hcell, hrow⟩
      · unfold SentAt; rw [e2 r h]; exact h1 r h
    · rcases List.mem_cons.1 hr with h | h
      · rw [h, e1]; exact List.mem_append_left _ (List.mem_append_right _ hin)
      · rw [e2 r h]; exact List.mem_append_right _ (h2 r h)
    · rcases List.mem_cons.1 hr with h | h <;> rcases List.mem_cons.1 hr' with h' | h'
      · exact absurd (by rw [h, h']) hn
      · rw [h, e1, e2 r' h']; exact hapart r' h'
      · rw [h', e1, e2 r h]; exact (hapart r h).symm
      · rw [e2 r h, e2 r' h']; exact h3 r h r' h' hn

def allSn : List Sn := [⟨1, "millwright/api.ErrRange", 3, [97, 32, 110, 117, 109, 98, 101, 114, 32, 105, 115, 32, 111, 117, 116, 32, 111, 102, 32, 105, 116, 115, 32, 114, 97, 110, 103, 101]⟩,
  ⟨2, "millwright/api.ErrLong", 0, [116, 104, 101, 114, 101, 32, 105, 115, 32, 109, 111, 114, 101, 32, 116, 104, 97, 110, 32, 109, 97, 121, 32, 98, 101]⟩,
  ⟨3, "millwright/api.ErrForm", 1, [105, 116, 32, 105, 115, 32, 110, 111, 116, 32, 111, 102, 32, 105, 116, 115, 32, 102, 111, 114, 109]⟩,
  ⟨4, "millwright/api.ErrName", 4, [105, 116, 32, 105, 115, 32, 110, 111, 32, 114, 105, 103, 104, 116, 32, 110, 97, 109, 101]⟩,
  ⟨5, "millwright/api.ErrQuote", 5, [97, 32, 113, 117, 111, 116, 101, 32, 104, 97, 115, 32, 110, 111, 32, 101, 110, 100]⟩,
  ⟨6, "millwright/api.ErrRegex", 6, [105, 116, 32, 105, 115, 32, 110, 111, 32, 114, 101, 103, 117, 108, 97, 114, 32, 101, 120, 112, 114, 101, 115, 115, 105, 111, 110]⟩,
  ⟨7, "millwright/api.ErrAttr", 7, [105, 116, 32, 105, 115, 32, 110, 111, 32, 97, 116, 116, 114, 105, 98, 117, 116, 101]⟩,
  ⟨8, "millwright/api.ErrNone", 8, [116, 104, 101, 114, 101, 32, 105, 115, 32, 110, 111, 110, 101]⟩,
  ⟨9, "millwright/api.ErrDup", 9, [105, 116, 32, 105, 115, 32, 116, 104, 101, 114, 101, 32, 97, 108, 114, 101, 97, 100, 121]⟩,
  ⟨10, "millwright/api.ErrFull", 10, [116, 104, 101, 114, 101, 32, 105, 115, 32, 110, 111, 32, 109, 111, 114, 101, 32, 114, 111, 111, 109]⟩,
  ⟨11, "millwright/api.ErrDepth", 11, [105, 116, 32, 103, 111, 101, 115, 32, 116, 111, 111, 32, 100, 101, 101, 112]⟩,
  ⟨12, "millwright/api.ErrCycle", 12, [105, 116, 32, 108, 101, 97, 100, 115, 32, 98, 97, 99, 107, 32, 116, 111, 32, 105, 116, 115, 101, 108, 102]⟩,
  ⟨13, "millwright/api.ErrAmbig", 13, [116, 104, 101, 114, 101, 32, 97, 114, 101, 32, 115, 101, 118, 101, 114, 97, 108, 32, 119, 97, 121, 115, 32, 116, 111, 32, 109, 97, 107, 101, 32, 105, 116]⟩,
  ⟨14, "millwright/api.ErrState", 14, [105, 116, 32, 99, 97, 110, 32, 110, 111, 116, 32, 98, 101, 32, 100, 111, 110, 101, 32, 105, 110, 32, 116, 104, 105, 115, 32, 115, 116, 97, 116, 101]⟩,
  ⟨15, "millwright/api.ErrFail", 15, [97, 32, 114, 101, 99, 105, 112, 101, 32, 102, 97, 105, 108, 101, 100]⟩,
  ⟨16, "millwright/api.ErrFlag", 16, [105, 116, 32, 105, 115, 32, 110, 111, 32, 102, 108, 97, 103]⟩,
  ⟨17, "millwright/api.ErrKind", 17, [105, 116, 32, 105, 115, 32, 111, 102, 32, 97, 110, 111, 116, 104, 101, 114, 32, 107, 105, 110, 100]⟩,
  ⟨18, "millwright/api.ErrLost", 18, [110, 111, 98, 111, 100, 121, 32, 107, 110, 111, 119, 115, 32, 104, 111, 119, 32, 116, 111, 32, 109, 97, 107, 101, 32, 105, 116]⟩]
noncomputable def Sn.okB (q : Sn) : Bool := Tryz.prog.globalNamed q.name == some q.g && (Tryz.prog.globals[q.g]?).map (·.type) == some 25
theorem all_ok : allSn.all Sn.okB = true := by kernel_rfl
theorem allSn_ok : ∀ q ∈ allSn, q.ok := fun q hq => by
  have := List.all_eq_true.1 all_ok q hq
  unfold Sn.okB at this
  rw [Bool.and_eq_true, beq_iff_eq, beq_iff_eq] at this
  exact this

theorem sents_of_laid {W : World} {L : List Sn} (hnum : (L.map Sn.num).Nodup) (hok : ∀ q ∈ L, q.ok) (h : laidMet Tryz.prog (L.map Sn.laid) W) :
    ∃ A : Nat → Addr, (∀ q ∈ L, SentAt A W q) ∧ ∀ q ∈ L, ∀ r ∈ L, q.num ≠ r.num → A q.num ≠ A r.num := by
  obtain ⟨ps, hv, hnd, hrows⟩ := h
  obtain ⟨A, h1, _, h3⟩ := laid_go L ps hv hrows hnd hnum hok
  exact ⟨A, h1, h3⟩
noncomputable def low : Nat := (World.holding Tryz.prog default ⟨#[], #[], []⟩).heap.size
/-- a world in which the listed variables hold their errors -/
noncomputable def laidWorld (L : List Sn) (os : Os) : World :=
  let w0 := World.holding Tryz.prog os ⟨(L.map fun q => Obj.cells #[.string ⟨q.text.toArray⟩] 222).toArray, #[], []⟩
  { w0 with heap := (L.zipIdx.foldl (fun (h : Array Obj) (x : Sn × Nat) => h.modify x.1.g fun
      | .cells _ t frozen => .cells #[.iface 202 (.pointer (some ⟨low + x.2, 0, none⟩))] t frozen
      | o => o) w0.heap) }
end Go.Proofs.YtdganemgldocoaaGreatDoor

namespace Go.Proofs.YtdganemgldocoaaGreatDoor
open Go.RowKit Go.Maps Go.ChangeShapes Go.WideShapes Go.Deep

/-- a datum's cells, where it is plain -/
def cellsD : Nat → DataW Unit → List Value
  | n + 1, .agg ds => ds.flatMap (cellsD n)
  | _ + 1, .lit (.int k i) => [.int k i]
  | _ + 1, .lit (.string l) => [.string ⟨l.toArray⟩]
  | _ + 1, .lit (.bool b) => [.bool b]
  | _, _ => []
/-- what lies behind a listed error -/
def boxD : DataW Unit → List Value
  | .iface _ (.ptr d) => cellsD 4 d
  | _ => []
def isBox : DataW Unit → Bool
  | .iface _ (.ptr _) => true
  | _ => false
/-- a world in which all listed variables hold what is listed: tables, and errors -/
noncomputable def laidWorldX (L : List (String × DataW Unit)) (os : Os) : World :=
  let w0 := World.holding Tryz.prog os ⟨((L.filter fun x => isBox x.2).map fun x => Obj.cells (boxD x.2).toArray 222).toArray, #[], []⟩
  { w0 with heap := (L.foldl (fun (h : Array Obj × Nat) (x : String × DataW Unit) => match Tryz.prog.globalNamed x.1 with
      | some g => if isBox x.2 then (h.1.modify g fun
          | .cells _ t frozen => .cells #[.iface 202 (.pointer (some ⟨low + h.2, 0, none⟩))] t frozen
          | o => o, h.2 + 1) else (h.1.modify g fun
          | .cells _ t frozen => .cells (cellsD 4 x.2).toArray t frozen
          | o => o, h.2)
      | none => h) (w0.heap, 0)).1 }
end Go.Proofs.YtdganemgldocoaaGreatDoor

namespace Go.Proofs.YtdganemgldocoaaGreatDoor
open Go.RowKit Go.Extern.Stop Go.Stop Go.Extern

theorem isTypeOf (v : Value) (w : World) : (Extern.ReflectliteType.typeOf #[.iface 202 v]).run Tryz.prog w = .ok (.iface 146 (.agg #[.pointer (some ⟨23, 202, none⟩)])) w := by kernel_rfl
def isCompFn : Array Value → Sem Value := Extern.ReflectliteType.method fun t => do Extern.Rtype.noPackHeld "Comparable" t; pure (.bool (← typeInfo t).comparable)
theorem isComparable (w : World) : (isCompFn #[.agg #[.pointer (some ⟨23, 202, none⟩)]]).run Tryz.prog w = .ok (.bool true) w := by kernel_rfl
theorem isMethodComparable (v : Value) (w : World) : (Go.method 333 146 v "Comparable").run Tryz.prog w = .ok (163, v) w := by kernel_rfl
theorem isComp : (Tryz.prog.info? 202).map (·.comparable) = some true := by kernel_rfl
theorem isSize : (Tryz.prog.info? 222).map (·.size) = some 1 := by kernel_rfl
theorem noIsE (v : Value) (xT : TypeId) (w : World) : (Instr.typeAssert (.iface 202 v) xT 156 true).run Tryz.prog w = .ok (.tuple #[.nilIface, .bool false]) w := run_typeAssert_lacksB Tryz.underlying156 (by kernel_rfl) (by kernel_rfl) v xT w
theorem noUnwrapE (v : Value) (xT : TypeId) (w : World) : (Instr.typeAssert (.iface 202 v) xT 153 true).run Tryz.prog w = .ok (.tuple #[.nilIface, .bool false]) w := run_typeAssert_lacksB Tryz.underlying153 (by kernel_rfl) (by kernel_rfl) v xT w
theorem noUnwrapsE (v : Value) (xT : TypeId) (w : World) : (Instr.typeAssert (.iface 202 v) xT 155 true).run Tryz.prog w = .ok (.tuple #[.nilIface, .bool false]) w := run_typeAssert_lacksB Tryz.underlying155 (by kernel_rfl) (by kernel_rfl) v xT w

set_option maxRecDepth 100000 in
theorem is_same (a : Addr) (w : World) :
    Calls Tryz.prog 33 #[.iface 202 (.pointer (some a)), .iface 202 (.pointer (some a))] w fun e w' => e = .returned (.bool true) ∧ w = w' := by
  obtain ⟨i, hi, hcmp⟩ := Option.map_eq_some_iff.1 isComp
  obtain ⟨j, hj, hjs⟩ := Option.map_eq_some_iff.1 isSize
  have h8 := @run_callFunc_extern Tryz.prog 55 _ Extern.ReflectliteType.typeOf Tryz.func55 (by kernel_rfl) (by kernel_rfl) (by kernel_rfl) (by kernel_rfl)
  have h32 := @run_callFunc_extern Tryz.prog 163 _ isCompFn Tryz.func163 (by kernel_rfl) (by kernel_rfl) (by kernel_rfl) (by kernel_rfl)
  have tT := isTypeOf
  have cT := isComparable
  have mR := isMethodComparable
  have heq := run_eql_iface_ptr_same (P := Tryz.prog) w a Tryz.underlying25 Tryz.underlying202 hi hcmp hj
  go_enter Tryz.func33, Tryz.ntmps33
  go_wp2
  refine wp_loop_rounds 1 ?_
  rw [rounds_succ]
  go_wp2
  go_ret
  exact ⟨rfl, rfl⟩

set_option maxRecDepth 100000 in
theorem is_other (a b : Addr) (ca cb : Array Value) (ta tb : TypeId) (w : World) (hne : a ≠ b) (ha : w.heap[a.block]? = some (.cells ca ta (0, 0))) (hb : w.heap[b.block]? = some (.cells cb tb (0, 0))) :
    Calls Tryz.prog 33 #[.iface 202 (.pointer (some a)), .iface 202 (.pointer (some b))] w fun e w' => e = .returned (.bool false) ∧ w = w' := by
  obtain ⟨i, hi, hcmp⟩ := Option.map_eq_some_iff.1 isComp
  obtain ⟨j, hj, hjs⟩ := Option.map_eq_some_iff.1 isSize
  have h8 := @run_callFunc_extern Tryz.prog 55 _ Extern.ReflectliteType.typeOf Tryz.func55 (by kernel_rfl) (by kernel_rfl) (by kernel_rfl) (by kernel_rfl)
  have h32 := @run_callFunc_extern Tryz.prog 163 _ isCompFn Tryz.func163 (by kernel_rfl) (by kernel_rfl) (by kernel_rfl) (by kernel_rfl)
  have tT := isTypeOf
  have cT := isComparable
  have mR := isMethodComparable
  have nE := noIsE
  have uE := noUnwrapE
  have vE := noUnwrapsE
  have heq := run_eql_iface_ptr_other (P := Tryz.prog) w Tryz.underlying25 Tryz.underlying202 hi hcmp hj (by rw [hjs]; decide) hne ha hb
  go_enter Tryz.func33, Tryz.ntmps33
  go_wp2
  refine wp_loop_rounds 1 ?_
  rw [rounds_succ]
  go_wp2
  go_ret
  exact ⟨rfl, rfl⟩
end Go.Proofs.YtdganemgldocoaaGreatDoor

namespace Go.Proofs.YtdganemgldocoaaGreatDoor
open Go.RowKit

/-- the errors as they lie in memory, each another one -/
def ErrEnv (A : Nat → Addr) (w : World) : Prop := (∀ q ∈ allSn, SentAt A w q) ∧ ∀ q ∈ allSn, ∀ r ∈ allSn, q.num ≠ r.num → A q.num ≠ A r.num
theorem SentAt.later {A : Nat → Addr} {w w' : World} {q : Sn} (h : SentAt A w q) (hb : Below w.heap.size w w') : SentAt A w' q := by
  obtain ⟨h1, c, t, h2⟩ := h
  have hlt : (A q.num).block < w.heap.size := (Array.getElem?_eq_some_iff.1 h2).1
  exact ⟨(hb.cell (cell_block h1)).trans h1, c, t, (hb.block _ hlt).trans h2⟩
theorem ErrEnv.later {A : Nat → Addr} {w w' : World} (h : ErrEnv A w) (hb : Below w.heap.size w w') : ErrEnv A w' := ⟨fun q hq => (h.1 q hq).later hb, h.2⟩
theorem num_mem : ∀ k : Nat, 1 ≤ k → k ≤ 18 → ∃ q ∈ allSn, q.num = k := by
  intro k h1 h2
  have : ∀ j : Fin 18, ∃ q ∈ allSn, q.num = j.1 + 1 := by decide
  obtain ⟨q, hq, e⟩ := this ⟨k - 1, by omega⟩
  exact ⟨q, hq, by simp only at e; omega⟩
theorem ErrEnv.row {A : Nat → Addr} {w : World} (h : ErrEnv A w) {k : Nat} (h1 : 1 ≤ k) (h2 : k ≤ 18) : ∃ c t, w.heap[(A k).block]? = some (.cells c t (0, 0)) := by
  obtain ⟨q, hq, rfl⟩ := num_mem k h1 h2
  exact (h.1 q hq).2
theorem ErrEnv.apart {A : Nat → Addr} {w : World} (h : ErrEnv A w) {j k : Nat} (h1 : 1 ≤ j) (h2 : j ≤ 18) (h3 : 1 ≤ k) (h4 : k ≤ 18) (hne : j ≠ k) : A j ≠ A k := by
  obtain ⟨q, hq, rfl⟩ := num_mem j h1 h2
  obtain ⟨r, hr, rfl⟩ := num_mem k h3 h4
  exact h.2 q hq r hr hne

set_option maxRecDepth 100000 in
set_option maxHeartbeats 1000000 in
theorem lAllErr (A : Nat → Addr) (w : World) (h : ErrEnv A w) :
    Calls Tryz.prog 32 #[] w fun e w' => ∃ b, e = .returned (.slice (some ⟨b, 0, none⟩) 18 18) ∧ (∀ i, i < 18 → w'.cell? ⟨b, i, none⟩ = some (.iface 202 (.pointer (some (A (i + 1)))))) ∧ w.grownBy w' none := by
  have g1 := (h.1 ⟨1, _, _, _⟩ (List.mem_cons_self ..)).1
  have gs : ∀ q ∈ allSn, w.cell? ⟨q.g, 0, none⟩ = some (.iface 202 (.pointer (some (A q.num)))) := fun q hq => (h.1 q hq).1
  have GS := Lib.hid gs
  clear gs g1 h
  unfold allSn at GS
  have gs := GS.out
  simp only [List.forall_mem_cons, List.not_mem_nil, false_implies, implies_true, and_true] at gs
  obtain ⟨h1, h2, h3, h4, h5, h6, h7, h8, h9, h10, h11, h12, h13, h14, h15, h16, h17, h18⟩ := gs
  clear GS
  go_enter Tryz.func32, Tryz.ntmps32
  go_wp2
  go_ret
  refine ⟨_, rfl, fun i hi => ?_, World.grownBy_alloc _ _ _⟩
  match i, hi with
  | 0, _ => go_simp
  | 1, _ => go_simp
  | 2, _ => go_simp
  | 3, _ => go_simp
  | 4, _ => go_simp
  | 5, _ => go_simp
  | 6, _ => go_simp
  | 7, _ => go_simp
  | 8, _ => go_simp
  | 9, _ => go_simp
  | 10, _ => go_simp
  | 11, _ => go_simp
  | 12, _ => go_simp
  | 13, _ => go_simp
  | 14, _ => go_simp
  | 15, _ => go_simp
  | 16, _ => go_simp
  | 17, _ => go_simp
  | n + 18, h => exact absurd h (by omega)

set_option maxRecDepth 100000 in
set_option maxHeartbeats 1000000 in
theorem lNum (A : Nat → Addr) (k : Nat) (h1 : 1 ≤ k) (h2 : k ≤ 18) (w : World) (h : ErrEnv A w) :
    Calls Tryz.prog 17 #[.iface 202 (.pointer (some (A k)))] w fun e w' => e = .returned (.int .i64 k) ∧ w.grownBy w' none := by
  have HE := Lib.hid h
  clear h
  go_enter Tryz.func17, Tryz.ntmps17
  go_wp2_with fail
  refine (lAllErr A _ HE.out).mono ?_
  rintro e w1 ⟨b, rfl, hc, g1⟩
  have HC := Lib.hid hc; have G1 := Lib.hid g1
  have E1 := Lib.hid (HE.out.later (below_of_grown g1))
  clear hc g1
  go_wp2
  go_loop [9] (fun i => ∃ j : Nat, j < k ∧ i = .int .i64 j) (fun i => 18 - (intOf i).toNat)
  case atStart => exact ⟨0, by omega, rfl⟩
  case round =>
    obtain ⟨j, hj, rfl⟩ := hrel
    have hcell := HC.out j (by omega)
    by_cases hjk : j + 1 = k
    · subst hjk
      go_wp2_with (go_at_call 33; refine (is_same (A (j + 1)) _).mono ?_; rintro e w' ⟨rfl, rfl⟩)
      go_ret
      exact ⟨by simp, G1.out⟩
    · obtain ⟨ca, ta, ha⟩ := E1.out.row h1 h2
      obtain ⟨cb, tb, hb⟩ := E1.out.row (k := j + 1) (by omega) (by omega)
      have HA := Lib.hid ha; have HB := Lib.hid hb
      have HNE := Lib.hid (E1.out.apart (j := k) (k := j + 1) h1 h2 (by omega) (by omega) (by omega))
      clear ha hb
      go_wp2_with (go_at_call 33; refine (is_other (A k) (A (j + 1)) _ _ _ _ _ HNE.out HA.out HB.out).mono ?_; rintro e w' ⟨rfl, rfl⟩)
      go_round
      case rel => exact ⟨j + 1, by omega, by go_num⟩
      case measure => simp [intOf]; omega

set_option maxRecDepth 100000 in
set_option maxHeartbeats 1000000 in
theorem lNum0 (w : World) : Calls Tryz.prog 17 #[.nilIface] w fun e w' => e = .returned (.int .i64 0) ∧ w.grownBy w' none := by
  go_enter Tryz.func17, Tryz.ntmps17
  go_wp2
  go_ret
  exact ⟨rfl, World.grownBy.refl _ _⟩
/-- the number of an error, whichever it is -/
theorem lNumV (A : Nat → Addr) (k : Nat) (h2 : k ≤ 18) (w : World) (h : ErrEnv A w) :
    Calls Tryz.prog 17 #[errV A k] w fun e w' => e = .returned (.int .i64 k) ∧ w.grownBy w' none := by
  rcases Nat.eq_zero_or_pos k with rfl | hk
  · exact lNum0 w
  · rw [errV_ne (by omega)]; exact lNum A k hk h2 w h
end Go.Proofs.YtdganemgldocoaaGreatDoor

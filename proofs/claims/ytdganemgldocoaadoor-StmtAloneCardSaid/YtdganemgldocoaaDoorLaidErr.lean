/- What the listed variables hold when a law begins: the errors; a world in which they do. A world in which listed variables hold what is listed: errors, and plain tables. errors.Is on the listed errors; package millwrightnum's number of an error. The number of an error. -/
import Derived.Test.YtdganemgldocoaaDoorGrown
import Derived.ChangeSame
import Derived.ChangeVars
import Derived.JoinedOf
import Derived.RowKit
import Derived.RowKitTokens
import Derived.LaidLaws
import Derived.Stop.Joined
import Derived.Stop.LaidErr
import Derived.MakeChecks
import Derived.Deep.DeepLaidRun
import Derived.Deep.Slices
import Derived.LaidSub
import Derived.LaidEql
import Derived.Stop.Asserts
namespace Go.Proofs.YtdganemgldocoaaDoor
open Go.RowKit Go.Maps Go.ChangeShapes Go.WideShapes Go.Deep

theorem ifaceErr : ∃ ms, Tryd.prog.underlying 25 = some (.interface ms) := ⟨_, Tryd.underlying25⟩
theorem cellsErr : Tryd.prog.cellsOf 151 = 1 := by kernel_rfl
theorem cellsStr : Tryd.prog.cellsOf 9 = 1 := by kernel_rfl
theorem cellsInt : Tryd.prog.cellsOf 3 = 1 := by kernel_rfl
theorem starErr : "*" ++ "errors.errorString" = "*errors.errorString" := by decide
theorem rowErr (u : TypeId) (h : Tryd.prog.typeName? 3 u = some "*errors.errorString") : u = 135 :=
  typeName_ptr_named (nm := "errors.errorString") (by rw [starErr]; kernel_rfl) (by kernel_rfl) (by decide) u (by rw [starErr]; exact h)

/-- a listed error: its number, its variable's name and number, its text -/
structure Sn where
  num : Nat
  name : String
  g : Nat
  text : List UInt8
def Sn.laid (q : Sn) : String × DataW Unit := (q.name, .iface "*errors.errorString" (.ptr (.agg [.lit (.string q.text)])))
/-- the variable is of that name, and of type error -/
def Sn.ok (q : Sn) : Prop := Tryd.prog.globalNamed q.name = some q.g ∧ (Tryd.prog.globals[q.g]?).map (·.type) = some 25
/-- the variable holds the error of its number, whose cells can't be written -/
def SentAt (A : Nat → Addr) (W : World) (q : Sn) : Prop :=
  W.cell? ⟨q.g, 0, none⟩ = some (.iface 135 (.pointer (some (A q.num)))) ∧ ∃ c t, W.heap[(A q.num).block]? = some (.cells c t (0, 0))

set_option maxRecDepth 100000 in
theorem laid_go {W : World} : ∀ (L : List Sn) (ps : List MemPlace), DataW.LaidVars Tryd.prog W (L.map Sn.laid) ps →
    (∀ b off, MemPlace.cell b off ∈ ps → (∃ c t, W.heap[b]? = some (.cells c t (0, 0))) ∧ ∀ u v, W.cell? ⟨b, off, none⟩ = some (.iface u v) → Value.okWide Tryd.prog W .any 0 u v) →
    ps.Nodup → (L.map Sn.num).Nodup → (∀ q ∈ L, q.ok) →
    ∃ A : Nat → Addr, (∀ q ∈ L, SentAt A W q) ∧ (∀ q ∈ L, MemPlace.cell (A q.num).block (A q.num).off ∈ ps) ∧ ∀ q ∈ L, ∀ r ∈ L, q.num ≠ r.num → A q.num ≠ A r.num
  | [], ps, _, _, _, _, _ => ⟨fun _ => ⟨0, 0, none⟩, by simp, by simp, by simp⟩
  | q :: L, ps, h, hrows, hnd, hnum, hok => by
    obtain ⟨g, t, cs, fuel, p, ps', hg, ht, hv, hd, hr, rfl⟩ := h
    obtain ⟨hg', ht'⟩ := hok q (by simp)
    obtain rfl := Option.some.inj (hg'.symm.trans hg)
    obtain rfl := Option.some.inj (ht'.symm.trans ht)
    obtain ⟨l0⟩ := cs
    have ok0 : ∀ u v, l0 = [.iface u v] → Value.okWide Tryd.prog W .any 0 u v := fun u v e => by
      subst e
      exact (hrows q.g 0 (by simp [MemPlace.row])).2 u v (by simpa using World.var?_cell hg' hv 0)
    obtain ⟨a, s, rfl, hc, hs, hz, rfl⟩ := errorString_of_trod Tryd.underlying25 rowErr Tryd.underlying135 Tryd.underlying151 rfl rfl Tryd.underlying9 cellsErr cellsStr hd ok0
    have hcell : W.cell? ⟨q.g, 0, none⟩ = some (.iface 135 (.pointer (some a))) := by simpa using World.var?_cell hg' hv 0
    have hin : MemPlace.cell a.block a.off ∈ MemPlace.row a 1 := by simp [MemPlace.row]
    have hrow := (hrows a.block a.off (List.mem_append_left _ (List.mem_append_right _ hin))).1
    obtain ⟨hnq, hnl⟩ := List.nodup_cons.1 hnum
    obtain ⟨_, hnd2, hdis⟩ := List.nodup_append.1 hnd
    obtain ⟨A, h1, h2, h3⟩ := laid_go L ps' hr (fun b off hm => hrows b off (List.mem_append_right _ hm)) hnd2 hnl (fun r hr => hok r (by simp [hr]))
    have hne : ∀ r ∈ L, r.num ≠ q.num := fun r hr e => hnq (e ▸ List.mem_map_of_mem hr)
    have hapart : ∀ r ∈ L, a ≠ A r.num := fun r hr e => by
      have m1 : MemPlace.cell a.block a.off ∈ ps' := by rw [e]; exact h2 r hr
      exact hdis _ (List.mem_append_right _ hin) _ m1 rfl
    obtain ⟨A', e1, e2⟩ : ∃ A' : Nat → Addr, A' q.num = a ∧ ∀ r ∈ L, A' r.num = A r.num :=
      ⟨fun n => if n = q.num then a else A n, if_pos rfl, fun r hr => if_neg (hne r hr)⟩
    refine ⟨A', fun r hr => ?_, fun r hr => ?_, fun r hr r' hr' hn => ?_⟩
    · rcases List.mem_cons.1 hr with h | h
      · rw [h]; unfold SentAt; rw [e1]; exact ⟨hcell, hrow⟩
      · unfold SentAt; rw [e2 r h]; exact h1 r h
    · rcases List.mem_cons.1 hr with h | h
      · rw [h, e1]; exact List.mem_append_left _ (List.mem_append_right _ hin)
      · rw [e2 r h]; exact List.mem_append_right _ (h2 r h)
    · rcases List.mem_cons.1 hr with h | h <;> rcases List.mem_cons.1 hr' with h' | h'
      · exact absurd (by rw [h, h']) hn
      · rw [h, e1, e2 r' h']; exact hapart r' h'
      · rw [h', e1, e2 r h]; exact (hapart r h).symm
      · rw [e2 r h, e2 r' h']; exact h3 r h r' h' hn

noncomputable def Sn.okB (q : Sn) : Bool := Tryd.prog.globalNamed q.name == some q.g && (Tryd.prog.globals[q.g]?).map (·.type) == some 25
theorem sents_of_laid {W : World} {L : List Sn} (hnum : (L.map Sn.num).Nodup) (hok : ∀ q ∈ L, q.ok) (h : laidMet Tryd.prog (L.map Sn.laid) W) :
    ∃ A : Nat → Addr, (∀ q ∈ L, SentAt A W q) ∧ ∀ q ∈ L, ∀ r ∈ L, q.num ≠ r.num → A q.num ≠ A r.num := by
  obtain ⟨ps, hv, hnd, hrows⟩ := h
  obtain ⟨A, h1, _, h3⟩ := laid_go L ps hv hrows hnd hnum hok
  exact ⟨A, h1, h3⟩
noncomputable def low : Nat := (World.holding Tryd.prog default ⟨#[], #[], []⟩).heap.size
/-- a world in which the listed variables hold their errors -/
noncomputable def laidWorld (L : List Sn) (os : Os) : World :=
  let w0 := World.holding Tryd.prog os ⟨(L.map fun q => Obj.cells #[.string ⟨q.text.toArray⟩] 151).toArray, #[], []⟩
  { w0 with heap := (L.zipIdx.foldl (fun (h : Array Obj) (x : Sn × Nat) => h.modify x.1.g fun
      | .cells _ t frozen => .cells #[.iface 135 (.pointer (some ⟨low + x.2, 0, none⟩))] t frozen
      | o => o) w0.heap) }
end Go.Proofs.YtdganemgldocoaaDoor

namespace Go.Proofs.YtdganemgldocoaaDoor
open Go.RowKit Go.Maps Go.ChangeShapes Go.WideShapes Go.Deep

/-- a datum's cells, where it is plain -/
def cellsD : Nat → DataW Unit → List Value
  | n + 1, .agg ds => ds.flatMap (cellsD n)
  | _ + 1, .lit (.int k i) => [.int k i]
  | _ + 1, .lit (.string l) => [.string ⟨l.toArray⟩]
  | _ + 1, .lit (.bool b) => [.bool b]
  | _, _ => []
/-- what lies behind a listed error -/
def boxD : DataW Unit → List Value
  | .iface _ (.ptr d) => cellsD 4 d
  | _ => []
def isBox : DataW Unit → Bool
  | .iface _ (.ptr _) => true
  | _ => false
/-- a world in which all listed variables hold what is listed: tables, and errors -/
noncomputable def laidWorldX (L : List (String × DataW Unit)) (os : Os) : World :=
  let w0 := World.holding Tryd.prog os ⟨((L.filter fun x => isBox x.2).map fun x => Obj.cells (boxD x.2).toArray 151).toArray, #[], []⟩
  { w0 with heap := (L.foldl (fun (h : Array Obj × Nat) (x : String × DataW Unit) => match Tryd.prog.globalNamed x.1 with
      | some g => if isBox x.2 then (h.1.modify g fun
          | .cells _ t frozen => .cells #[.iface 135 (.pointer (some ⟨low + h.2, 0, none⟩))] t frozen
          | o => o, h.2 + 1) else (h.1.modify g fun
          | .cells _ t frozen => .cells (cellsD 4 x.2).toArray t frozen
          | o => o, h.2)
      | none => h) (w0.heap, 0)).1 }
end Go.Proofs.YtdganemgldocoaaDoor

namespace Go.Proofs.YtdganemgldocoaaDoor
open Go.RowKit Go.Extern.Stop Go.Stop Go.Extern

def isCompFn : Array Value → Sem Value := Extern.ReflectliteType.method fun t => do Extern.Rtype.noPackHeld "Comparable" t; pure (.bool (← typeInfo t).comparable)
theorem isComparable (w : World) : (isCompFn #[.agg #[.pointer (some ⟨9, 135, none⟩)]]).run Tryd.prog w = .ok (.bool true) w := by kernel_rfl
theorem isComp : (Tryd.prog.info? 135).map (·.comparable) = some true := by kernel_rfl
theorem isSize : (Tryd.prog.info? 151).map (·.size) = some 1 := by kernel_rfl
end Go.Proofs.YtdganemgldocoaaDoor

namespace Go.Proofs.YtdganemgldocoaaDoor
open Go.RowKit

theorem SentAt.later {A : Nat → Addr} {w w' : World} {q : Sn} (h : SentAt A w q) (hb : Below w.heap.size w w') : SentAt A w' q := by
  obtain ⟨h1, c, t, h2⟩ := h
  have hlt : (A q.num).block < w.heap.size := (Array.getElem?_eq_some_iff.1 h2).1
  exact ⟨(hb.cell (cell_block h1)).trans h1, c, t, (hb.block _ hlt).trans h2⟩
end Go.Proofs.YtdganemgldocoaaDoor

/- errors.Is and errors.As on an error type with a line that wraps another error, and millwrightnum's number of it. errors.As at a pointer to a fault: of nil, of a fault, of an error of the list. -/
import Derived.Test.YtdganemgldocoaaDoorLaidErr
import Derived.WalkSmall
import Derived.WalkKit
import Derived.LaidEql
import Derived.RowKitTokens
namespace Go.Proofs.YtdganemgldocoaaDoor
open Go.RowKit Go.Extern.Stop Go.Stop Go.Extern

/-- a fault as it lies in memory: its line, what it wraps -/
def FltAt (w : World) (q : Nat) (line : Int) (v : Value) : Prop := w.heap[q]? = some (.cells #[.int .i64 line, v] 42 (0, 0))
abbrev fltV (q : Nat) : Value := .iface 40 (.pointer (some ⟨q, 0, none⟩))
theorem FltAt.cells {w : World} {q : Nat} {line : Int} {v : Value} (h : FltAt w q line v) : w.cell? ⟨q, 0, none⟩ = some (.int .i64 line) ∧ w.cell? ⟨q, 1, none⟩ = some v := by
  unfold FltAt at h
  constructor <;> simp [World.cell?, h]
theorem FltAt.lt {w : World} {q : Nat} {line : Int} {v : Value} (h : FltAt w q line v) : q < w.heap.size := (Array.getElem?_eq_some_iff.1 h).1
theorem FltAt.grown {w w' : World} {q : Nat} {line : Int} {v : Value} (h : FltAt w q line v) (hg : w.grownBy w' none) : FltAt w' q line v := (hg.block q h.lt (by simp)).trans h
theorem FltAt.later {w w' : World} {q : Nat} {line : Int} {v : Value} (h : FltAt w q line v) (hb : Below w.heap.size w w') : FltAt w' q line v := (hb.block _ h.lt).trans h

end Go.Proofs.YtdganemgldocoaaDoor

namespace Go.Proofs.YtdganemgldocoaaDoor
open Go.RowKit Go.Extern.Stop Go.Stop Go.Extern

/-! closed facts on reflectlite's entries, at a fault's types; a Value is told by its type's handle, its variable, its flags -/
theorem kindP (w : World) : ((ReflectliteType.abiMethod fun t => (fun a : Nat => Value.int IntKind.u8 (a : Int)) <$> Rtype.kind t) #[.pointer (some ⟨9, 40, none⟩)]).run Tryd.prog w = .ok (.int .u8 22) w := by kernel_rfl
theorem methodOne (z : Sem Value) (f : TypeId → Addr → Nat → Nat → Sem Value) (v : Value) :
    ReflectliteValue.method z f #[v] = (do match ← ReflectliteValue.parts v with | none => z | some (t, a, fl) => f t a fl (fl % 32)) := rfl
theorem valueOfP (e : Addr) (w : World) : (ReflectliteValue.unpack (.iface 40 (.pointer (some e)))).run Tryd.prog w
    = .ok (.agg #[.pointer (some ⟨9, 40, none⟩), .pointer (some ⟨w.heap.size, 0, none⟩), .int .u64 150]) (w.alloc (.cells #[.pointer (some e)] 40)) := by kernel_rfl
theorem mkP (p : Addr) (w : World) : (ReflectliteValue.mk 40 p ReflectliteValue.flagAddr).run Tryd.prog w = .ok (.agg #[.pointer (some ⟨9, 40, none⟩), .pointer (some p), .int .u64 406]) w := by kernel_rfl
theorem setTwo (v x : Value) : ReflectliteValue.set #[v, x] = (do
    let (some (dst, a, fl), some (src, b, _)) := (← ReflectliteValue.parts v, ← ReflectliteValue.parts x)
      | unsupported (.noEntry "extern/(internal/reflectlite.Value).Set.zeroValue")
    if fl / ReflectliteValue.flagAddr % 2 == 0 then unsupported (.noEntry "extern/(internal/reflectlite.Value).Set.unaddressable")
    let val ← loadVar src b
    if ← Rtype.directlyAssignable dst src then storeVar dst a val
    else if ← Rtype.implements dst src then
      if (← Rtype.kind src) == 20 then
        match val with
        | .nilIface => unsupported (.noEntry "extern/reflectlite: a nil value of one interface type handed on as a value of another")
        | _ => storeVar dst a val
      else storeVar dst a (.iface src val)
    else panicString ("reflectlite.Set: value of type " ++ (← Rtype.spelt src) ++ " is not assignable to type " ++ (← Rtype.spelt dst))
    pure (.tuple #[])) := rfl
theorem partsPa (a : Addr) (w : World) : (ReflectliteValue.parts (.agg #[.pointer (some ⟨9, 40, none⟩), .pointer (some a), .int .u64 406])).run Tryd.prog w = .ok (some (40, a, 406)) w := by kernel_rfl
theorem partsP (a : Addr) (w : World) : (ReflectliteValue.parts (.agg #[.pointer (some ⟨9, 40, none⟩), .pointer (some a), .int .u64 150])).run Tryd.prog w = .ok (some (40, a, 150)) w := by kernel_rfl
theorem directP (w : World) : (Rtype.directlyAssignable 40 40).run Tryd.prog w = .ok true w := by kernel_rfl
theorem setP (ta b e : Addr) (old : Value) (W : World) (hb : W.cell? b = some (.pointer (some e))) (ht : W.cell? ta = some old) (hf : W.frozen? ta = false) :
    (ReflectliteValue.set #[.agg #[.pointer (some ⟨9, 40, none⟩), .pointer (some ta), .int .u64 406], .agg #[.pointer (some ⟨9, 40, none⟩), .pointer (some b), .int .u64 150]]).run Tryd.prog W
      = .ok (.tuple #[]) (W.setCell ta (.pointer (some e))) := by
  rw [setTwo]
  simp only [Sem.run_bind, partsPa, partsP, Result.andThen]
  simp [ReflectliteValue.flagAddr, loadVar, isAgg, underlying, Tryd.underlying40, hb, Result.andThen, directP, storeVar, Value.cells, storeCells, Addr.add]
  rw [run_store Tryd.prog W ta _ _ (by rfl)]
  simp [ht, hf]

end Go.Proofs.YtdganemgldocoaaDoor

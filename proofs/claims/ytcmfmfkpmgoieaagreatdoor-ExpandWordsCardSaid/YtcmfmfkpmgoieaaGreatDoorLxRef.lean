/- The document's own answers of layer 13: a word's text; two rows of words. -/
import Derived.Test.YtcmfmfkpmgoieaaGreatDoorLxRow
import Derived.Test.YtcmfmfkpmgoieaaGreatDoorQtRef
import Derived.WalkSmall
namespace Go.Proofs.YtcmfmfkpmgoieaaGreatDoor
open Go.RowKit

/-- short pieces -/
def Shp (x : Pb) : Prop := x.t.size ≤ 100 ∧ x.f.size ≤ 100 ∧ x.o.size ≤ 100
def eqPb (x y : Pb) : Bool := x.k == y.k && x.t.toList == y.t.toList && x.f.toList == y.f.toList && x.o.toList == y.o.toList
theorem eqPb_iff {x y : Pb} : eqPb x y = true ↔ x = y := by
  obtain ⟨k, t, f, o⟩ := x
  obtain ⟨k', t', f', o'⟩ := y
  unfold eqPb
  simp only [Bool.and_eq_true, beq_iff_eq, Pb.mk.injEq]
  have h : ∀ a b : ByteArray, a.toList = b.toList ↔ a = b := fun a b => ⟨fun e => by rw [Lib.toList_data, Lib.toList_data] at e; exact bytes_inj e, fun e => by rw [e]⟩
  rw [h, h, h, and_assoc, and_assoc]
theorem neqPd (f g : Pb) (w : World) : (binOp .neq 91 (.agg #[.int .i64 f.k, .string f.t, .string f.f, .string f.o]) (.agg #[.int .i64 g.k, .string g.t, .string g.f, .string g.o])).run Tryz.prog w = .ok (.bool (!eqPb f g)) w := by
  have hS : Tryz.prog.underlying 91 = some (.struct (Tryz.prog.fieldsOf 91)) := by kernel_rfl
  have hp : Tryz.prog.stoodInHeld 91 = false := by kernel_rfl
  have u3 := Tryz.underlying3
  have a3 := Tryz.isAgg3
  have z3 := Tryz.sizeOf3
  have u9 := Tryz.underlying9
  have a9 := Tryz.isAgg9
  have z9 := Tryz.sizeOf9
  rw [run_neq_struct, show (10000 : Nat) = 9999 + 1 from rfl, run_equalIn_agg w 9999 _ _ _ hS hp]
  simp only [Program.fieldsOf, Tryz.underlying91]
  go_simp
  unfold eqPb
  by_cases h1 : (f.k == g.k) = true <;> by_cases h2 : (f.t.toList == g.t.toList) = true <;> by_cases h3 : (f.f.toList == g.f.toList) = true <;> by_cases h4 : (f.o.toList == g.o.toList) = true <;> simp_all
theorem guardPd (op : BinOp) (x y : Operand) (xs ys : Array Value) (w : World) : (eqGuard op 91 x y (.agg xs) (.agg ys)).run Tryz.prog w = .ok () w := run_eqGuard_agg w op _ x y xs ys (by kernel_rfl)
theorem four_px {w : World} {b : Nat} {v0 v1 v2 v3 : Value} {t : TypeId} (h : w.heap[b]? = some (.cells #[v0, v1, v2, v3] t (0, 0))) :
    w.cell? ⟨b, 0, none⟩ = some v0 ∧ w.cell? ⟨b, 1, none⟩ = some v1 ∧ w.cell? ⟨b, 2, none⟩ = some v2 ∧ w.cell? ⟨b, 3, none⟩ = some v3 := by
  refine ⟨?_, ?_, ?_, ?_⟩ <;> (unfold World.cell?; rw [h]; rfl)
theorem two_cons (b : UInt8) (l : List UInt8) : twoQ (b :: l) = (if b = 39 then [39, 39] else [b]) ++ twoQ l := by unfold twoQ; rw [List.flatMap_cons]
theorem take_more {α : Type} {a b : List α} {j : Nat} {x : α} (h : ∀ m, m < j → a[m]? = b[m]?) (ha : a[j]? = some x) (hb : b[j]? = some x) : ∀ m, m < j + 1 → a[m]? = b[m]? := by
  intro m hm
  rcases Nat.lt_succ_iff_lt_or_eq.1 hm with h1 | rfl
  · exact h m h1
  · rw [ha, hb]
theorem take_all {α : Type} {a b : List α} (hl : a.length = b.length) (h : ∀ m, m < a.length → a[m]? = b[m]?) : a = b := by
  apply List.ext_getElem?
  intro m
  rcases Nat.lt_or_ge m a.length with h1 | h1
  · exact h m h1
  · rw [List.getElem?_eq_none h1, List.getElem?_eq_none (by omega)]
end Go.Proofs.YtcmfmfkpmgoieaaGreatDoor

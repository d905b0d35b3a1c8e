/- The document's own answer: the words of a text. -/
import Derived.Test.YtcmfmfkpmgoieaaGreatDoorQtRow
import Derived.Laws.BytesArg
namespace Go.Proofs.YtcmfmfkpmgoieaaGreatDoor
open Go.RowKit

theorem infoU8 : (Tryz.prog.info? 5).map (fun i => (i.zero, i.size, i.bytes)) = some (some (.int .u8 0), 1, 1) := by kernel_rfl
theorem by_one (k : Int) : ∀ u ∈ ([.int .u8 k] : List Value), u.oneCell' = true := by intro u hu; simp at hu; subst hu; rfl
theorem by_new (w : World) (k : Int) (T : TypeId) (m : Nat) (hm : m = w.heap.size) : ∀ j x, ([.int .u8 k] : List Value)[j]? = some x → (w.alloc (.cells #[.int .u8 k] T)).cell? ((⟨m, 0, none⟩ : Addr).add j) = some x := by
  subst hm
  exact World.news_of_block (cs := #[.int .u8 k]) (t := T) (fr := (0, 0)) (heap_alloc_new w _)
abbrev byV (W : List UInt8) : List Value := W.map fun b => Value.int .u8 b.toNat
theorem by_zero (w : World) (T : TypeId) (base : Nat) (hb : base ≤ w.heap.size) : (w.alloc (.cells #[] T)).ownsRow base T 1 (.slice (some ⟨w.heap.size, 0, none⟩) 0 0) 0 (byV []) :=
  ⟨rfl, .inr ⟨w.heap.size, 0, _, rfl, hb, heap_alloc_new w _, Nat.le_refl _, by decide, rfl, rfl⟩⟩
/-- a row of bytes as a text -/
theorem conv_row {w : World} {base : Nat} {v : Value} {W : List UInt8} (h : w.ownsRow base 5 1 v W.length (byV W)) : ∃ t : ByteArray, (convert 161 9 v).run Tryz.prog w = .ok (.string t) w ∧ t.data.toList = W := by
  rcases h.2 with ⟨rfl, h0⟩ | ⟨g, cap, cur, rfl, -, hg, hc⟩
  · refine ⟨ByteArray.empty, run_convert_bytes_nil w 161 5 Tryz.underlying161 Tryz.underlying5 0 0 9 Tryz.underlying9, ?_⟩
    have := List.eq_nil_of_length_eq_zero h0
    rw [this]; rfl
  · refine ⟨_, run_convert_bytes_arg w 161 5 Tryz.underlying161 Tryz.underlying5 g 0 W.length cap (W.map fun b => (b.toNat : Int)) (by simp) (fun i hi => ?_) 9 Tryz.underlying9, ?_⟩
    · have := h.cells (g := g) rfl i (.int .u8 (W[i]'hi).toNat) (by simp [hi])
      rw [Addr.add_lit] at this
      rw [this]
      simp [List.getD, hi]
    · simp [strOfNums, List.map_map, Function.comp_def]
/-- what Split answers -/
def SplOut (l : List UInt8) (w : World) (e : Ending) (w' : World) : Prop :=
  (match splQ l with
    | some L => ∃ v O, e = .returned (.tuple #[v, .int .i64 0]) ∧ w'.ownsRow w.heap.size 9 1 v O.length (txV O) ∧ txL O = L
    | none => e = .returned (.tuple #[.slice none 0 0, .int .i64 5])) ∧ w.grownBy w' none
theorem run_take {l : List UInt8} {j : Nat} {b : UInt8} {q : Sq} (h : l[j]? = some b) (hq : runQ ⟨0, [], []⟩ (l.take j) = q) : runQ ⟨0, [], []⟩ (l.take (j + 1)) = stpQ q b := by
  rw [List.take_add_one, h, runQ_app, hq]; rfl
theorem spl_none {l : List UInt8} {w : World} {w' : World} (h : (runQ ⟨0, [], []⟩ l).st = 2) (g : w.grownBy w' none) : SplOut l w (.returned (.tuple #[.slice none 0 0, .int .i64 5])) w' := by
  unfold SplOut splQ endQ
  rw [if_pos h]; exact ⟨rfl, g⟩
theorem spl_some {l : List UInt8} {w : World} {w' : World} {v : Value} {O : List ByteArray} {q : Sq} (hq : runQ ⟨0, [], []⟩ l = q) (h2 : q.st ≠ 2) (hO : txL O = if q.st = 0 then q.out else q.out ++ [q.w]) (hR : w'.ownsRow w.heap.size 9 1 v O.length (txV O)) (g : w.grownBy w' none) :
    SplOut l w (.returned (.tuple #[v, .int .i64 0])) w' := by
  unfold SplOut splQ endQ
  rw [hq, if_neg h2]
  refine ⟨?_, g⟩
  by_cases h0 : q.st = 0
  · rw [if_pos h0] at hO ⊢; exact ⟨v, O, rfl, hR, hO⟩
  · rw [if_neg h0] at hO ⊢; exact ⟨v, O, rfl, hR, hO⟩
/-- what the loop over the bytes knows -/
structure SpI (l : List UInt8) (w0 : World) (base j st : Nat) (W : List UInt8) (O : List ByteArray) (vo vw : Value) (w : World) : Prop where
  q : runQ ⟨0, [], []⟩ (l.take j) = ⟨st, W, txL O⟩
  o : w.ownsRow base 9 1 vo O.length (txV O)
  b : w.ownsRow base 5 1 vw W.length (byV W)
  g : w0.grownBy w none
end Go.Proofs.YtcmfmfkpmgoieaaGreatDoor

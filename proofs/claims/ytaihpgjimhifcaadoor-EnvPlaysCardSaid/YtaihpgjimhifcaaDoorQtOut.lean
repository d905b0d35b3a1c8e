/- What package quote's functions answer, as the laws are told of it. -/
import Derived.Test.YtaihpgjimhifcaaDoorQtSplit
import Derived.Test.YtaihpgjimhifcaaDoorQtNum
namespace Go.Proofs.YtaihpgjimhifcaaDoor
open Go.RowKit

theorem TxRow.grown {w w' : World} {v : Value} {l : List ByteArray} (h : TxRow w v l) (hg : w.grownBy w' none) : TxRow w' v l := h.later (below_of_grown hg)
/-- a text -/
def PTxt (L : List UInt8) (w : World) (e : Ending) (w' : World) : Prop := w.grownBy w' none ∧ ∃ t : ByteArray, e = .returned (.string t) ∧ t.data.toList = L
/-- a row of texts -/
def PTx (L : List (List UInt8)) (w : World) (e : Ending) (w' : World) : Prop := w.grownBy w' none ∧ ∃ v O, e = .returned v ∧ TxRow w' v O ∧ txL O = L
/-- words, or none and the error -/
def PSpl (l : List UInt8) (A : Nat → Addr) (w : World) (e : Ending) (w' : World) : Prop :=
  w.grownBy w' none ∧ ∃ v O ev, e = .returned (.tuple #[v, ev]) ∧ TxRow w' v O ∧
    ((splQ l = some (txL O) ∧ ev = .nilIface) ∨ (splQ l = none ∧ O = [] ∧ ev = .iface 113 (.pointer (some (A 5)))))
theorem fld_len (l : List UInt8) : (fldQ l).length ≤ l.length + 1 := by
  have key : ∀ (l : List UInt8) (q : List UInt8 × List (List UInt8)), (l.foldl fldS q).2.length ≤ q.2.length + l.length := by
    intro l
    induction l with
    | nil => intro q; simp
    | cons b l ih =>
      intro q
      have := ih (fldS q b)
      have h1 : (fldS q b).2.length ≤ q.2.length + 1 := by
        unfold fldS; split
        · split <;> simp
        · simp
      simp only [List.foldl_cons, List.length_cons]
      omega
  have := key l ([], [])
  unfold fldQ flushQ
  split
  · simp at this; omega
  · simp at this ⊢; omega
theorem spl_len {l : List UInt8} {L : List (List UInt8)} (h : splQ l = some L) : L.length ≤ l.length + 1 := by
  have key : ∀ (l : List UInt8) (q : Sq), (runQ q l).out.length ≤ q.out.length + l.length := by
    intro l
    induction l with
    | nil => intro q; simp [runQ]
    | cons b l ih =>
      intro q
      have := ih (stpQ q b)
      have h1 : (stpQ q b).out.length ≤ q.out.length + 1 := by
        unfold stpQ stpO; repeat' split
        all_goals simp
      simp only [runQ, List.foldl_cons, List.length_cons] at this ⊢
      omega
  have := key l ⟨0, [], []⟩
  unfold splQ endQ at h
  split at h
  · cases h
  · split at h
    · cases h; simp at this; omega
    · cases h; simp at this ⊢; omega
theorem tx_len {O : List ByteArray} {L : List (List UInt8)} (h : txL O = L) : O.length = L.length := by rw [← h]; simp
end Go.Proofs.YtaihpgjimhifcaaDoor

/- The document's way with a text: which piece begins at a place, where it ends. The document's way with a text: the piece that begins with a dollar sign. The document's way with a text: the piece at a place. The document's words of a text (layer 13's Words). -/
import Derived.Test.YtdganemgldocoaaDoorLxPc
import Derived.Test.YtdganemgldocoaaDoorEvRef
import Derived.Test.YtdganemgldocoaaDoorQtRow
import Derived.Test.YtdganemgldocoaaDoorLxOf
namespace Go.Proofs.YtdganemgldocoaaDoor
open Go.RowKit

/-- a piece and where it ends, or an error's number -/
def PPd (R : Except Nat (Pq × List UInt8)) (l : List UInt8) (w : World) (e : Ending) (w' : World) : Prop :=
  w.grownBy w' none ∧
  ((∃ (x : Pb) (q : Nat), e = .returned (.tuple #[pcA x, .int .i64 q, .int .i64 0]) ∧ q ≤ l.length ∧ R = .ok (x.q, l.drop q)) ∨
   (∃ bad : Nat, e = .returned (.tuple #[zPc, .int .i64 0, .int .i64 bad]) ∧ bad ≠ 0 ∧ R = .error bad))
theorem b_is {b : UInt8} (n : Nat) (hn : n < 256) {c : Bool} (h : (b == UInt8.ofNat n) = c) : ((b.toNat : Int) == (n : Int)) = c := by
  rw [← h, Bool.eq_iff_iff, beq_iff_eq, beq_iff_eq]
  constructor
  · intro e; apply UInt8.toNat_inj.1; rw [UInt8.toNat_ofNat']; omega
  · intro e; rw [e, UInt8.toNat_ofNat']; omega
theorem b_isn {b : UInt8} (n : Nat) (hn : n < 256) {c : Bool} (h : (b == UInt8.ofNat n) = c) : ((b.toNat : Int) != (n : Int)) = !c := by
  show (!((b.toNat : Int) == (n : Int))) = !c
  rw [b_is n hn h]
end Go.Proofs.YtdganemgldocoaaDoor

namespace Go.Proofs.YtdganemgldocoaaDoor
open Go.RowKit

theorem grown_one {w w1 : World} (h : w.grownBy w1 none) (b i : Nat) (v : Value) (hb : w.heap.size ≤ b) : w.grownBy (w1.setCell ⟨b, i, none⟩ v) none := grown_of_below ((below_of_grown h).setCell hb v)
/-- is a byte at a place -/
theorem byte3 (s : ByteArray) (z : Nat) (c : UInt8) (m : Int) (hm : m = (c.toNat : Int)) :
    (s.size ≤ z ∧ s.data.toList[z]? ≠ some c) ∨ (∃ h : z < s.size, s.data.toList[z]? ≠ some c ∧ ((s[z].toNat : Int) == m) = false ∧ ((s[z].toNat : Int) != m) = true) ∨
      (∃ h : z < s.size, s.data.toList[z]? = some c ∧ ((s[z].toNat : Int) == m) = true ∧ ((s[z].toNat : Int) != m) = false) := by
  subst hm
  by_cases h : z < s.size
  · right
    by_cases hc : s[z] = c
    · right
      exact ⟨h, by rw [list_at h, hc], by rw [hc]; simp, by rw [hc]; simp⟩
    · left
      have hn : ¬ ((s[z].toNat : Int) = (c.toNat : Int)) := fun e => hc (UInt8.toNat_inj.1 (by omega))
      exact ⟨h, by rw [list_at h]; simpa using hc, by simpa using hn, by simpa using hn⟩
  · left
    exact ⟨by omega, by rw [List.getElem?_eq_none (by simp; omega)]; simp⟩
end Go.Proofs.YtdganemgldocoaaDoor

namespace Go.Proofs.YtdganemgldocoaaDoor
open Go.RowKit

theorem bit_take {l : List UInt8} {j f : Nat} {b : UInt8} (h : l[j]? = some b) (hj : j < f) : (l.take f).drop j = b :: (l.take f).drop (j + 1) := by
  have h2 : (l.take f)[j]? = some b := by rw [List.getElem?_take, if_pos hj, h]
  obtain ⟨h3, h4⟩ := List.getElem?_eq_some_iff.1 h2
  rw [List.drop_eq_getElem_cons h3, h4]
end Go.Proofs.YtdganemgldocoaaDoor

namespace Go.Proofs.YtdganemgldocoaaDoor
open Go.RowKit

/-- the words of a text and no error, or none and the error's number -/
def PWd17 (l : List UInt8) (w : World) (e : Ending) (w' : World) : Prop :=
  w.grownBy w' none ∧ match wdQ [] [] l with
    | .ok L => ∃ v LB, e = .returned (.tuple #[v, .int .i64 0]) ∧ RRow w' v LB ∧ pcLL LB = L
    | .error bad => e = .returned (.tuple #[.slice none 0 0, .int .i64 bad])
theorem own_cells {W : World} {base n s : Nat} {T : TypeId} {v : Value} {xs : List Value} (h : W.ownsRow base T s v n xs) : ∀ k, v.ownBlock = some k → ∃ c, W.heap[k]? = some (.cells c T (0, 0)) := by
  intro k hk
  rcases h.2 with ⟨h4, -⟩ | ⟨g, cap, cur, h4, -, h5, -⟩
  · rw [h4] at hk; cases hk
  · rw [h4] at hk
    simp [Value.ownBlock] at hk
    subst hk
    exact ⟨cur, h5⟩
end Go.Proofs.YtdganemgldocoaaDoor

/- The document's own answers of layer 12: physical lines, a text without blanks at its ends, where a comment begins. -/
import Derived.Test.YtdganemgldocoaaDoorLnRow
namespace Go.Proofs.YtdganemgldocoaaDoor
open Go.RowKit

theorem toList_rest (s : ByteArray) (j : Nat) : (s.extract j s.size).data.toList = s.data.toList.drop j := by
  have e1 : (s.extract j s.size).data.toList = (s.data.toList.drop j).take (s.size - j) := by simp
  rw [e1, List.take_of_length_le (by simp)]
theorem toList_cut2 (s : ByteArray) (j e : Nat) : (s.extract j e).data.toList = (s.data.toList.take e).drop j := by
  have e1 : (s.extract j e).data.toList = (s.data.toList.drop j).take (e - j) := by simp
  rw [e1, List.drop_take]
theorem lin_take {l : List UInt8} {f i : Nat} (hf : f ≤ i) (O : List (List UInt8)) {b : UInt8} (hb : l[i]? = some b) (h10 : b ≠ 10) : linA ((l.take i).drop f) O (l.drop i) = linA ((l.take (i + 1)).drop f) O (l.drop (i + 1)) := by
  have hi := (List.getElem?_eq_some_iff.1 hb).1
  rw [drop_at hb, linA_byte h10]
  congr 1
  rw [List.take_add_one, hb, List.drop_append, List.length_take, show f - min i l.length = 0 by omega]; rfl
theorem lin_cut {l : List UInt8} {f i : Nat} (O : List (List UInt8)) (hb : l[i]? = some 10) : linA ((l.take i).drop f) O (l.drop i) = linA ((l.take (i + 1)).drop (i + 1)) (O ++ [(l.take i).drop f]) (l.drop (i + 1)) := by
  rw [drop_at hb, linA_feed, show (l.take (i + 1)).drop (i + 1) = [] from List.drop_of_length_le (by rw [List.length_take]; omega)]
theorem bt_nat (b : UInt8) : btQ b = (((b.toNat : Int) == 32) || ((b.toNat : Int) == 9)) := by
  unfold btQ
  rw [Bool.eq_iff_iff]
  simp only [Bool.or_eq_true, beq_iff_eq, ← UInt8.toNat_inj]
  show (b.toNat = 32 ∨ b.toNat = 9) ↔ _
  omega
theorem bt_two (b : UInt8) : ∃ f g : Bool, ((b.toNat : Int) == 32) = f ∧ ((b.toNat : Int) == 9) = g ∧ btQ b = (f || g) := ⟨_, _, rfl, rfl, bt_nat b⟩
theorem list_cons {s : ByteArray} (h : 0 < s.size) : s.data.toList = s[0] :: s.data.toList.drop 1 := drop_at (l := s.data.toList) (k := 0) (list_at h)
theorem list_snoc {s : ByteArray} {n : Nat} (h : s.size = n + 1) : s.data.toList = (s.extract 0 n).data.toList ++ [s[n]] := by
  have e := list_at (s := s) (i := n) (by omega)
  have e2 := List.take_add_one (l := s.data.toList) (i := n)
  rw [List.take_of_length_le (by simp; omega), e] at e2
  rw [toList_cut2, List.drop_zero]; exact e2
end Go.Proofs.YtdganemgldocoaaDoor

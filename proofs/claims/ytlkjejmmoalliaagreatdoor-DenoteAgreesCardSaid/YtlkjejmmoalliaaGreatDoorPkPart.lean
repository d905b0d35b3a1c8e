/- What stands between two kept places: the walk of Part. -/
import Derived.Test.YtlkjejmmoalliaaGreatDoorPkMem
import Derived.Test.YtlkjejmmoalliaaGreatDoorIRow
namespace Go.Proofs.YtlkjejmmoalliaaGreatDoor
open Go.RowKit

theorem irow_of_block {w : World} {b n : Nat} {l : List Int} {t : TypeId} (h : w.heap[b]? = some (.cells (intsV l).toArray t (0, 0))) (hn : l.length = n) (c : Nat) : IRow w (.slice (some ⟨b, 0, none⟩) n c) l := by
  subst hn
  refine ⟨_, c, rfl, fun k x hx => ⟨b, 0, rfl, ?_⟩⟩
  rw [Nat.zero_add, cell_of_row w b k _ _ _ h]
  simpa using intsV_get hx
/-- a part of a text -/
def partS (s : ByteArray) (l : List Int) (i : Int) : ByteArray :=
  if i < 0 ∨ (l.length / 2 : Nat) ≤ i then ByteArray.empty
  else if l.getD (2 * i.toNat) 0 < 0 ∨ l.getD (2 * i.toNat) 0 > l.getD (2 * i.toNat + 1) 0 ∨ l.getD (2 * i.toNat + 1) 0 > s.size then ByteArray.empty
  else s.extract (l.getD (2 * i.toNat) 0).toNat (l.getD (2 * i.toNat + 1) 0).toNat
theorem part_none {s : ByteArray} {l : List Int} {i : Int} (h : i < 0 ∨ (l.length / 2 : Nat) ≤ i) : partS s l i = ByteArray.empty := by unfold partS; rw [if_pos h]
theorem part_off {s : ByteArray} {l : List Int} {j : Nat} {f t : Int} (h : 2 * j + 1 < l.length) (hf : l[2 * j]? = some f) (ht : l[2 * j + 1]? = some t) (hx : f < 0 ∨ f > t ∨ t > s.size) : partS s l j = ByteArray.empty := by
  unfold partS
  rw [if_neg (by omega), if_pos (by simp only [Int.toNat_natCast, List.getD_eq_getElem?_getD, hf, ht, Option.getD_some]; exact hx)]
theorem part_is {s : ByteArray} {l : List Int} {j f t : Nat} (h : 2 * j + 1 < l.length) (hf : l[2 * j]? = some (f : Int)) (ht : l[2 * j + 1]? = some (t : Int)) (h1 : f ≤ t) (h2 : t ≤ s.size) : partS s l j = s.extract f t := by
  unfold partS
  rw [if_neg (by omega), if_neg (by simp only [Int.toNat_natCast, List.getD_eq_getElem?_getD, hf, ht, Option.getD_some]; omega)]
  simp only [Int.toNat_natCast, List.getD_eq_getElem?_getD, hf, ht, Option.getD_some]
theorem ret_str {a b : ByteArray} (h : a = b) : Ending.returned (.string a) = .returned (.string b) := by rw [h]

end Go.Proofs.YtlkjejmmoalliaaGreatDoor

/- The document's own answer: the lines of a text. -/
import Derived.Test.YtdganemgldocoaaDoorLnRef
import Derived.Test.YtdganemgldocoaaDoorQtRow
namespace Go.Proofs.YtdganemgldocoaaDoor
open Go.RowKit

/-- what the loop over a line's bytes knows: what is held, and whether it goes on; Z: what comes of the line -/
def RdI (m : Bool) (s : List UInt8) (Z : Option (List UInt8 × Bool)) (i : Nat) (h : List UInt8) (g : Bool) : Prop :=
  if i < s.length then g = false ∧ rdA m s h i = Z else Z = some (h, g)
theorem RdI.start {m : Bool} {s h : List UInt8} : RdI m s (rdQ m false h s) 0 h false := by
  unfold RdI
  split
  · exact ⟨rfl, rfl⟩
  · rename_i hn
    have : s = [] := List.eq_nil_of_length_eq_zero (by omega)
    subst this; rfl
theorem RdI.next {m : Bool} {s h : List UInt8} {Z : Option (List UInt8 × Bool)} {i : Nat} (e : rdA m s h i = Z) : RdI m s Z i h false := by
  unfold RdI
  split
  · exact ⟨rfl, e⟩
  · rw [rdA_end (by omega)] at e; exact e.symm
theorem RdI.done {m : Bool} {s h : List UInt8} {Z : Option (List UInt8 × Bool)} {i : Nat} {g : Bool} (e : Z = some (h, g)) (hi : s.length ≤ i) : RdI m s Z i h g := by
  unfold RdI
  rw [if_neg (by omega)]; exact e
theorem spA_rec {o : Nat} {h s : List UInt8} {O : List Lq} {k : Nat} {r : List (List UInt8)} (ho : o = 0) (hs : recQ s = true) : spA o h O k (s :: r) = if 400 < s.length - 1 then .error (2, k + 1) else spA 0 [] (O ++ [⟨s.tail, k + 1, true⟩]) (k + 1) r := by
  rw [spA, if_pos ⟨ho, hs⟩]
theorem spA_log {o : Nat} {h s : List UInt8} {O : List Lq} {k : Nat} {r : List (List UInt8)} (hn : ¬(o = 0 ∧ recQ s = true)) :
    spA o h O k (s :: r) = match rdQ (!r.isEmpty) false (if o = 0 then [] else h) s with
      | none => .error (5, k + 1)
      | some (h2, true) => spA (if o = 0 then k + 1 else o) h2 O (k + 1) r
      | some (h2, false) => if 400 < (trQ h2).length then .error (2, if o = 0 then k + 1 else o) else spA 0 [] (O ++ [⟨trQ h2, if o = 0 then k + 1 else o, false⟩]) (k + 1) r := by
  rw [spA, if_neg hn]
  rcases rdQ (!r.isEmpty) false (if o = 0 then [] else h) s with _ | ⟨h2, _ | _⟩ <;> rfl
/-- what is held while no line goes on is of no matter -/
theorem spA_held (h h2 : List UInt8) (O : List Lq) (k : Nat) (r : List (List UInt8)) : spA 0 h O k r = spA 0 h2 O k r := by
  cases r with
  | nil => rfl
  | cons s r =>
    by_cases hn : recQ s = true
    · rw [spA_rec rfl hn, spA_rec rfl hn]
    · rw [spA_log (fun x => hn x.2), spA_log (fun x => hn x.2)]; rfl
theorem tx_ext' {s t : ByteArray} (h : s.data.toList = t.data.toList) : s = t := by cases s; cases t; congr 1; exact Array.toList_inj.1 h
end Go.Proofs.YtdganemgldocoaaDoor

/- What the laws of layer 13 do to rows of pieces: copies of the document's type, and whether there are too many. What package lex's functions answer, as the laws are told of it; the chapter's example. -/
import Derived.Test.YtdganemgldocoaaDoorLxRef
import Derived.Test.YtdganemgldocoaaDoorQtRow
namespace Go.Proofs.YtdganemgldocoaaDoor
open Go.RowKit

theorem own_zero (w : World) (T : TypeId) (s : Nat) (base : Nat) (hb : base ≤ w.heap.size) : (w.alloc (.cells #[] T)).ownsRow base T s (.slice (some ⟨w.heap.size, 0, none⟩) 0 0) 0 [] :=
  ⟨by simp, .inr ⟨w.heap.size, 0, _, rfl, hb, heap_alloc_new w _, Nat.le_refl _, by simp, by simp⟩⟩
theorem own_kept {w w' : World} {base s n : Nat} {e : TypeId} {v : Value} {xs : List Value} (h : w.ownsRow base e s v n xs) (hg : w.grownBy w' none) : w'.ownsRow base e s v n xs :=
  h.kept hg (by rcases h.2 with ⟨rfl, _⟩ | ⟨g, cap, cur, rfl, _⟩ <;> simp [Value.ownBlock])
theorem own_up {w : World} {base base' s n : Nat} {e : TypeId} {v : Value} {xs : List Value} (h : w.ownsRow base e s v n xs) (hb : base' ≤ base) : w.ownsRow base' e s v n xs := by
  refine ⟨h.1, ?_⟩
  rcases h.2 with h0 | ⟨g, cap, cur, e1, e2, e3⟩
  · exact .inl h0
  · exact .inr ⟨g, cap, cur, e1, Nat.le_trans hb e2, e3⟩
theorem sl_new (w : World) (u : Value) (T : TypeId) (m : Nat) (hm : m = w.heap.size) : ∀ j x, ([u] : List Value)[j]? = some x → (w.alloc (.cells #[u] T)).cell? ((⟨m, 0, none⟩ : Addr).add j) = some x := by
  subst hm
  exact World.news_of_block (cs := #[u]) (t := T) (fr := (0, 0)) (heap_alloc_new w _)
/-- whether it is too much, and that it is little otherwise -/
def PLg (L : List (List Pb)) (w : World) (e : Ending) (w' : World) : Prop :=
  (∃ z, e = .returned (.bool z) ∧ (z = false → L.length ≤ 12 ∧ ∀ l ∈ L, l.length ≤ 12 ∧ ∀ x ∈ l, Shp x)) ∧ w.grownBy w' none
end Go.Proofs.YtdganemgldocoaaDoor

namespace Go.Proofs.YtdganemgldocoaaDoor
open Go.RowKit

/-- words, or none and an error -/
def PWds (l : List UInt8) (A : Nat → Addr) (w : World) (e : Ending) (w' : World) : Prop :=
  w.grownBy w' none ∧ match wdQ [] [] l with
    | .ok L => ∃ v LB, e = .returned (.tuple #[v, .nilIface]) ∧ RRow w' v LB ∧ pcLL LB = L
    | .error bad => ∃ a c, e = .returned (.tuple #[.slice a 0 c, errV A bad])
/-- words that a call makes, or none and an error -/
def PWdo (l : List UInt8) (A : Nat → Addr) (w : World) (e : Ending) (w' : World) : Prop :=
  w.grownBy w' none ∧ match wdQ [] [] l with
    | .ok L => ∃ v LB, e = .returned (.tuple #[v, .nilIface]) ∧ OwnRR w' w.heap.size 58 55 v LB ∧ LB.length ≤ 5000 ∧ pcLL LB = L
    | .error bad => ∃ a c, e = .returned (.tuple #[.slice a 0 c, errV A bad])
theorem PWdo.row {l : List UInt8} {A : Nat → Addr} {w : World} {e : Ending} {w' : World} (h : PWdo l A w e w') : PWds l A w e w' := by
  obtain ⟨g, h⟩ := h
  refine ⟨g, ?_⟩
  cases hw : wdQ [] [] l with
  | ok L =>
    rw [hw] at h
    obtain ⟨v, LB, he, ho, hl, hp⟩ := h
    exact ⟨v, LB, he, rr_row ho (by omega), hp⟩
  | error k => rw [hw] at h; exact h
/-- a word's text -/
def PTxw (l : List Pb) (w : World) (e : Ending) (w' : World) : Prop := (∃ t : ByteArray, e = .returned (.string t) ∧ t.data.toList = txW (pcL l)) ∧ w.grownBy w' none
/-- whether rows are the same -/
def PSmw (La Lb : List (List Pb)) (w : World) (e : Ending) (w' : World) : Prop := (∃ z, e = .returned (.bool z) ∧ (z = true ↔ La = Lb)) ∧ w.grownBy w' none
/-- what a word says -/
def PLit (l : List Pb) (w : World) (e : Ending) (w' : World) : Prop := (∃ t : ByteArray, e = .returned (.tuple #[.string t, .bool ((pcL l).all litB)]) ∧ t.data.toList = litQ (pcL l)) ∧ w.grownBy w' none
theorem wd_alive : wdQ [] [] [97, 36, 120, 39, 98, 32, 99, 39, 32, 100] = .ok [[⟨0, [97], [], []⟩, ⟨2, [120], [], []⟩, ⟨1, [98, 32, 99], [], []⟩], [⟨0, [100], [], []⟩]] := by
  have h1 : onQ [97, 36, 120, 39, 98, 32, 99, 39, 32, 100] = .ok (⟨0, [97], [], []⟩, [36, 120, 39, 98, 32, 99, 39, 32, 100]) := by rfl
  have h2 : onQ [36, 120, 39, 98, 32, 99, 39, 32, 100] = .ok (⟨2, [120], [], []⟩, [39, 98, 32, 99, 39, 32, 100]) := by rfl
  have h3 : onQ [39, 98, 32, 99, 39, 32, 100] = .ok (⟨1, [98, 32, 99], [], []⟩, [32, 100]) := by rfl
  have h4 : onQ [100] = .ok (⟨0, [100], [], []⟩, []) := by rfl
  have b1 : ¬ blkQ 97 = true := by decide
  have b2 : ¬ blkQ 36 = true := by decide
  have b3 : ¬ blkQ 39 = true := by decide
  have b4 : ¬ blkQ 100 = true := by decide
  have b5 : blkQ 32 = true := by decide
  rw [wdQ, if_neg b1, h1]
  simp only
  rw [if_pos (by decide), wdQ, if_neg b2, h2]
  simp only
  rw [if_pos (by decide), wdQ, if_neg b3, h3]
  simp only
  rw [if_pos (by decide), wdQ, if_pos b5, wdQ, if_neg b4, h4]
  simp only
  rw [if_pos (by decide), wdQ]
  rfl
theorem len_two {α : Type} {l : List α} (h : l.length = 2) : ∃ a b, l = [a, b] := by
  match l, h with
  | [a, b], _ => exact ⟨a, b, rfl⟩
theorem len_three {α : Type} {l : List α} (h : l.length = 3) : ∃ a b c, l = [a, b, c] := by
  match l, h with
  | [a, b, c], _ => exact ⟨a, b, c, rfl⟩
theorem pc_one_of {x : Pb} {k : Int} {t : List UInt8} (h : x.q = ⟨k, t, [], []⟩) : x.k = k ∧ x.t.data.toList = t := by
  unfold Pb.q at h
  simp only [Pq.mk.injEq] at h
  exact ⟨h.1, h.2.1⟩
end Go.Proofs.YtdganemgldocoaaDoor

/- Rows of lines: those that are read, those that a call makes. -/
import Derived.Test.YtdganemgldocoaaGreatDoorLnPlain
import Derived.Test.YtdganemgldocoaaGreatDoorQtRow
namespace Go.Proofs.YtdganemgldocoaaGreatDoor
open Go.RowKit

/-- a line, its text as the program has it -/
structure Lb where
  t : ByteArray
  n : Nat
  r : Bool
def Lb.q (x : Lb) : Lq := ⟨x.t.data.toList, x.n, x.r⟩
abbrev lnC (x : Lb) : List Value := [.string x.t, .int .i64 x.n, .bool x.r]
abbrev lnQ (O : List Lb) : List Lq := O.map Lb.q
/-- the cells of lines, one behind the other -/
def lnV (O : List Lb) : List Value := O.flatMap lnC
theorem lnV_snoc (O : List Lb) (x : Lb) : lnV (O ++ [x]) = lnV O ++ [.string x.t, .int .i64 x.n, .bool x.r] := by unfold lnV; rw [List.flatMap_append]; rfl
theorem lnV_get : ∀ {O : List Lb} {j : Nat} {x : Lb}, O[j]? = some x → (lnV O)[j * 3]? = some (.string x.t) ∧ (lnV O)[j * 3 + 1]? = some (.int .i64 x.n) ∧ (lnV O)[j * 3 + 2]? = some (.bool x.r)
  | [], j, x, h => by simp at h
  | a :: O, 0, x, h => by
    obtain rfl : a = x := by simpa using h
    exact ⟨rfl, rfl, rfl⟩
  | a :: O, j + 1, x, h => by
    obtain ⟨h1, h2, h3⟩ := lnV_get (O := O) (j := j) (x := x) (by simpa using h)
    have e : lnV (a :: O) = .string a.t :: .int .i64 a.n :: .bool a.r :: lnV O := rfl
    rw [e, show (j + 1) * 3 = j * 3 + 1 + 1 + 1 by omega]
    exact ⟨by simpa using h1, by simpa using h2, by simpa using h3⟩
theorem lnV_len (O : List Lb) : (lnV O).length = O.length * 3 := by
  unfold lnV
  induction O with
  | nil => rfl
  | cons a O ih => rw [List.flatMap_cons, List.length_append, ih]; simp; omega
theorem ln_one (x : Lb) : ∀ u ∈ lnC x, u.oneCell' = true := by
  intro u hu; simp at hu; rcases hu with rfl | rfl | rfl <;> rfl
theorem ln_new (w : World) (x : Lb) (T : TypeId) (m : Nat) (hm : m = w.heap.size) : ∀ j u, ([.string x.t, .int .i64 x.n, .bool x.r] : List Value)[j]? = some u → (w.alloc (.cells #[.string x.t, .int .i64 x.n, .bool x.r] T)).cell? ((⟨m, 0, none⟩ : Addr).add j) = some u := by
  subst hm
  exact World.news_of_block (cs := #[.string x.t, .int .i64 x.n, .bool x.r]) (t := T) (fr := (0, 0)) (heap_alloc_new w _)
/-- v is a slice that holds these lines -/
def LnRow (w : World) (v : Value) (O : List Lb) : Prop :=
  ∃ a c, v = .slice a O.length c ∧ O.length ≤ 9223372036854775807 ∧
    (O ≠ [] → ∃ b off, a = some ⟨b, off, none⟩ ∧ b < w.heap.size ∧ ∀ (j : Nat) (x : Lb), O[j]? = some x →
      w.cell? ⟨b, off + j * 3, none⟩ = some (.string x.t) ∧ w.cell? ⟨b, off + j * 3 + 1, none⟩ = some (.int .i64 x.n) ∧ w.cell? ⟨b, off + j * 3 + 2, none⟩ = some (.bool x.r))
theorem LnRow.later {w w' : World} {v : Value} {O : List Lb} (h : LnRow w v O) (hb : Below w.heap.size w w') : LnRow w' v O := by
  obtain ⟨a, c, e, hn, hc⟩ := h
  refine ⟨a, c, e, hn, fun hne => ?_⟩
  obtain ⟨b, off, ea, hlt, hcc⟩ := hc hne
  refine ⟨b, off, ea, Nat.lt_of_lt_of_le hlt hb.size, fun j m hj => ?_⟩
  obtain ⟨h1, h2, h3⟩ := hcc j m hj
  exact ⟨(hb.cell hlt).trans h1, (hb.cell hlt).trans h2, (hb.cell hlt).trans h3⟩
theorem LnRow.grown {w w' : World} {v : Value} {O : List Lb} (h : LnRow w v O) (hg : w.grownBy w' none) : LnRow w' v O := h.later (below_of_grown hg)
/-- the k-th line, as the walk reads it -/
theorem LnRow.at {w : World} {v : Value} {O : List Lb} (h : LnRow w v O) (k : Nat) (hk : k < O.length) :
    ∃ b off c x, v = .slice (some ⟨b, off, none⟩) O.length c ∧ O[k]? = some x ∧ b < w.heap.size ∧
      w.cell? ⟨b, off + k * 3, none⟩ = some (.string x.t) ∧ w.cell? ⟨b, off + k * 3 + 1, none⟩ = some (.int .i64 x.n) ∧ w.cell? ⟨b, off + k * 3 + 2, none⟩ = some (.bool x.r) := by
  obtain ⟨a, c, e, hn, hc⟩ := h
  have hne : O ≠ [] := by intro e; rw [e] at hk; simp at hk
  obtain ⟨b, off, rfl, hlt, hcc⟩ := hc hne
  have hf : O[k]? = some O[k] := List.getElem?_eq_getElem hk
  exact ⟨b, off, c, O[k], e, hf, hlt, hcc k _ hf⟩
theorem ln_row {w : World} {base : Nat} {e : TypeId} {v : Value} {O : List Lb} {n : Nat} (h : w.ownsRow base e 3 v n (lnV O)) (hn : n = O.length) (hm : n ≤ 9223372036854775807) : LnRow w v O := by
  subst hn
  rcases h.2 with ⟨rfl, h0⟩ | ⟨g, cap, cur, rfl, hb, hg, h1, h2, h3, h4⟩
  · exact ⟨none, 0, by rw [h0], hm, fun hne => absurd (List.eq_nil_of_length_eq_zero h0) hne⟩
  · refine ⟨_, cap, rfl, hm, fun _ => ⟨g, 0, rfl, (Array.getElem?_eq_some_iff.1 hg).1, fun j m hj => ?_⟩⟩
    obtain ⟨g1, g2, g3⟩ := lnV_get hj
    have k1 := h.cells (g := g) rfl _ _ g1
    have k2 := h.cells (g := g) rfl _ _ g2
    have k3 := h.cells (g := g) rfl _ _ g3
    rw [Addr.add_lit] at k1 k2 k3
    exact ⟨k1, k2, k3⟩
theorem ln_zero (w : World) (T : TypeId) (base : Nat) (hb : base ≤ w.heap.size) : (w.alloc (.cells #[] T)).ownsRow base T 3 (.slice (some ⟨w.heap.size, 0, none⟩) 0 0) 0 (lnV []) :=
  ⟨rfl, .inr ⟨w.heap.size, 0, _, rfl, hb, heap_alloc_new w _, Nat.le_refl _, by decide, rfl, rfl⟩⟩
theorem own_keep {w w' : World} {base s n : Nat} {e : TypeId} {v : Value} {xs : List Value} (h : w.ownsRow base e s v n xs) (hg : w.grownBy w' none) : w'.ownsRow base e s v n xs :=
  h.kept hg (by rcases h.2 with ⟨rfl, _⟩ | ⟨g, cap, cur, rfl, _⟩ <;> simp [Value.ownBlock])
end Go.Proofs.YtdganemgldocoaaGreatDoor

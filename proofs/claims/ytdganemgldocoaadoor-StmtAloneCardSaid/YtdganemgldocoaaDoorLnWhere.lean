/- What package lines' functions answer, as the laws are told of it. Walks of package lines: a fault's text, in which line an error stands. -/
import Derived.Test.YtdganemgldocoaaDoorLnSplit
import Derived.Test.YtdganemgldocoaaDoorFltAs
import Derived.Lib.ItoaNum
import Derived.Test.YtdganemgldocoaaDoorShelf
import Derived.Lib.AppendIntMem
namespace Go.Proofs.YtdganemgldocoaaDoor
open Go.RowKit

/-- lines, or none and a fault -/
def PLns (l : List UInt8) (A : Nat → Addr) (w : World) (e : Ending) (w' : World) : Prop :=
  w.grownBy w' none ∧ match spL l with
    | .ok L => ∃ v O, e = .returned (.tuple #[v, .nilIface]) ∧ LnRow w' v O ∧ lnQ O = L
    | .error (bad, line) => ∃ a c q, e = .returned (.tuple #[.slice a 0 c, fltV q]) ∧ FltAt w' q line (errV A bad)
/-- the errors of a text -/
theorem spA_bad : ∀ (r : List (List UInt8)) (o : Nat) (h : List UInt8) (O : List Lq) (k bad line : Nat), spA o h O k r = .error (bad, line) → (bad = 2 ∨ bad = 5)
  | [], o, h, O, k, bad, line, e => by rw [spA] at e; cases e
  | s :: r, o, h, O, k, bad, line, e => by
    rw [spA] at e
    split at e
    · split at e
      · cases e; exact .inl rfl
      · exact spA_bad r _ _ _ _ _ _ e
    · split at e
      · cases e; exact .inr rfl
      · exact spA_bad r _ _ _ _ _ _ e
      · split at e
        · cases e; exact .inl rfl
        · exact spA_bad r _ _ _ _ _ _ e
theorem spL_bad {l : List UInt8} {bad line : Nat} (h : spL l = .error (bad, line)) : bad = 2 ∨ bad = 5 := by
  unfold spL at h
  split at h
  · cases h; exact .inl rfl
  · exact spA_bad _ _ _ _ _ _ _ h
/-- the text of a fault of that line -/
def ftxQ (line : Int) : List UInt8 := [108, 105, 110, 101, 32] ++ Lib.itoa line
end Go.Proofs.YtdganemgldocoaaDoor

namespace Go.Proofs.YtdganemgldocoaaDoor
open Go.RowKit

theorem grown_setCell (w : World) (b : Nat) (v : Value) : w.grownBy (w.setCell ⟨b, 0, none⟩ v) (some b) :=
  ⟨rfl, rfl, rfl, by simp [World.setCell], fun k _ hk => Below.heap_setCell _ _ _ _ (fun e => hk (by simp [e]))⟩
theorem nd_le : ∀ k u : Nat, u < 10 ^ (k + 1) → Lib.nDigits u ≤ k + 1
  | 0, u, h => by rw [Lib.nDigits_small (by simpa using h)]; exact Nat.le_refl _
  | k + 1, u, h => by
    by_cases h10 : u < 10
    · rw [Lib.nDigits_small h10]; omega
    · rw [Lib.nDigits_big h10]
      have := nd_le k (u / 10) (by rw [Nat.pow_succ] at h; omega)
      omega
theorem itoa_len (n : Int) (h0 : -9223372036854775808 ≤ n) (h1 : n ≤ 9223372036854775807) : (Lib.itoa n).length ≤ 30 := by
  unfold Lib.itoa
  split
  · rw [List.length_cons, Lib.decDigits_length]
    have := nd_le 19 n.natAbs (by omega)
    omega
  · rw [Lib.decDigits_length]
    have := nd_le 19 n.toNat (by omega)
    omega
theorem tab_later12 {w w' : World} {name : String} {k : IntKind} {zs : List Int} (h : Lib.TabIs Tryd.prog w name k zs) (hb : Below w.heap.size w w') : Lib.TabIs Tryd.prog w' name k zs := by
  unfold Lib.TabIs World.var? at *
  cases hg : Tryd.prog.globalNamed name with
  | none => simp [hg] at h
  | some g =>
    simp only [hg, Option.bind_some] at h ⊢
    have hlt : g < w.heap.size := by
      rcases Nat.lt_or_ge g w.heap.size with h' | h'
      · exact h'
      · rw [Array.getElem?_eq_none h'] at h; simp at h
    rw [hb.block g hlt]
    exact h
end Go.Proofs.YtdganemgldocoaaDoor

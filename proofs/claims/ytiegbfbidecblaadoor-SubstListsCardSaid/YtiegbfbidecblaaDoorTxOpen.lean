/- A slice of texts that came in. -/
import Derived.Test.YtiegbfbidecblaaDoorQtNum
import Derived.ProofKit
import Derived.SliceStrings
import Derived.OpenShut
import Derived.ShutString
import Derived.ChangeOld
namespace Go.Proofs.YtiegbfbidecblaaDoor
open Go.RowKit Go.ChangeShapes Go.WideShapes Go.ChangeAt

/-- a slice of texts that came in, as the walk is told of it -/
theorem tx_open {H : Type} {enc : TypeId × Value → H} {W : World} {a : Option Addr} {len cap : Nat} {d : DataW H} {p : List MemPlace}
    (hj : DataW.Trod enc Tryd.prog W 0 (fun _ => true) true 22 (.slice a len cap) d p) : ∃ l, TxRow W (.slice a len cap) l := by
  obtain ⟨fuel, hf⟩ := hj
  rcases open_strings Tryd.underlying22 Tryd.underlying9 (by kernel_rfl) hf with ⟨hcs, _⟩ | ⟨x, l, c, ss, hcs, _, hl, hm, hz, hx, hcell, hws⟩
  · simp [Value.cells] at hcs
    obtain ⟨rfl, rfl, rfl⟩ := hcs
    exact ⟨[], none, 0, rfl, ⟨by decide, fun _ => rfl⟩, fun h => absurd rfl h⟩
  · simp [Value.cells] at hcs
    obtain ⟨rfl, rfl, rfl⟩ := hcs
    have hlen : (ss.take len).length = len := by rw [List.length_take]; simp at hz; omega
    unfold maxLen at hm
    refine ⟨ss.take len, some x, cap, by rw [hlen], ⟨by omega, fun e => by cases e⟩, fun hne => ?_⟩
    have h0 : 0 < ss.length := by
      cases ss with
      | nil => simp at hne
      | cons y r => simp
    obtain ⟨b, off, spot⟩ := x
    have hc0 := hcell 0 h0
    have hspot : spot = none := by simpa [Addr.add] using World.cell?_spot hc0
    subst hspot
    refine ⟨b, off, rfl, ?_, fun j y hy => ?_⟩
    · have h1 := hc0
      rw [Addr.add_lit, Nat.add_zero] at h1
      exact cell_block h1
    · have hj : j < len := by have := (List.getElem?_eq_some_iff.1 hy).1; omega
      have hjs : j < ss.length := by rw [List.length_take] at hlen; omega
      have h1 := hcell j hjs
      rw [Addr.add_lit] at h1
      rw [List.getElem?_take_of_lt hj] at hy
      rw [h1, List.getD_eq_getElem?_getD, hy]; rfl
end Go.Proofs.YtiegbfbidecblaaDoor

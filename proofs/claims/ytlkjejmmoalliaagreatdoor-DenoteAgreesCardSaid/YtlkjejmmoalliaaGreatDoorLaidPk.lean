/- What the laws of layer 9 list; how rows of numbers come in. -/
import Derived.Test.YtlkjejmmoalliaaGreatDoorLaidPg
import Derived.Test.YtlkjejmmoalliaaGreatDoorPkPart
namespace Go.Proofs.YtlkjejmmoalliaaGreatDoor
open Go.RowKit Go.Maps Go.ChangeShapes Go.WideShapes Go.Deep

/-- the errors of Parse and of Compile -/
def four9 : List Sn := [⟨2, "millwright/api.ErrLong", 0, [116, 104, 101, 114, 101, 32, 105, 115, 32, 109, 111, 114, 101, 32, 116, 104, 97, 110, 32, 109, 97, 121, 32, 98, 101]⟩,
  ⟨6, "millwright/api.ErrRegex", 1, [105, 116, 32, 105, 115, 32, 110, 111, 32, 114, 101, 103, 117, 108, 97, 114, 32, 101, 120, 112, 114, 101, 115, 115, 105, 111, 110]⟩,
  ⟨10, "millwright/api.ErrFull", 2, [116, 104, 101, 114, 101, 32, 105, 115, 32, 110, 111, 32, 109, 111, 114, 101, 32, 114, 111, 111, 109]⟩,
  ⟨17, "millwright/api.ErrKind", 3, [105, 116, 32, 105, 115, 32, 111, 102, 32, 97, 110, 111, 116, 104, 101, 114, 32, 107, 105, 110, 100]⟩]
theorem all_ok9 : four9.all Sn.okB = true := by kernel_rfl
theorem four9_ok : ∀ q ∈ four9, q.ok := fun q hq => by
  have := List.all_eq_true.1 all_ok9 q hq
  unfold Sn.okB at this
  rw [Bool.and_eq_true, beq_iff_eq, beq_iff_eq] at this
  exact this
theorem four9_L3 : ∀ x ∈ L3, ∃ q ∈ four9, (q.num, q.g) = x := by decide
theorem cellsInt9 : Tryz.prog.cellsOf 3 = 1 := by kernel_rfl
/-- a slice of numbers that came in -/
theorem irow_open {H : Type} {enc : TypeId × Value → H} {W : World} {a : Option Addr} {len cap : Nat} {d : DataW H} {p : List MemPlace}
    (hj : DataW.Trod enc Tryz.prog W 0 (fun _ => true) true 37 (.slice a len cap) d p) : ∃ l, IRow W (.slice a len cap) l ∧ l.length ≤ maxLen := by
  obtain ⟨fuel, hf⟩ := hj
  rcases open_ints Tryz.underlying37 Tryz.underlying3 cellsInt9 hf with ⟨hcs, _⟩ | ⟨x, l, c, zs, hcs, _, hl, hm, hz, hx, hcell, hwz⟩
  · simp [Value.cells] at hcs
    obtain ⟨rfl, rfl, rfl⟩ := hcs
    exact ⟨[], ⟨none, 0, rfl, fun k x hx => by simp at hx⟩, by simp [maxLen]⟩
  · simp [Value.cells] at hcs
    obtain ⟨rfl, rfl, rfl⟩ := hcs
    have hzl : zs.length = cap := by simpa using hz
    have hlen : (zs.take len).length = len := by rw [List.length_take]; omega
    refine ⟨zs.take len, ⟨some x, cap, by rw [hlen], fun k y hy => ?_⟩, by rw [hlen]; exact Nat.le_trans hl hm⟩
    have hk : k < len := by have := (List.getElem?_eq_some_iff.1 hy).1; omega
    have hks : k < zs.length := by omega
    obtain ⟨b, off, spot⟩ := x
    have hc0 := hcell 0 (by omega)
    have hspot : spot = none := by simpa [Addr.add] using World.cell?_spot hc0
    subst hspot
    refine ⟨b, off, rfl, ?_⟩
    have h1 := hcell k hks
    rw [Addr.add_lit] at h1
    rw [List.getElem?_take_of_lt hk, List.getElem?_eq_getElem hks] at hy
    simp only [Option.some.injEq] at hy
    rw [h1, List.getD_eq_getElem?_getD, List.getElem?_eq_getElem hks]
    simp [hy]
end Go.Proofs.YtlkjejmmoalliaaGreatDoor

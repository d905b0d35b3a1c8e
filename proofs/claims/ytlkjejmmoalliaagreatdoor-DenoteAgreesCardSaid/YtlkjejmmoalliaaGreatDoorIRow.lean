/- Rows of numbers that came in; whether two are the same. -/
import Derived.Test.YtlkjejmmoalliaaGreatDoorClsBase
namespace Go.Proofs.YtlkjejmmoalliaaGreatDoor
open Go.RowKit

/-- v is a slice that holds the numbers l -/
def IRow (w : World) (v : Value) (l : List Int) : Prop :=
  ∃ a c, v = .slice a l.length c ∧ ∀ k x, l[k]? = some x → ∃ b off, a = some ⟨b, off, none⟩ ∧ w.cell? ⟨b, off + k, none⟩ = some (.int .i64 x)
theorem IRow.grown {w w' : World} {v : Value} {l : List Int} (h : IRow w v l) (g : w.grownBy w' none) : IRow w' v l := by
  obtain ⟨a, c, e, hc⟩ := h
  refine ⟨a, c, e, fun k x hx => ?_⟩
  obtain ⟨b, off, ea, hh⟩ := hc k x hx
  exact ⟨b, off, ea, g.cell hh (by simp)⟩
set_option maxRecDepth 100000 in
set_option maxHeartbeats 2000000 in
theorem cSameI (va vb : Value) (k : List Int) (w : World) (hk : k.length ≤ 1000) (ha : IRow w va k) (hb : IRow w vb k) :
    Calls Tryz.prog 10 #[va, vb] w fun e w' => e = .returned (.bool true) ∧ w.grownBy w' none := by
  have HA := Lib.hid ha; have HB := Lib.hid hb
  obtain ⟨a, c, rfl, -⟩ := ha
  obtain ⟨b, d, rfl, -⟩ := hb
  go_enter Tryz.func10, Tryz.ntmps10
  go_wp2
  go_loopw [5, 13] (fun _ i wr => ∃ j : Nat, j ≤ k.length ∧ i = .int .i64 j ∧ Hid (w.grownBy wr none)) (fun _ i _ => k.length - (intOf i).toNat)
  case atStart => exact ⟨0, Nat.zero_le _, rfl, Lib.hid (World.grownBy.refl _ _)⟩
  case round =>
    obtain ⟨j, hj, rfl, hG⟩ := hrel
    by_cases hlt : j < k.length
    · obtain ⟨x, hx⟩ : ∃ x, k[j]? = some x := ⟨_, List.getElem?_eq_getElem hlt⟩
      obtain ⟨a', c', e1, h1⟩ := HA.out.grown hG.out
      cases e1
      obtain ⟨b', d', e2, h2⟩ := HB.out.grown hG.out
      cases e2
      obtain ⟨p, o, rfl, z1⟩ := h1 j x hx
      obtain ⟨p', o', rfl, z2⟩ := h2 j x hx
      clear h1 h2 hx
      go_wp2
      go_quiet (fail)
      go_wp2
      go_roundw
      case rel => exact ⟨j + 1, by omega, by go_num, Lib.hid (grown_drewN hG.out _)⟩
      case measure => simp [intOf]; omega
    · obtain rfl : j = k.length := by omega
      go_wp2
      go_ret
      exact ⟨rfl, hG.out⟩
end Go.Proofs.YtlkjejmmoalliaaGreatDoor

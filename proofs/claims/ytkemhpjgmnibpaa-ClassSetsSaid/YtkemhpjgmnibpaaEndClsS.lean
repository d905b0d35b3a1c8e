/- The sets of all lists of bytes, and between any two bytes, are the document's; the list reads behind the call as it did. No condition on the input. -/
import Derived.Test.YtkemhpjgmnibpaaLawClsS
import Derived.Test.YtkemhpjgmnibpaaClsOpen
namespace Go.Proofs.Ytkemhpjgmnibpaa.classSets
open Go.ChangeShapes Go.WideShapes Go.ChangeAt Go.RowKit

/-- a slice of bytes that came in, as the walk is told of it -/
theorem bytes_open {H : Type} {enc : TypeId × Value → H} {W : World} {a : Option Addr} {len cap : Nat} {d : DataW H} {p : List MemPlace}
    (hj : DataW.Trod enc Try.prog W 0 (fun _ => true) true 22 (.slice a len cap) d p) : len ≤ maxLen ∧ (len ≤ 300 → ∃ l, BRow W (.slice a len cap) l) := by
  obtain ⟨fuel, hf⟩ := hj
  rcases open_ints Try.underlying22 Try.underlying5 cellsU8 hf with ⟨hcs, _⟩ | ⟨x, l, c, zs, hcs, _, hl, hm, hz, hx, hcell, hwz⟩
  · simp [Value.cells] at hcs
    obtain ⟨rfl, rfl, rfl⟩ := hcs
    exact ⟨by unfold maxLen; omega, fun _ => ⟨[], none, 0, rfl, ⟨by decide, by simp⟩, fun h => absurd rfl h⟩⟩
  · simp [Value.cells] at hcs
    obtain ⟨rfl, rfl, rfl⟩ := hcs
    refine ⟨Nat.le_trans hl hm, fun h300 => ?_⟩
    have hzl : zs.length = cap := by simpa using hz
    have hlen : ((zs.take len).map Int.toNat).length = len := by rw [List.length_map, List.length_take]; omega
    refine ⟨(zs.take len).map Int.toNat, some x, cap, by rw [hlen], ⟨by omega, fun b hb => ?_⟩, fun hne => ?_⟩
    · obtain ⟨z, hz', rfl⟩ := List.mem_map.1 hb
      have := bounds_u8 (hwz z (List.mem_of_mem_take hz'))
      omega
    · have h0 : 0 < zs.length := by
        cases zs with
        | nil => simp at hne
        | cons y r => simp
      obtain ⟨b, off, spot⟩ := x
      have hc0 := hcell 0 h0
      have hspot : spot = none := by simpa [Addr.add] using World.cell?_spot hc0
      subst hspot
      refine ⟨b, off, rfl, ?_, fun j y hy => ?_⟩
      · have h1 := hc0
        rw [Addr.add_lit, Nat.add_zero] at h1
        exact cell_block h1
      · have hj : j < len := by have := (List.getElem?_eq_some_iff.1 hy).1; omega
        have hjs : j < zs.length := by omega
        have h1 := hcell j hjs
        rw [Addr.add_lit] at h1
        rw [List.getElem?_map, List.getElem?_take_of_lt hj, List.getElem?_eq_getElem hjs] at hy
        simp only [Option.map_some, Option.some.injEq] at hy
        have hb := bounds_u8 (hwz _ (List.getElem_mem hjs))
        rw [h1, List.getD_eq_getElem?_getD, List.getElem?_eq_getElem hjs]
        unfold byteV
        rw [← hy]
        simp only [Option.getD_some, Option.some.injEq, Value.int.injEq, true_and]
        omega

set_option maxRecDepth 100000 in
theorem lifted (os : Os) (started : os.Started) (H : Type) (enc : TypeId × Value → H) :
    ReturnsInHanded {} Try.checked os 3 .any (Rows.classSetsSpec.pre6 enc Try.prog Try.f3 Rows.classSetsRow.domain false) (Rows.classSetsSpec.post enc Try.prog Try.f3 false true false false) := by
  refine returnsInHanded_of_change (C := Try.checked) own started (by kernel_rfl) Try.func3
    (ChangeSpec.witness6 (enc := enc) (C := Try.checked) false ⟨#[], #[.slice none 0 0, .int .u8 0, .int .u8 0], []⟩ 8 (by kernel_rfl) (by kernel_rfl) (by kernel_rfl) (by kernel_rfl)) ?_
  intro W base args ds gs before hval0 hW hcnd _
  have hval : ∀ (j : Nat) t v, Try.f3.params[j]? = some t → args[j]? = some v → Value.okWide Try.prog W .any base t v := hval0
  have hW' := hW
  obtain ⟨p, q, hA0, hV, rfl, hfz, hnd⟩ := hW
  have hA : DataW.TrodAll enc Try.prog W 0 (fun _ => true) true Try.f3.params.toList args.toList ds p := hA0
  rw [Try.params3] at hA hval
  obtain ⟨v0, vs0, d0, ds0, p0, q0, hargs, rfl, rfl, h0, r0⟩ := trodAll_cons hA
  obtain ⟨v1, vs1, d1, ds1, p1, q1, rfl, rfl, rfl, h1, r1⟩ := trodAll_cons r0
  obtain ⟨v2, vs2, d2, ds2, p2, q2, rfl, rfl, rfl, h2, r2⟩ := trodAll_cons r1
  obtain ⟨rfl, rfl, rfl⟩ := trodAll_nil r2
  obtain rfl : args = #[v0, v1, v2] := by cases args; simp_all
  obtain ⟨rfl, rfl⟩ := trodVars_none hV
  obtain ⟨a0, len0, cap0, rfl⟩ := okWide_slice Try.underlying22 (hval 0 22 v0 rfl rfl)
  have lt0 : ∀ x ∈ p0, x.block < W.heap.size := by obtain ⟨m, hm⟩ := h0; exact DataW.trod_lt m _ _ _ hm
  obtain ⟨hmax, hrow⟩ := bytes_open h0
  obtain ⟨lo, rfl, rfl, rfl, w1⟩ := open_int Try.underlying5 (hval 1 5 v1 rfl rfl) h1
  obtain ⟨hi, rfl, rfl, rfl, w2⟩ := open_int Try.underlying5 (hval 2 5 v2 rfl rfl) h2
  clear hA0 hval0
  have walks : Calls Try.prog 3 #[.slice a0 len0 cap0, .int .u8 lo, .int .u8 hi] W fun e w' => e = .returned (.bool true) ∧ W.grownBy w' none := by
    by_cases h300 : len0 ≤ 300
    · obtain ⟨l, hl⟩ := hrow h300
      have b1 := bounds_u8 w1; have b2 := bounds_u8 w2
      obtain ⟨lo', rfl⟩ := Int.eq_ofNat_of_zero_le b1.1
      obtain ⟨hi', rfl⟩ := Int.eq_ofNat_of_zero_le b2.1
      exact walk _ l lo' hi' (by omega) (by omega) W hl
    · exact walkLong a0 len0 cap0 lo hi (by omega) hmax W
  refine walks.mono fun e W' ⟨he, g⟩ => ?_
  have bel := below_of_grown g
  subst he
  exact ⟨_, rfl, _, _, _, [], _, [], hW', trodAll_mk1 (shut_bool Try.underlying4 _), (trodAll_cons_mk (Below.trod laidOut (by kernel_rfl) (of_decide_eq_true (by kernel_rfl)) h0 bel lt0) (trodAll_cons_mk (shut_int Try.underlying5 w1) (trodAll_cons_mk (shut_int Try.underlying5 w2) trodAll_mk0))), rfl, bel.frame _, fun h => by cases h⟩

theorem over : Rows.classSetsRow.holds Try.pinned (OpenSpec.ofChange Rows.classSetsSpec) :=
  OpenClaim.holds_of_wide 3 Try.f3 rfl rfl rfl rfl rfl rfl rfl ⟨rfl, rfl, rfl, rfl, rfl⟩ rfl rfl rfl rfl rfl (by kernel_rfl) Try.func3 (by kernel_rfl)
    (of_decide_eq_true (by kernel_rfl)) (by unfold Func.isWrapper; first | (rw [if_pos (by decide +kernel)]; kernel_rfl) | (rw [if_neg (by decide +kernel)]; exact ⟨rfl, rfl⟩))
    (fun os started H enc _ => lifted os started H enc)

theorem proved : Rows.ClassSetsSaid := over
end Go.Proofs.Ytkemhpjgmnibpaa.classSets

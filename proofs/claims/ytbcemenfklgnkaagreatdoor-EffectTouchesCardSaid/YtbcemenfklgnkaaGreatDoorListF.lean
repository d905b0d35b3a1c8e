/- The program's sorted list. -/
import Derived.Test.YtbcemenfklgnkaaGreatDoorListC
import Derived.Test.YtbcemenfklgnkaaGreatDoorSortPlain
namespace Go.Proofs.YtbcemenfklgnkaaGreatDoor
open Go.RowKit Go.Maps

theorem sort_enc (l : List ByteArray) : (((l.map (·.data.toList)).mergeSort fun x y => decide (x ≤ y))).map encStr = cellsOf (sortL l) := by
  unfold sortL cellsOf
  rw [List.map_map]; rfl

/-- slices.Sort on a list of the call's own -/
theorem sSort (v : Value) (l : List ByteArray) (base : Nat) (w : World) (h : w.ownsRow base 9 1 v l.length (cellsOf l)) (hl : l.length ≤ 80) :
    Calls Tryz.prog 68 #[v] w fun e w' => e = .returned (.tuple #[]) ∧ w'.ownsRow base 9 1 v (sortL l).length (cellsOf (sortL l)) ∧ w.grownBy w' v.ownBlock := by
  by_cases h0 : l = []
  · subst h0
    have hv : ∃ a c, v = .slice a 0 c := by
      rcases h.2 with ⟨rfl, _⟩ | ⟨g, cap, cur, rfl, _⟩
      · exact ⟨_, _, rfl⟩
      · exact ⟨_, _, rfl⟩
    obtain ⟨a, c, rfl⟩ := hv
    refine (Tryz.slices_Sort_string_none a c w).mono fun _ _ ⟨he, hw⟩ => ⟨he, ?_, ?_⟩
    · subst hw
      have : sortL [] = [] := List.eq_nil_of_length_eq_zero (by rw [sort_len]; rfl)
      rw [this]; exact h
    · subst hw; exact World.grownBy.refl _ _
  · rcases h.2 with ⟨rfl, hn⟩ | ⟨g, cap, cur, rfl, hb, hg, h1, h2, h3, h4⟩
    · exact absurd (List.eq_nil_of_length_eq_zero hn) h0
    · have hlen : (l.map (·.data.toList)).length = l.length := by simp
      have henc : (l.map (·.data.toList)).map encStr = cellsOf l := Lib.map_encStr l
      have hH : Go.Sort.Holds encStr w g 0 (l.map (·.data.toList)).toArray := holds_of_block hg (by rw [hlen, henc]; simpa using h4)
      have hlt : g < w.heap.size := (Array.getElem?_eq_some_iff.1 hg).1
      have hc := Tryz.slices_Sort_string g 0 cap (l.map (·.data.toList)) w hH hlt (by rw [hlen]; omega)
      rw [hlen] at hc
      refine hc.mono fun _ _ ⟨he, n, os, hw⟩ => ⟨he, ?_, ?_⟩
      · rw [hw]
        have := ownsRow_sorted (n := n) (os := os) (ss := l.map (·.data.toList)) (ts := (l.map (·.data.toList)).mergeSort fun x y => decide (x ≤ y)) (by simp) hb hg (by rw [hlen]; exact h1) h2 h3
        rw [sort_enc, hlen] at this
        rw [sort_len]; exact this
      · rw [hw]; exact grownBy_sorted _

set_option maxHeartbeats 400000 in
theorem nSorted (va : Value) (la : List ByteArray) (w : World) (ha : Row w va la) (na : la.length ≤ 40) (sa : ∀ x ∈ la, x.size ≤ 100) :
    Calls Tryz.prog 45 #[va] w fun e w' => ∃ v, e = .returned v ∧ w'.ownsRow w.heap.size 9 1 v (sortL (uni la)).length (cellsOf (sortL (uni la))) ∧ Below w.heap.size w w' := by
  have hnil : Row w (.slice none 0 0) [] := ⟨none, 0, rfl, ⟨by decide, fun _ => rfl⟩, fun h => absurd rfl h⟩
  have HU := Lib.hid (nUnion va _ la [] w ha hnil na (by decide) sa (by simp))
  rw [List.append_nil] at HU
  have hul : (uni la).length ≤ 80 := Nat.le_trans (uni_len la) (by omega)
  clear ha hnil sa
  go_enter Tryz.func45, Tryz.ntmps45
  go_wp2_with (go_at_call 67; refine HU.out.mono ?_; rintro e w1 ⟨v, rfl, hown, hbel⟩)
  have HS := Lib.hid (sSort v (uni la) w.heap.size w1 hown hul)
  have hlt := Lib.hid hown.lt
  have Hb := Lib.hid hbel
  clear hown hbel
  go_wp2_with (go_at_call 68; refine HS.out.mono ?_; rintro e w2 ⟨rfl, hown2, hg2⟩)
  go_ret
  exact ⟨_, rfl, hown2, Hb.out.grown hg2 Hb.out.size (fun k e => (hlt.out k e).1)⟩
end Go.Proofs.YtbcemenfklgnkaaGreatDoor

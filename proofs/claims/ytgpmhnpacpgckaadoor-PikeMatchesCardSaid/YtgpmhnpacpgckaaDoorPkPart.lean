/- What stands between two kept places: the walk of Part. -/
import Derived.Test.YtgpmhnpacpgckaaDoorPkMem
namespace Go.Proofs.YtgpmhnpacpgckaaDoor
open Go.RowKit

/-- v is a slice that holds the numbers l -/
def IRow (w : World) (v : Value) (l : List Int) : Prop :=
  ∃ a c, v = .slice a l.length c ∧ ∀ k x, l[k]? = some x → ∃ b off, a = some ⟨b, off, none⟩ ∧ w.cell? ⟨b, off + k, none⟩ = some (.int .i64 x)
theorem IRow.grown {w w' : World} {v : Value} {l : List Int} (h : IRow w v l) (g : w.grownBy w' none) : IRow w' v l := by
  obtain ⟨a, c, e, hc⟩ := h
  refine ⟨a, c, e, fun k x hx => ?_⟩
  obtain ⟨b, off, ea, hh⟩ := hc k x hx
  exact ⟨b, off, ea, g.cell hh (by simp)⟩
theorem irow_of_block {w : World} {b n : Nat} {l : List Int} {t : TypeId} (h : w.heap[b]? = some (.cells (intsV l).toArray t (0, 0))) (hn : l.length = n) (c : Nat) : IRow w (.slice (some ⟨b, 0, none⟩) n c) l := by
  subst hn
  refine ⟨_, c, rfl, fun k x hx => ⟨b, 0, rfl, ?_⟩⟩
  rw [Nat.zero_add, cell_of_row w b k _ _ _ h]
  simpa using intsV_get hx
/-- a part of a text -/
def partS (s : ByteArray) (l : List Int) (i : Int) : ByteArray :=
  if i < 0 ∨ (l.length / 2 : Nat) ≤ i then ByteArray.empty
  else if l.getD (2 * i.toNat) 0 < 0 ∨ l.getD (2 * i.toNat) 0 > l.getD (2 * i.toNat + 1) 0 ∨ l.getD (2 * i.toNat + 1) 0 > s.size then ByteArray.empty
  else s.extract (l.getD (2 * i.toNat) 0).toNat (l.getD (2 * i.toNat + 1) 0).toNat
theorem part_none {s : ByteArray} {l : List Int} {i : Int} (h : i < 0 ∨ (l.length / 2 : Nat) ≤ i) : partS s l i = ByteArray.empty := by unfold partS; rw [if_pos h]
theorem part_off {s : ByteArray} {l : List Int} {j : Nat} {f t : Int} (h : 2 * j + 1 < l.length) (hf : l[2 * j]? = some f) (ht : l[2 * j + 1]? = some t) (hx : f < 0 ∨ f > t ∨ t > s.size) : partS s l j = ByteArray.empty := by
  unfold partS
  rw [if_neg (by omega), if_pos (by simp only [Int.toNat_natCast, List.getD_eq_getElem?_getD, hf, ht, Option.getD_some]; exact hx)]
theorem part_is {s : ByteArray} {l : List Int} {j f t : Nat} (h : 2 * j + 1 < l.length) (hf : l[2 * j]? = some (f : Int)) (ht : l[2 * j + 1]? = some (t : Int)) (h1 : f ≤ t) (h2 : t ≤ s.size) : partS s l j = s.extract f t := by
  unfold partS
  rw [if_neg (by omega), if_neg (by simp only [Int.toNat_natCast, List.getD_eq_getElem?_getD, hf, ht, Option.getD_some]; omega)]
  simp only [Int.toNat_natCast, List.getD_eq_getElem?_getD, hf, ht, Option.getD_some]
theorem ret_str {a b : ByteArray} (h : a = b) : Ending.returned (.string a) = .returned (.string b) := by rw [h]

set_option maxRecDepth 100000 in
set_option maxHeartbeats 4000000 in
theorem cPart (s : ByteArray) (kv : Value) (l : List Int) (i : Int) (w : World) (h : IRow w kv l) (hl : l.length ≤ 1000) :
    Calls Tryd.prog 10 #[.string s, kv, .int .i64 i] w fun e w' => e = .returned (.string (partS s l i)) ∧ w.grownBy w' none := by
  obtain ⟨a, c, rfl, hc⟩ := h
  by_cases h0 : i < 0
  · have HP := Lib.hid (part_none (s := s) (l := l) (i := i) (.inl h0))
    clear hc
    go_enter Tryd.func10, Tryd.ntmps10
    go_wp2
    go_ret
    exact ⟨ret_str HP.out.symm, World.grownBy.refl _ _⟩
  obtain ⟨j, rfl⟩ : ∃ j : Nat, i = j := ⟨i.toNat, by omega⟩
  clear h0
  by_cases h1 : l.length / 2 ≤ j
  · have HP := Lib.hid (part_none (s := s) (l := l) (i := (j : Int)) (.inr (by omega)))
    have hd : decide ((j : Int) ≥ (l.length : Int) / 2) = true := by simp; omega
    clear hc
    go_enter Tryd.func10, Tryd.ntmps10
    go_wp2
    go_ret
    exact ⟨ret_str HP.out.symm, World.grownBy.refl _ _⟩
  have hd : decide ((j : Int) ≥ (l.length : Int) / 2) = false := by simp; omega
  have hj : 2 * j + 1 < l.length := by omega
  obtain ⟨f, hf⟩ : ∃ f, l[2 * j]? = some f := ⟨_, List.getElem?_eq_getElem (by omega)⟩
  obtain ⟨t, ht⟩ : ∃ t, l[2 * j + 1]? = some t := ⟨_, List.getElem?_eq_getElem (by omega)⟩
  obtain ⟨b, off, rfl, cf⟩ := hc _ _ hf
  obtain ⟨b', off', e', ct⟩ := hc _ _ ht
  cases e'
  have hw1 : IntKind.i64.wrap (2 * (j : Int)) = 2 * (j : Int) := by rw [IntKind.wrap_i64]; omega
  have hw2 : IntKind.i64.wrap (2 * (j : Int) + 1) = 2 * (j : Int) + 1 := by rw [IntKind.wrap_i64]; omega
  have b1 : (0 : Int) ≤ 2 * (j : Int) := by omega
  have b2 : 2 * (j : Int) < l.length := by omega
  have b3 : (0 : Int) ≤ 2 * (j : Int) + 1 := by omega
  have b4 : 2 * (j : Int) + 1 < l.length := by omega
  have n1 : (2 * (j : Int)).toNat = 2 * j := by omega
  have n2 : (2 * (j : Int) + 1).toNat = 2 * j + 1 := by omega
  have ct : w.cell? ⟨b, off + (2 * j + 1), none⟩ = some (.int .i64 t) := ct
  have HJ := Lib.hid hj
  have HF := Lib.hid hf
  have HT := Lib.hid ht
  clear hc h1 hj hf ht
  go_enter Tryd.func10, Tryd.ntmps10
  go_wp2
  go_quiet (fail)
  clear hw1 hw2 b1 b2 b3 b4 n1 n2 cf ct
  by_cases f0 : f < 0
  · have HP := Lib.hid (part_off HJ.out HF.out HT.out (s := s) (.inl f0))
    go_wp2
    go_ret
    exact ⟨ret_str HP.out.symm, grown_drewN (World.grownBy.refl _ _) _⟩
  obtain ⟨m, rfl⟩ : ∃ m : Nat, f = m := ⟨f.toNat, by omega⟩
  clear f0
  by_cases f1 : (m : Int) > t
  · have HP := Lib.hid (part_off HJ.out HF.out HT.out (s := s) (.inr (.inl f1)))
    go_wp2
    go_ret
    exact ⟨ret_str HP.out.symm, grown_drewN (World.grownBy.refl _ _) _⟩
  obtain ⟨x, rfl⟩ : ∃ x : Nat, t = x := ⟨t.toNat, by omega⟩
  have hmx : m ≤ x := by omega
  clear f1
  by_cases f2 : s.size < x
  · have HP := Lib.hid (part_off HJ.out HF.out HT.out (s := s) (.inr (.inr (by omega))))
    go_wp2
    go_ret
    exact ⟨ret_str HP.out.symm, grown_drewN (World.grownBy.refl _ _) _⟩
  have hxs : x ≤ s.size := by omega
  have HP := Lib.hid (part_is HJ.out HF.out HT.out hmx hxs)
  clear f2
  go_wp2
  go_ret
  exact ⟨ret_str HP.out.symm, grown_drewN (World.grownBy.refl _ _) _⟩
end Go.Proofs.YtgpmhnpacpgckaaDoor

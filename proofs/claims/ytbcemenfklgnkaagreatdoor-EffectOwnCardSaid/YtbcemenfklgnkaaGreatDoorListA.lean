/- Walks that only read lists of texts. -/
import Derived.Test.YtbcemenfklgnkaaGreatDoorRows
import Derived.Test.YtbcemenfklgnkaaGreatDoorShelf
import Derived.Test.YtbcemenfklgnkaaGreatDoorPlain
import Derived.WalkKit
import Derived.WalkSpells
import Derived.BigQuiet
import Derived.Deep.QuietTactic
import Derived.Lib.Hide
namespace Go.Proofs.YtbcemenfklgnkaaGreatDoor
open Go.RowKit

set_option maxHeartbeats 400000 in
theorem lLong (v : Value) (l : List ByteArray) (w : World) (h : Row w v l) :
    Calls Tryz.prog 19 #[v, .int .i64 40, .int .i64 100] w fun e w' => e = .returned (.bool (longB l)) ∧ w = w' := by
  obtain ⟨a, c, rfl, ⟨hn, -⟩, hr⟩ := h
  by_cases h40 : 40 < l.length
  · have hL := Lib.hid (long_many l h40)
    clear hr
    go_enter Tryz.func19, Tryz.ntmps19
    go_wp2
    go_ret
    exact ⟨ret_bool hL.out.symm, rfl⟩
  have H40 : l.length ≤ 40 := by omega
  clear h40
  have HR := Lib.hid hr
  clear hr
  go_enter Tryz.func19, Tryz.ntmps19
  go_wp2
  go_loop [8, 15] (fun _ i => ∃ k : Nat, k ≤ l.length ∧ i = .int .i64 k ∧ Hid ((l.take k).any bigB = false)) (fun _ i => l.length - (intOf i).toNat)
  case atStart => exact ⟨0, Nat.zero_le _, rfl, Lib.hid rfl⟩
  case round =>
    obtain ⟨k, hk, rfl, ha⟩ := hrel
    by_cases hlt : k < l.length
    · obtain ⟨x, hx⟩ := get_of l k hlt
      obtain ⟨b, off, rfl, hb, hc⟩ := HR.out (by intro e; rw [e] at hlt; simp at hlt)
      have hcell := hc k x hx
      have Hx := Lib.hid hx
      clear hc hx
      by_cases hbig : 100 < x.size
      · go_wp2
        go_ret
        exact ⟨ret_bool (long_hit l k x Hx.out hbig).symm, rfl⟩
      · go_wp2
        go_round
        case rel => exact ⟨k + 1, by omega, by go_num, big_snoc l k x Hx.out (by omega) ha.out⟩
        case measure => simp [intOf]; omega
    · have hL := Lib.hid (long_not l H40 k (by omega) ha.out)
      go_wp2
      go_ret
      exact ⟨ret_bool hL.out.symm, rfl⟩

set_option maxHeartbeats 400000 in
theorem lHas (v : Value) (l : List ByteArray) (s : ByteArray) (w : World) (h : Row w v l) :
    Calls Tryz.prog 20 #[v, .string s] w fun e w' => e = .returned (.bool (hasB l s)) ∧ w = w' := by
  obtain ⟨a, c, rfl, ⟨hn, -⟩, hr⟩ := h
  have HR := Lib.hid hr
  clear hr
  go_enter Tryz.func20, Tryz.ntmps20
  go_wp2
  go_loop [6, 9] (fun _ i => ∃ k : Nat, k ≤ l.length ∧ i = .int .i64 k ∧ Hid (s ∉ l.take k)) (fun _ i => l.length - (intOf i).toNat)
  case atStart => exact ⟨0, Nat.zero_le _, rfl, Lib.hid (by simp)⟩
  case round =>
    obtain ⟨k, hk, rfl, ha⟩ := hrel
    by_cases hlt : k < l.length
    · obtain ⟨x, hx⟩ := get_of l k hlt
      obtain ⟨b, off, rfl, hb, hc⟩ := HR.out (by intro e; rw [e] at hlt; simp at hlt)
      have hcell := hc k x hx
      have Hx := Lib.hid hx
      clear hc hx
      by_cases he : (x.toList == s.toList) = true
      · go_wp2
        go_ret
        exact ⟨ret_bool (has_hit l k x s Hx.out (eq_of_toList.1 he)).symm, rfl⟩
      · have he' : (x.toList == s.toList) = false := by simpa using he
        clear he
        go_wp2
        go_round
        case rel => exact ⟨k + 1, by omega, by go_num, not_snoc l s k x Hx.out (ne_of_toList.1 he') ha.out⟩
        case measure => simp [intOf]; omega
    · have hL := Lib.hid (has_not l s k (by omega) ha.out)
      go_wp2
      go_ret
      exact ⟨ret_bool hL.out.symm, rfl⟩

/-- slices.Contains, in this text's words -/
theorem sContains (v : Value) (l : List ByteArray) (s : ByteArray) (w : World) (h : Row w v l) :
    Calls Tryz.prog 66 #[v, .string s] w fun e w' => e = .returned (.bool (hasB l s)) ∧ w = w' := by
  obtain ⟨a, c, rfl, ⟨hn, -⟩, hr⟩ := h
  by_cases hl : l = []
  · subst hl
    exact (Tryz.slices_Contains_string_empty a c s w).mono fun _ _ ⟨he, hw⟩ => ⟨he, hw.symm⟩
  · obtain ⟨b, off, rfl, hb, hc⟩ := hr hl
    refine (Tryz.slices_Contains_string b off l.length c l s w (Nat.le_refl _) (by omega) (fun j hj => ?_)).mono fun _ _ ⟨he, hw⟩ => ⟨?_, hw.symm⟩
    · have := hc j l[j] (List.getElem?_eq_getElem hj)
      rw [this, List.getD_eq_getElem?_getD, List.getElem?_eq_getElem hj]; rfl
    · rw [he, List.take_of_length_le (Nat.le_refl _), has_lib]

theorem nHas (v : Value) (l : List ByteArray) (s : ByteArray) (w : World) (h : Row w v l) :
    Calls Tryz.prog 44 #[v, .string s] w fun e w' => e = .returned (.bool (hasB l s)) ∧ w = w' := by
  have H := Lib.hid h
  clear h
  go_enter Tryz.func44, Tryz.ntmps44
  go_wp2_with (go_at_call 66; refine (sContains _ _ _ _ H.out).mono ?_; rintro e w' ⟨rfl, rfl⟩)
  go_ret
  exact ⟨rfl, rfl⟩
end Go.Proofs.YtbcemenfklgnkaaGreatDoor

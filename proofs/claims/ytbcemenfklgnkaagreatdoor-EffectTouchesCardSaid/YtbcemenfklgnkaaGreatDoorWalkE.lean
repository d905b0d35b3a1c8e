/- A member's name: the document's answer. -/
import Derived.Test.YtbcemenfklgnkaaGreatDoorCountRef
import Derived.WalkSpells
import Derived.BigQuiet
import Derived.Deep.QuietTactic
import Derived.WalkSmall
namespace Go.Proofs.YtbcemenfklgnkaaGreatDoor
open Go.RowKit

set_option maxHeartbeats 400000 in
theorem rMember_no (s : ByteArray) (w : World) (hs : s.size ≤ maxLen) (h : memB s = false) :
    Calls Tryz.prog 25 #[.string s] w fun e w' => e = .returned (.tuple #[.string ⟨#[]⟩, .string ⟨#[]⟩, .bool false]) ∧ w = w' := by
  have hs' := hs
  unfold maxLen at hs'
  by_cases h1' : rightB s = false
  · clear h
    go_enter Tryz.func25, Tryz.ntmps25
    go_wp2_with (go_at_call 48; refine (rRight _ _ hs).mono ?_; rintro e w' ⟨rfl, rfl⟩)
    go_ret3
    exact ⟨rfl, rfl⟩
  have h1 : rightB s = true := by simpa using h1'
  clear h1'
  obtain ⟨g1, g2⟩ := right_lo s h1
  have hn := ref_no s h h1 g1
  clear h
  rcases hn with h2 | ⟨h2, hn⟩
  · have t1 := u8_ne _ _ 41 rfl h2
    clear h2
    go_enter Tryz.func25, Tryz.ntmps25
    go_wp2_with (first | (go_at_call 48; refine (rRight _ _ hs).mono ?_; rintro e w' ⟨rfl, rfl⟩) | (go_at_call 49; refine (rCount _ _ _ hs).mono ?_; rintro e w' ⟨rfl, rfl⟩))
    go_ret3
    exact ⟨rfl, rfl⟩
  have t1 := u8_is _ _ 41 rfl h2
  clear h2
  rcases hn with h3 | ⟨h3, hn⟩
  · have t2 : ((cnt s.data.toList 40 : Int) != 1) = true := by simp; omega
    clear h3
    go_enter Tryz.func25, Tryz.ntmps25
    go_wp2_with (first | (go_at_call 48; refine (rRight _ _ hs).mono ?_; rintro e w' ⟨rfl, rfl⟩) | (go_at_call 49; refine (rCount _ _ _ hs).mono ?_; rintro e w' ⟨rfl, rfl⟩))
    go_ret3
    exact ⟨rfl, rfl⟩
  have t2 : ((cnt s.data.toList 40 : Int) != 1) = false := by simp; omega
  clear h3
  rcases hn with h4 | ⟨h4, hn⟩
  · have t3 : ((cnt s.data.toList 41 : Int) != 1) = true := by simp; omega
    clear h4
    go_enter Tryz.func25, Tryz.ntmps25
    go_wp2_with (first | (go_at_call 48; refine (rRight _ _ hs).mono ?_; rintro e w' ⟨rfl, rfl⟩) | (go_at_call 49; refine (rCount _ _ _ hs).mono ?_; rintro e w' ⟨rfl, rfl⟩))
    go_ret3
    exact ⟨rfl, rfl⟩
  have t3 : ((cnt s.data.toList 41 : Int) != 1) = false := by simp; omega
  clear h4
  rcases hn with h5 | ⟨h5, ho1, ho2, hat, hbe⟩
  · have t4 := u8_is' _ _ 40 rfl h5
    clear h5
    go_enter Tryz.func25, Tryz.ntmps25
    go_wp2_with (first | (go_at_call 48; refine (rRight _ _ hs).mono ?_; rintro e w' ⟨rfl, rfl⟩) | (go_at_call 49; refine (rCount _ _ _ hs).mono ?_; rintro e w' ⟨rfl, rfl⟩))
    go_ret3
    exact ⟨rfl, rfl⟩
  have t4 := u8_ne' _ _ 40 rfl h5
  clear h5
  generalize opn s = o at *
  have Ho2 := Lib.hid ho2
  have ho3 : o + 2 ≤ s.size := by omega
  clear ho2
  have Hat := Lib.hid (hat (by omega)); have Hbe := Lib.hid hbe
  clear hat hbe
  go_enter Tryz.func25, Tryz.ntmps25
  go_wp2_with (first | (go_at_call 48; refine (rRight _ _ hs).mono ?_; rintro e w' ⟨rfl, rfl⟩) | (go_at_call 49; refine (rCount _ _ _ hs).mono ?_; rintro e w' ⟨rfl, rfl⟩))
  go_loop [5] (fun i => ∃ k : Nat, k ≤ o ∧ i = .int .i64 k) (fun i => o - (intOf i).toNat)
  case atStart => exact ⟨0, Nat.zero_le _, rfl⟩
  case round =>
    obtain ⟨k, hk, rfl⟩ := hrel
    by_cases hlt : k < o
    · have t5 := u8_ne _ _ 40 rfl (Hbe.out k hlt (by omega))
      go_wp2
      go_round
      case rel => exact ⟨k + 1, by omega, by go_num⟩
      case measure => simp [intOf]; omega
    · obtain rfl : k = o := by omega
      have t5 := u8_is _ _ 40 rfl Hat.out
      have t6 : ((k : Int) == (s.size : Int) - 2) = true := by have := Ho2.out; simp; omega
      go_wp2
      go_ret3
      exact ⟨rfl, rfl⟩

set_option maxHeartbeats 400000 in
theorem rMember_yes (s : ByteArray) (w : World) (hs : s.size ≤ maxLen) (h : memB s = true) :
    Calls Tryz.prog 25 #[.string s] w fun e w' => e = .returned (.tuple #[.string (s.extract 0 (opn s)), .string (s.extract (opn s + 1) (s.size - 1)), .bool true]) ∧ ∃ n, w' = w.drewN n := by
  have hs' := hs
  unfold maxLen at hs'
  obtain ⟨h1, g1, g2, -, -, -, ho1, ho2, hat, hbe⟩ := mem_yes s h
  obtain ⟨h2, h3, h4, h5⟩ := ref_yes s h g1
  have t1 := u8_is _ _ 41 rfl h2
  have t2 : ((cnt s.data.toList 40 : Int) != 1) = false := by simp; omega
  have t3 : ((cnt s.data.toList 41 : Int) != 1) = false := by simp; omega
  have t4 := u8_ne' _ _ 40 rfl h5
  clear h h2 h3 h4 h5
  generalize opn s = o at *
  have Hat := Lib.hid (hat (by omega)); have Hbe := Lib.hid hbe
  clear hat hbe
  go_enter Tryz.func25, Tryz.ntmps25
  go_wp2_with (first | (go_at_call 48; refine (rRight _ _ hs).mono ?_; rintro e w' ⟨rfl, rfl⟩) | (go_at_call 49; refine (rCount _ _ _ hs).mono ?_; rintro e w' ⟨rfl, rfl⟩))
  go_loop [5] (fun i => ∃ k : Nat, k ≤ o ∧ i = .int .i64 k) (fun i => o - (intOf i).toNat)
  case atStart => exact ⟨0, Nat.zero_le _, rfl⟩
  case round =>
    obtain ⟨k, hk, rfl⟩ := hrel
    by_cases hlt : k < o
    · have t5 := u8_ne _ _ 40 rfl (Hbe.out k hlt (by omega))
      go_wp2
      go_round
      case rel => exact ⟨k + 1, by omega, by go_num⟩
      case measure => simp [intOf]; omega
    · obtain rfl : k = o := by omega
      have t5 := u8_is _ _ 40 rfl Hat.out
      have t6 : ((k : Int) == (s.size : Int) - 2) = false := by simp; omega
      go_wp2
      go_quiet (fail)
      go_wp2
      go_ret3
      exact ⟨rfl, _, rfl⟩
end Go.Proofs.YtbcemenfklgnkaaGreatDoor

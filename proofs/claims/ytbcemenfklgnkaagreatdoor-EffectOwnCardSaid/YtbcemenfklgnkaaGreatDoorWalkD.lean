/- A member's name: the program's answer and the document's are one. -/
import Derived.Test.YtbcemenfklgnkaaGreatDoorWalkA
import Derived.Test.YtbcemenfklgnkaaGreatDoorShelf
import Derived.WalkSpells
import Derived.BigQuiet
import Derived.Deep.QuietTactic
import Derived.WalkSmall
namespace Go.Proofs.YtbcemenfklgnkaaGreatDoor
open Go.RowKit

theorem idx41 (s : ByteArray) (w : World) : Calls Tryz.prog 64 #[.string s, .int .u8 41] w fun e w' => e = .returned (.int .i64 (Lib.indexByte s.data.toList 41)) ∧ w = w' :=
  (Tryz.strings_IndexByte s 41 w).mono fun _ _ ⟨he, hw⟩ => ⟨he, hw.symm⟩
theorem idx40 (s : ByteArray) (o : Nat) (h : Lib.indexByte s.data.toList 40 = (o : Int)) (w : World) : Calls Tryz.prog 64 #[.string s, .int .u8 40] w fun e w' => e = .returned (.int .i64 (o : Int)) ∧ w = w' :=
  (Tryz.strings_IndexByte s 40 w).mono fun _ _ ⟨he, hw⟩ => ⟨by rw [← h]; exact he, hw.symm⟩
theorem cntC (s : ByteArray) (w : World) : Calls Tryz.prog 63 #[.string s, .string ⟨#[40]⟩] w fun e w' => e = .returned (.int .i64 (Lib.countByte s.data.toList 40 : Nat)) ∧ w = w' :=
  (Tryz.strings_Count_one s 40 w).mono fun _ _ ⟨he, hw⟩ => ⟨he, hw.symm⟩

def memNone : Value := .tuple #[.string ⟨#[]⟩, .string ⟨#[]⟩, .bool false]

set_option maxHeartbeats 400000 in
theorem nMember_no (s : ByteArray) (w : World) (hs : s.size ≤ maxLen) (h : memB s = false) :
    Calls Tryz.prog 41 #[.string s] w fun e w' => e = .returned (.tuple #[.string ⟨#[]⟩, .string ⟨#[]⟩, .bool false]) ∧ w = w' := by
  have hs' := hs
  unfold maxLen at hs'
  rcases mem_no s h with h1 | ⟨h1, g1, g2, h2⟩
  · clear h
    go_enter Tryz.func41, Tryz.ntmps41
    go_wp2_with (go_at_call 55; refine (nRight _ _ hs).mono ?_; rintro e w' ⟨rfl, rfl⟩)
    go_ret3
    exact ⟨rfl, rfl⟩
  rcases h2 with h2 | ⟨h2, h3⟩
  · have t1 : (((Lib.countByte s.data.toList 40 : Nat) : Int) != 1) = true := by simp; omega
    clear h h2
    go_enter Tryz.func41, Tryz.ntmps41
    go_wp2_with (first | (go_at_call 55; refine (nRight _ _ hs).mono ?_; rintro e w' ⟨rfl, rfl⟩) | (go_at_call 63; refine (cntC _ _).mono ?_; rintro e w' ⟨rfl, rfl⟩))
    go_ret3
    exact ⟨rfl, rfl⟩
  rcases h3 with h3 | ⟨h3, h40, ho, h4⟩
  · have t1 : (((Lib.countByte s.data.toList 40 : Nat) : Int) != 1) = false := by simp; omega
    have t2 : (Lib.indexByte s.data.toList 41 != (s.size : Int) - 1) = true := by simpa using h3
    clear h h2 h3
    go_enter Tryz.func41, Tryz.ntmps41
    go_wp2_with (first | (go_at_call 55; refine (nRight _ _ hs).mono ?_; rintro e w' ⟨rfl, rfl⟩) | (go_at_call 63; refine (cntC _ _).mono ?_; rintro e w' ⟨rfl, rfl⟩) | (go_at_call 64; refine (idx41 _ _).mono ?_; rintro e w' ⟨rfl, rfl⟩))
    go_ret3
    exact ⟨rfl, rfl⟩
  have t1 : (((Lib.countByte s.data.toList 40 : Nat) : Int) != 1) = false := by simp; omega
  have t2 : (Lib.indexByte s.data.toList 41 != (s.size : Int) - 1) = false := by simpa using h3
  have H40 := Lib.hid h40
  clear h h2 h3 h40
  generalize opn s = o at *
  rcases h4 with h4 | ⟨h4, h5⟩
  · have t3 : ((o : Int) == 0) = true := by simp; omega
    clear h4
    go_enter Tryz.func41, Tryz.ntmps41
    go_wp2_with (first | (go_at_call 55; refine (nRight _ _ hs).mono ?_; rintro e w' ⟨rfl, rfl⟩) | (go_at_call 63; refine (cntC _ _).mono ?_; rintro e w' ⟨rfl, rfl⟩) | (go_at_call_of 64 (Value.int .u8 41); refine (idx41 _ _).mono ?_; rintro e w' ⟨rfl, rfl⟩) | (go_at_call 64; refine (idx40 _ o H40.out _).mono ?_; rintro e w' ⟨rfl, rfl⟩))
    go_ret3
    exact ⟨rfl, rfl⟩
  · have t3 : ((o : Int) == 0) = false := by simp; omega
    have t4 : ((o : Int) + 1 == (s.size : Int) - 1) = true := by simp; omega
    clear h5
    go_enter Tryz.func41, Tryz.ntmps41
    go_wp2_with (first | (go_at_call 55; refine (nRight _ _ hs).mono ?_; rintro e w' ⟨rfl, rfl⟩) | (go_at_call 63; refine (cntC _ _).mono ?_; rintro e w' ⟨rfl, rfl⟩) | (go_at_call_of 64 (Value.int .u8 41); refine (idx41 _ _).mono ?_; rintro e w' ⟨rfl, rfl⟩) | (go_at_call 64; refine (idx40 _ o H40.out _).mono ?_; rintro e w' ⟨rfl, rfl⟩))
    go_ret3
    exact ⟨rfl, rfl⟩

set_option maxHeartbeats 400000 in
theorem nMember_yes (s : ByteArray) (w : World) (hs : s.size ≤ maxLen) (h : memB s = true) :
    Calls Tryz.prog 41 #[.string s] w fun e w' => e = .returned (.tuple #[.string (s.extract 0 (opn s)), .string (s.extract (opn s + 1) (s.size - 1)), .bool true]) ∧ ∃ n, w' = w.drewN n := by
  have hs' := hs
  unfold maxLen at hs'
  obtain ⟨h1, g1, g2, h2, h3, h40, ho1, ho2, -, -⟩ := mem_yes s h
  have t1 : (((Lib.countByte s.data.toList 40 : Nat) : Int) != 1) = false := by simp; omega
  have t2 : (Lib.indexByte s.data.toList 41 != (s.size : Int) - 1) = false := by simpa using h3
  have H40 := Lib.hid h40
  clear h h2 h3 h40
  generalize opn s = o at *
  have t3 : ((o : Int) == 0) = false := by simp; omega
  have t4 : ((o : Int) + 1 == (s.size : Int) - 1) = false := by simp; omega
  go_enter Tryz.func41, Tryz.ntmps41
  go_wp2_with (first | (go_at_call 55; refine (nRight _ _ hs).mono ?_; rintro e w' ⟨rfl, rfl⟩) | (go_at_call 63; refine (cntC _ _).mono ?_; rintro e w' ⟨rfl, rfl⟩) | (go_at_call_of 64 (Value.int .u8 41); refine (idx41 _ _).mono ?_; rintro e w' ⟨rfl, rfl⟩) | (go_at_call 64; refine (idx40 _ o H40.out _).mono ?_; rintro e w' ⟨rfl, rfl⟩))
  go_quiet (fail)
  go_wp2
  go_ret3
  exact ⟨rfl, nq, rfl⟩
end Go.Proofs.YtbcemenfklgnkaaGreatDoor

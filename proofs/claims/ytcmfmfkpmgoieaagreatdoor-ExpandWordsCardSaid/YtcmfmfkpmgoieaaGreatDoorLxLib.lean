/- Package lex stands on: which bytes may be in a pattern; what the library's functions answer. -/
import Derived.Test.YtcmfmfkpmgoieaaGreatDoorLxWs
import Derived.Test.YtcmfmfkpmgoieaaGreatDoorLaidQt
import Derived.Test.YtcmfmfkpmgoieaaGreatDoorShelf
import Derived.Lib.IndexAny
namespace Go.Proofs.YtcmfmfkpmgoieaaGreatDoor
open Go.RowKit

theorem apart_at : ∀ b : UInt8, decide (Lib.indexByte [39, 36, 96, 61, 123, 125] b < 0) = !(b == 39 || b == 36 || b == 96 || b == 61 || b == 123 || b == 125) := by
  intro b
  by_cases h1 : b = 39
  · subst h1; decide
  by_cases h2 : b = 36
  · subst h2; decide
  by_cases h3 : b = 96
  · subst h3; decide
  by_cases h4 : b = 61
  · subst h4; decide
  by_cases h5 : b = 123
  · subst h5; decide
  by_cases h6 : b = 125
  · subst h6; decide
  have q1 : ((39 : UInt8) == b) = false := by simpa using Ne.symm h1
  have q2 : ((36 : UInt8) == b) = false := by simpa using Ne.symm h2
  have q3 : ((96 : UInt8) == b) = false := by simpa using Ne.symm h3
  have q4 : ((61 : UInt8) == b) = false := by simpa using Ne.symm h4
  have q5 : ((123 : UInt8) == b) = false := by simpa using Ne.symm h5
  have q6 : ((125 : UInt8) == b) = false := by simpa using Ne.symm h6
  simp [Lib.indexByte, q1, q2, q3, q4, q5, q6, h1, h2, h3, h4, h5, h6]
set_option maxRecDepth 100000 in
theorem xPatByte (b : UInt8) (w : World) : Calls Tryz.prog 100 #[.int .u8 b.toNat] w fun e w' => e = .returned (.bool (patQ b)) ∧ w = w' := by
  have CB := Lib.hid (fun w => pBlank0 b w)
  obtain ⟨z, hz⟩ : ∃ z, Lib.indexByte [39, 36, 96, 61, 123, 125] b = z := ⟨_, rfl⟩
  have CI := Lib.hid (show ∀ w, Calls Tryz.prog 114 #[.string ⟨#[39, 36, 96, 61, 123, 125]⟩, .int .u8 b.toNat] w fun e w' => e = .returned (.int .i64 z) ∧ w = w' from fun w =>
    (Tryz.strings_IndexByte ⟨#[39, 36, 96, 61, 123, 125]⟩ (b.toNat : Int) w).mono fun e w' ⟨h1, h2⟩ => ⟨by rw [h1, ← hz]; simp, by first | exact h2.symm | exact h2⟩)
  have HP := Lib.hid (show patQ b = (!blkQ b && decide (z < 0)) by
    rw [← hz, apart_at]; unfold patQ
    cases blkQ b <;> simp)
  rw [HP.out]
  clear hz
  by_cases hz : z < 0
  all_goals
    have d1 : decide (z < 0) = decide (z < 0) := rfl
    simp only [hz, decide_true, decide_false] at d1 ⊢
    cases hb : blkQ b
    all_goals
      rw [hb] at CB
      clear HP
      go_enter Tryz.func100, Tryz.ntmps100
      go_wp2_with (first
        | (go_at_call 44; (with_reducible refine (CB.out _).mono ?_); rintro e w3 ⟨rfl, rfl⟩)
        | (go_at_call 114; (with_reducible refine (CI.out _).mono ?_); rintro e w4 ⟨rfl, rfl⟩))
      go_ret
      first | exact ⟨rfl, rfl⟩ | exact ⟨ret_bool (by simp [hz]), rfl⟩
def ThrM (A : Nat → Addr) (w : World) : Prop := ThrE A w ∧ MaxI w
theorem lbX : LbX MaxI where
  gr := fun _ _ h hg => h.grown hg
  pat := fun b w => xPatByte b w
  pre := fun s p w => (Tryz.strings_HasPrefix s p w).mono fun _ _ ⟨h1, h2⟩ => ⟨h1, h2.symm⟩
  cutp := fun s p w => (Tryz.strings_CutPrefix s p w).mono fun _ _ ⟨h1, h2⟩ => ⟨h1, h2.symm⟩
  cut := fun s p w ⟨m, hm⟩ hs => Tryz.strings_Cut s p m w (by omega) hm
  has := fun s c w => (Tryz.strings_Contains_one s c w).mono fun _ _ ⟨h1, h2⟩ => ⟨h1, h2.symm⟩
  undo := fun s w ⟨m, hm⟩ hs => by
    have h1 := Lib.countB_mul_le ⟨#[39, 39]⟩ (by decide) s.size s (Nat.le_refl _)
    have e1 : (⟨#[39]⟩ : ByteArray).size = 1 := rfl
    have e2 : (⟨#[39, 39]⟩ : ByteArray).size = 2 := rfl
    refine (Tryz.strings_ReplaceAll s ⟨#[39, 39]⟩ ⟨#[39]⟩ m w (by omega) hm (by decide) (by rw [e2] at h1; rw [e1]; omega)).mono fun e w' ⟨he, hb⟩ => ⟨?_, grown_of_below hb⟩
    rw [he]; rfl
  twice := fun s w ⟨m, hm⟩ hs => by
    have h1 := Lib.countB_mul_le ⟨#[39]⟩ (by decide) s.size s (Nat.le_refl _)
    have e1 : (⟨#[39]⟩ : ByteArray).size = 1 := rfl
    have e2 : (⟨#[39, 39]⟩ : ByteArray).size = 2 := rfl
    refine (Tryz.strings_ReplaceAll s ⟨#[39]⟩ ⟨#[39, 39]⟩ m w (by omega) hm (by decide) (by rw [e1] at h1; rw [e2]; omega)).mono fun e w' ⟨he, hb⟩ => ⟨?_, grown_of_below hb⟩
    rw [he]
    exact congrArg (fun x => Ending.returned (.string ⟨List.toArray x⟩)) (rep_two s.data.toList)
end Go.Proofs.YtcmfmfkpmgoieaaGreatDoor

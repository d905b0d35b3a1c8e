/- What is proved of package lex, as the laws of layer 13 are told of it. -/
import Derived.Test.YtheeeofdgpcfeaaDoorLxWs
import Derived.Test.YtheeeofdgpcfeaaDoorLxEq
import Derived.Test.YtheeeofdgpcfeaaDoorLxSay
import Derived.Test.YtheeeofdgpcfeaaDoorLaidQt
import Derived.Lib.IndexAny
namespace Go.Proofs.YtheeeofdgpcfeaaDoor
open Go.RowKit

theorem apart_at : ∀ b : UInt8, decide (Lib.indexByte [39, 36, 96, 61, 123, 125] b < 0) = !(b == 39 || b == 36 || b == 96 || b == 61 || b == 123 || b == 125) := by
  intro b
  by_cases h1 : b = 39
  · subst h1; decide
  by_cases h2 : b = 36
  · subst h2; decide
  by_cases h3 : b = 96
  · subst h3; decide
  by_cases h4 : b = 61
  · subst h4; decide
  by_cases h5 : b = 123
  · subst h5; decide
  by_cases h6 : b = 125
  · subst h6; decide
  have q1 : ((39 : UInt8) == b) = false := by simpa using Ne.symm h1
  have q2 : ((36 : UInt8) == b) = false := by simpa using Ne.symm h2
  have q3 : ((96 : UInt8) == b) = false := by simpa using Ne.symm h3
  have q4 : ((61 : UInt8) == b) = false := by simpa using Ne.symm h4
  have q5 : ((123 : UInt8) == b) = false := by simpa using Ne.symm h5
  have q6 : ((125 : UInt8) == b) = false := by simpa using Ne.symm h6
  simp [Lib.indexByte, q1, q2, q3, q4, q5, q6, h1, h2, h3, h4, h5, h6]
set_option maxRecDepth 100000 in
theorem xPatByte (b : UInt8) (w : World) : Calls Tryd.prog 50 #[.int .u8 b.toNat] w fun e w' => e = .returned (.bool (patQ b)) ∧ w = w' := by
  have CB := Lib.hid (fun w => pBlank0 b w)
  obtain ⟨z, hz⟩ : ∃ z, Lib.indexByte [39, 36, 96, 61, 123, 125] b = z := ⟨_, rfl⟩
  have CI := Lib.hid (show ∀ w, Calls Tryd.prog 58 #[.string ⟨#[39, 36, 96, 61, 123, 125]⟩, .int .u8 b.toNat] w fun e w' => e = .returned (.int .i64 z) ∧ w = w' from fun w =>
    (Tryd.strings_IndexByte ⟨#[39, 36, 96, 61, 123, 125]⟩ (b.toNat : Int) w).mono fun e w' ⟨h1, h2⟩ => ⟨by rw [h1, ← hz]; simp, by first | exact h2.symm | exact h2⟩)
  have HP := Lib.hid (show patQ b = (!blkQ b && decide (z < 0)) by
    rw [← hz, apart_at]; unfold patQ
    cases blkQ b <;> simp)
  rw [HP.out]
  clear hz
  by_cases hz : z < 0
  all_goals
    have d1 : decide (z < 0) = decide (z < 0) := rfl
    simp only [hz, decide_true, decide_false] at d1 ⊢
    cases hb : blkQ b
    all_goals
      rw [hb] at CB
      clear HP
      go_enter Tryd.func50, Tryd.ntmps50
      go_wp2_with (first
        | (go_at_call 20; (with_reducible refine (CB.out _).mono ?_); rintro e w3 ⟨rfl, rfl⟩)
        | (go_at_call 58; (with_reducible refine (CI.out _).mono ?_); rintro e w4 ⟨rfl, rfl⟩))
      go_ret
      first | exact ⟨rfl, rfl⟩ | exact ⟨ret_bool (by simp [hz]), rfl⟩
def ThrM (A : Nat → Addr) (w : World) : Prop := ThrE A w ∧ MaxI w
theorem lbX : LbX MaxI where
  gr := fun _ _ h hg => h.grown hg
  pat := fun b w => xPatByte b w
  pre := fun s p w => (Tryd.strings_HasPrefix s p w).mono fun _ _ ⟨h1, h2⟩ => ⟨h1, h2.symm⟩
  cutp := fun s p w => (Tryd.strings_CutPrefix s p w).mono fun _ _ ⟨h1, h2⟩ => ⟨h1, h2.symm⟩
  cut := fun s p w ⟨m, hm⟩ hs => Tryd.strings_Cut s p m w (by omega) hm
  has := fun s c w => (Tryd.strings_Contains_one s c w).mono fun _ _ ⟨h1, h2⟩ => ⟨h1, h2.symm⟩
  undo := fun s w ⟨m, hm⟩ hs => by
    have h1 := Lib.countB_mul_le ⟨#[39, 39]⟩ (by decide) s.size s (Nat.le_refl _)
    have e1 : (⟨#[39]⟩ : ByteArray).size = 1 := rfl
    have e2 : (⟨#[39, 39]⟩ : ByteArray).size = 2 := rfl
    refine (Tryd.strings_ReplaceAll s ⟨#[39, 39]⟩ ⟨#[39]⟩ m w (by omega) hm (by decide) (by rw [e2] at h1; rw [e1]; omega)).mono fun e w' ⟨he, hb⟩ => ⟨?_, grown_of_below hb⟩
    rw [he]; rfl
  twice := fun s w ⟨m, hm⟩ hs => by
    have h1 := Lib.countB_mul_le ⟨#[39]⟩ (by decide) s.size s (Nat.le_refl _)
    have e1 : (⟨#[39]⟩ : ByteArray).size = 1 := rfl
    have e2 : (⟨#[39, 39]⟩ : ByteArray).size = 2 := rfl
    refine (Tryd.strings_ReplaceAll s ⟨#[39]⟩ ⟨#[39, 39]⟩ m w (by omega) hm (by decide) (by rw [e1] at h1; rw [e2]; omega)).mono fun e w' ⟨he, hb⟩ => ⟨?_, grown_of_below hb⟩
    rw [he]
    exact congrArg (fun x => Ending.returned (.string ⟨List.toArray x⟩)) (rep_two s.data.toList)
theorem lxProg (A : Nat → Addr) : LxC A (ThrM A) where
  gr := fun _ _ h hg => ⟨h.1.grown hg, h.2.grown hg⟩
  words := fun s w h hs => xWords lbX A s w h.2 h.1 hs
  text := fun v l w h hR _ hs hT => xText lbX v l w h.2 hR hs hT
  same := fun v1 v2 La Lb w _ h1 h2 => xSame v1 v2 La Lb w h1 h2
  literal := fun v l w _ hR hl hs => xLiteral v l w hR hl hs
end Go.Proofs.YtheeeofdgpcfeaaDoor

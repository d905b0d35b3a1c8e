/- The chapter's example, and which texts are names and members' names. -/
import Derived.Test.YtgnbkkibggmnbaaWalkD
import Derived.Test.YtgnbkkibggmnbaaWalkE
namespace Go.Proofs.Ytgnbkkibggmnbaa
open Go.RowKit

theorem quiet_eq {P : Program} {f : FuncId} {args : Array Value} {w : World} {n : Nat} {v : Value}
    (h : Calls P f args (w.drewN n) fun e w' => e = .returned v ∧ w.drewN n = w') : Calls P f args (w.drewN n) fun e w'' => e = .returned v ∧ ∃ m, w'' = w.drewN m :=
  h.mono fun _ _ ⟨he, hm⟩ => ⟨he, n, hm.symm⟩
theorem drew_trans {w w1 : World} (h : ∃ n, w1 = w.drewN n) (k : Nat) : ∃ n, w1.drewN k = w.drewN n := by
  obtain ⟨n, rfl⟩ := h; exact ⟨n + k, by simp [World.drewN_drewN]⟩

set_option maxHeartbeats 400000 in
theorem lAlive (w : World) : Calls Try.prog 7 #[] w fun e w' => e = .returned (.bool true) ∧ ∃ n, w' = w.drewN n := by
  have hm : memB ⟨#[108, 105, 98, 46, 97, 40, 120, 46, 111, 41]⟩ = true := by decide
  have hx : opn ⟨#[108, 105, 98, 46, 97, 40, 120, 46, 111, 41]⟩ = 5 := by decide
  have hsuf : sufB ⟨#[97, 47, 98, 46, 99]⟩ = ⟨#[46, 99]⟩ := by decide
  have c1 : ∀ w, Calls Try.prog 8 #[.string ⟨#[108, 105, 98, 46, 97, 40, 120, 46, 111, 41]⟩] w fun e w' => e = .returned (.tuple #[.string ⟨#[108, 105, 98, 46, 97]⟩, .string ⟨#[120, 46, 111]⟩, .bool true]) ∧ ∃ n, w' = w.drewN n := by
    intro w
    have := nMember_yes ⟨#[108, 105, 98, 46, 97, 40, 120, 46, 111, 41]⟩ w (by decide) hm
    rw [hx] at this
    exact this
  have c2 : ∀ w, Calls Try.prog 15 #[.string ⟨#[97, 47, 98, 46, 99]⟩] w fun e w' => e = .returned (.string ⟨#[46, 99]⟩) ∧ w = w' := by
    intro w
    have := nSuffix ⟨#[97, 47, 98, 46, 99]⟩ w (by decide) (by decide)
    rw [hsuf] at this
    exact this
  clear hm hx hsuf
  have C1 := Lib.hid c1; have C2 := Lib.hid c2
  clear c1 c2
  go_enter Try.func7, Try.ntmps7
  go_wp2_with (first | (go_at_call 8; refine (C1.out _).mono ?_; rintro e w' ⟨rfl, n, rfl⟩) | (go_at_call 15; refine (C2.out _).mono ?_; rintro e w' ⟨rfl, rfl⟩))
  go_ret
  exact ⟨rfl, _, rfl⟩
end Go.Proofs.Ytgnbkkibggmnbaa

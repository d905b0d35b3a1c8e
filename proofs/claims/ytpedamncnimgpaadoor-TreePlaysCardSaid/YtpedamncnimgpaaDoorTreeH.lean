/- What the law of layer 2 asks of the chapter's example. -/
import Derived.Test.YtpedamncnimgpaaDoorFlEq
namespace Go.Proofs.YtpedamncnimgpaaDoor
open Go.RowKit Go.Maps

theorem rightA : rightB { data := #[97] } = true := by decide
theorem touA : touE [] { data := #[97] } 5 = 0 := by decide

theorem tTimeA (p b : Nat) (w : World) (h : IsTree w p b [⟨{ data := #[97] }, ByteArray.empty, 5⟩]) :
    Calls Tryd.prog 18 #[.pointer (some ⟨p, 0, none⟩), .string { data := #[97] }] w fun e w' => e = .returned (.int .i64 5) ∧ w = w' := by
  have := tTime p b [⟨{ data := #[97] }, ByteArray.empty, 5⟩] { data := #[97] } w h (by decide)
  rwa [show (getL [⟨{ data := #[97] }, ByteArray.empty, 5⟩] { data := #[97] }).t = 5 by decide] at this
theorem tNamesA (p b : Nat) (w : World) (h : IsTree w p b [⟨{ data := #[97] }, ByteArray.empty, 5⟩]) :
    Calls Tryd.prog 26 #[.pointer (some ⟨p, 0, none⟩)] w fun e w' => ∃ a c, e = .returned (.slice a 1 c) ∧ Below w.heap.size w w' :=
  (tNames p b _ w h).mono fun _ _ ⟨a, c, h1, _, h3⟩ => ⟨a, c, h1, h3⟩

set_option maxRecDepth 100000 in
set_option maxHeartbeats 1000000 in
theorem lAliveT (A : Nat → Addr) (w : World) (hS : Sents L5 A w) :
    Calls Tryd.prog 6 #[] w fun e w' => e = .returned (.bool true) ∧ w.grownBy w' none := by
  have HS := Lib.hid hS
  clear hS
  have hcon := fun (p b : Nat) (w : World) (h : IsTree w p b []) (hS : Sents L5 A w) => tTouch p b [] { data := #[97] } 5 A w h hS (by decide)
  rw [touA, errV_zero, show setL 0 [] (touF [] { data := #[97] } 5) = [⟨{ data := #[97] }, ByteArray.empty, 5⟩] from rfl] at hcon
  have HC := Lib.hid hcon
  clear hcon
  go_enter Tryd.func6, Tryd.ntmps6
  go_wp2_with fail
  refine (tNew _).mono ?_
  rintro e w1 ⟨rfl, t1, g1⟩
  have T1 := Lib.hid t1; have G1 := Lib.hid g1
  clear t1 g1
  go_wp2_with (first
    | (go_at_call 12; refine (HC.out _ _ _ T1.out (HS.out.grown G1.out)).mono ?_; rintro e w2 ⟨rfl, t2, g2⟩; have T2 := Lib.hid t2; have G2 := Lib.hid g2; clear t2 g2)
    | (go_at_call 18; refine (tTimeA _ _ _ T2.out).mono ?_; rintro e w3 ⟨rfl, rfl⟩)
    | (go_at_call 26; refine (tNamesA _ _ _ T2.out).mono ?_; rintro e w4 ⟨a, c, rfl, b4⟩; have B4 := Lib.hid b4; clear b4))
  go_ret
  exact ⟨rfl, (grown_none G1.out G2.out (Nat.le_refl _)).trans (grown_of_below B4.out)⟩
end Go.Proofs.YtpedamncnimgpaaDoor

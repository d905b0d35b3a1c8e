/- rex's words of kinds. -/
import Derived.Test.YtonbcldhbinmeaaDoorRexV
namespace Go.Proofs.YtonbcldhbinmeaaDoor
open Go.RowKit

/-- the ten words, in the memory -/
structure WordEnv (w : World) : Prop where
  c0 : w.cell? ⟨3, 0, none⟩ = some (.string ⟨#[101, 109, 112, 116, 121]⟩)
  c1 : w.cell? ⟨3, 1, none⟩ = some (.string ⟨#[111, 110, 101]⟩)
  c2 : w.cell? ⟨3, 2, none⟩ = some (.string ⟨#[99, 97, 116]⟩)
  c3 : w.cell? ⟨3, 3, none⟩ = some (.string ⟨#[97, 108, 116]⟩)
  c4 : w.cell? ⟨3, 4, none⟩ = some (.string ⟨#[115, 116, 97, 114]⟩)
  c5 : w.cell? ⟨3, 5, none⟩ = some (.string ⟨#[112, 108, 117, 115]⟩)
  c6 : w.cell? ⟨3, 6, none⟩ = some (.string ⟨#[109, 97, 121, 98, 101]⟩)
  c7 : w.cell? ⟨3, 7, none⟩ = some (.string ⟨#[103, 114, 111, 117, 112]⟩)
  c8 : w.cell? ⟨3, 8, none⟩ = some (.string ⟨#[98, 101, 103, 105, 110]⟩)
  c9 : w.cell? ⟨3, 9, none⟩ = some (.string ⟨#[101, 110, 100]⟩)
theorem WordEnv.grown {w w' : World} (h : WordEnv w) (g : w.grownBy w' none) : WordEnv w' :=
  ⟨g.cell h.c0 (by simp), g.cell h.c1 (by simp), g.cell h.c2 (by simp), g.cell h.c3 (by simp), g.cell h.c4 (by simp), g.cell h.c5 (by simp), g.cell h.c6 (by simp), g.cell h.c7 (by simp), g.cell h.c8 (by simp), g.cell h.c9 (by simp)⟩
/-- a kind's word -/
def wordS (k : Int) : ByteArray := if k = 0 then ⟨#[101, 109, 112, 116, 121]⟩ else if k = 1 then ⟨#[111, 110, 101]⟩ else if k = 2 then ⟨#[99, 97, 116]⟩ else if k = 3 then ⟨#[97, 108, 116]⟩ else if k = 4 then ⟨#[115, 116, 97, 114]⟩ else if k = 5 then ⟨#[112, 108, 117, 115]⟩ else if k = 6 then ⟨#[109, 97, 121, 98, 101]⟩ else if k = 7 then ⟨#[103, 114, 111, 117, 112]⟩ else if k = 8 then ⟨#[98, 101, 103, 105, 110]⟩ else if k = 9 then ⟨#[101, 110, 100]⟩ else ⟨#[]⟩

set_option maxRecDepth 100000 in
set_option maxHeartbeats 1600000 in
theorem cWord (k : Int) (hk : -9223372036854775808 ≤ k ∧ k ≤ 9223372036854775807) (w : World) (E : WordEnv w) :
    Calls Tryd.prog 16 #[.int .i64 k] w fun e w' => e = .returned (.string (wordS k)) ∧ w = w' := by
  obtain ⟨c0, c1, c2, c3, c4, c5, c6, c7, c8, c9⟩ := E
  by_cases h0 : k < 0
  · have hd : decide (k < 0) = true := decide_eq_true h0
    have HW := Lib.hid (show wordS k = ⟨#[]⟩ by unfold wordS; repeat rw [if_neg (by omega)])
    go_enter Tryd.func16, Tryd.ntmps16
    go_wp2
    go_ret
    exact ⟨by rw [HW.out]; rfl, rfl⟩
  · by_cases h1 : k ≥ 10
    · have hd : decide (k < 0) = false := decide_eq_false h0
      have hd1 : decide (k ≥ 10) = true := decide_eq_true h1
      have HW := Lib.hid (show wordS k = ⟨#[]⟩ by unfold wordS; repeat rw [if_neg (by omega)])
      go_enter Tryd.func16, Tryd.ntmps16
      go_wp2
      go_ret
      exact ⟨by rw [HW.out]; rfl, rfl⟩
    · obtain rfl | rfl | rfl | rfl | rfl | rfl | rfl | rfl | rfl | rfl : k = 0 ∨ k = 1 ∨ k = 2 ∨ k = 3 ∨ k = 4 ∨ k = 5 ∨ k = 6 ∨ k = 7 ∨ k = 8 ∨ k = 9 := by omega
      all_goals
        go_enter Tryd.func16, Tryd.ntmps16
        go_wp2
        go_ret
        exact ⟨rfl, rfl⟩
end Go.Proofs.YtonbcldhbinmeaaDoor

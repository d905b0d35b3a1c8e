/- The law AttrMerges, walked: any two attributes together. -/
import Derived.Test.YtongclfpidnibaaDoorLawAtA
namespace Go.Proofs.YtongclfpidnibaaDoor
open Go.RowKit

set_option maxRecDepth 100000 in
set_option maxHeartbeats 4000000 in
theorem lAttrMerges (A : Nat → Addr) (f g : Int) (p q : ByteArray) (w : World) (hE : AtE A w) (hf : -9223372036854775808 ≤ f ∧ f ≤ 9223372036854775807) (hg : -9223372036854775808 ≤ g ∧ g ≤ 9223372036854775807) :
    Calls Tryd.prog 5 #[atV f p, atV g q] w fun e w' => e = .returned (.bool true) ∧ w.grownBy w' none := by
  have CA := Lib.hid (fun w' (g : w.grownBy w' none) => lAlive18 A w' (hE.grown g))
  obtain ⟨B0, B1, G0⟩ := heap2 w (.cells #[.int .i64 f, .string p] 24) (.cells #[.int .i64 g, .string q] 24)
  have A0 := Lib.hid B0; have A1 := Lib.hid B1; have HG := Lib.hid G0
  have h1 : ∀ r w, Calls Tryd.prog 11 #[atV (bits .or .i64 f g) r, .int .i64 f] w fun e w' => e = .returned (.bool true) ∧ w.grownBy w' none := fun r w => by
    have h := pHas (bits .or .i64 f g) f r w
    rw [or_and_left hf.1 hf.2, beq_self_eq_true] at h
    exact h
  have h2 : ∀ r w, Calls Tryd.prog 11 #[atV (bits .or .i64 f g) r, .int .i64 g] w fun e w' => e = .returned (.bool true) ∧ w.grownBy w' none := fun r w => by
    have h := pHas (bits .or .i64 f g) g r w
    rw [or_and_right hg.1 hg.2, beq_self_eq_true] at h
    exact h
  have h3 : ∀ r w, Calls Tryd.prog 14 #[atV (bits .or .i64 f g) r, atV (bits .or .i64 f g) r] w fun e w' => e = .returned (atV (bits .or .i64 f g) r) ∧ w.grownBy w' none := fun r w => by
    have h := pMerge (bits .or .i64 f g) (bits .or .i64 f g) r r w
    rw [or_self_i, show orB r r = r by unfold orB; split <;> rfl] at h
    exact h
  clear B0 B1 G0 hE hf hg
  go_enter Tryd.func5, Tryd.ntmps5
  go_upto_region 1 with fail
  generalize (w.alloc _).alloc _ = w1 at A0 A1 HG ⊢
  obtain ⟨b, eb⟩ : ∃ b, w.heap.size + 1 = b := ⟨_, rfl⟩
  rw [eb] at A1 ⊢
  obtain ⟨a, ea⟩ : ∃ a, w.heap.size = a := ⟨_, rfl⟩
  rw [ea] at A0 ⊢
  clear ea eb
  go_upto_region 3 with (go_at_call 6; (with_reducible refine (CA.out _ HG.out).mono ?_); rintro e w2 ⟨rfl, g2⟩; have G2 := Lib.hid (HG.out.trans g2); have A2 := Lib.hid (kept_at g2 A0.out); have B2 := Lib.hid (kept_at g2 A1.out); clear g2)
  obtain ⟨a0, a1⟩ := two_at A2.out
  obtain ⟨b0, b1⟩ := two_at B2.out
  clear CA
  by_cases hp : 200 < p.size
  · have e1 : decide ((p.size : Int) > 200) = true := by simp; omega
    clear hp
    go_wp2
    go_ret
    exact ⟨rfl, G2.out⟩
  have e1 : decide ((p.size : Int) > 200) = false := by simp; omega
  by_cases hq : 200 < q.size
  · have e2 : decide ((q.size : Int) > 200) = true := by simp; omega
    clear hp hq
    go_wp2
    go_ret
    exact ⟨rfl, G2.out⟩
  have e2 : decide ((q.size : Int) > 200) = false := by simp; omega
  clear hp hq
  by_cases h0 : p.size = 0
  · obtain rfl := nil_a h0
    clear h0
    have CM := Lib.hid (fun w => show Calls Tryd.prog 14 #[atV f ⟨#[]⟩, atV g q] w fun e w' => e = .returned (atV (bits .or .i64 f g) q) ∧ w.grownBy w' none from by have h := pMerge f g ⟨#[]⟩ q w; rw [show orB ⟨#[]⟩ q = q from rfl] at h; exact h)
    have H1 := Lib.hid (fun w => h1 q w)
    have H2 := Lib.hid (fun w => h2 q w)
    have H3 := Lib.hid (fun w => h3 q w)
    clear h1 h2 h3
    go_upto_region 6 with (go_at_call 14; (with_reducible refine (CM.out _).mono ?_); rintro e w3 ⟨rfl, g3⟩; have G3 := Lib.hid (G2.out.trans g3); have A3 := Lib.hid (kept_at g3 A2.out); have B3 := Lib.hid (kept_at g3 B2.out); clear g3)
    have ga := World.grownBy_alloc w3 (.cells #[.int .i64 (bits .or .i64 f g), .string q] 24) none
    have M4 := Lib.hid (heap_alloc_new w3 (.cells #[.int .i64 (bits .or .i64 f g), .string q] 24))
    have A4 := Lib.hid (kept_at ga A3.out)
    have B4 := Lib.hid (kept_at ga B3.out)
    have G4 := Lib.hid (G3.out.trans ga)
    generalize w3.alloc _ = w4 at M4 A4 B4 G4 ⊢
    obtain ⟨m, em⟩ : ∃ m, w3.heap.size = m := ⟨_, rfl⟩
    rw [em] at M4 ⊢
    clear ga em a0 a1 b0 b1
    obtain ⟨a0, a1⟩ := two_at A4.out
    obtain ⟨b0, b1⟩ := two_at B4.out
    obtain ⟨m0, m1⟩ := two_at M4.out
    go_upto_region 9 with fail
    have k0 : ∀ u : Gr w4, u.W.cell? ⟨a, 0, none⟩ = some (.int .i64 f) := fun u => u.g.cell a0 (by simp)
    have k1 : ∀ u : Gr w4, u.W.cell? ⟨a, 1, none⟩ = some (.string ⟨#[]⟩) := fun u => u.g.cell a1 (by simp)
    have k2 : ∀ u : Gr w4, u.W.cell? ⟨b, 0, none⟩ = some (.int .i64 g) := fun u => u.g.cell b0 (by simp)
    have k3 : ∀ u : Gr w4, u.W.cell? ⟨b, 1, none⟩ = some (.string q) := fun u => u.g.cell b1 (by simp)
    have k4 : ∀ u : Gr w4, u.W.cell? ⟨m, 0, none⟩ = some (.int .i64 (bits .or .i64 f g)) := fun u => u.g.cell m0 (by simp)
    have k5 : ∀ u : Gr w4, u.W.cell? ⟨m, 1, none⟩ = some (.string q) := fun u => u.g.cell m1 (by simp)
    have inst : Nonempty (Gr w4) := ⟨⟨w4, World.grownBy.refl _ _⟩⟩
    have QA := eqlA (bits .or .i64 f g) q
    clear a0 a1 b0 b1 m0 m1
    refine wp_region_grows (by kernel_rfl) (by kernel_rfl) ?_
    repeat (go_big_quiet_step (first
      | (go_at_call 11; with_reducible refine (H1.out _).mono ?_; rintro e w9 ⟨he, g9⟩; exact ⟨he, ⟨_, (Gr.g _).trans g9⟩, rfl⟩)
      | (go_at_call 11; with_reducible refine (H2.out _).mono ?_; rintro e w9 ⟨he, g9⟩; exact ⟨he, ⟨_, (Gr.g _).trans g9⟩, rfl⟩)
      | (go_at_call 14; with_reducible refine (H3.out _).mono ?_; rintro e w9 ⟨he, g9⟩; exact ⟨he, ⟨_, (Gr.g _).trans g9⟩, rfl⟩)))
    refine wpQuiet_nil ?_
    rintro w9 ⟨⟨_, g9⟩, rfl⟩
    have G9 := Lib.hid (G4.out.trans g9)
    go_wp2
    go_ret
    exact ⟨by simp, G9.out⟩
  · have hor : orB p q = p := by unfold orB; rw [if_neg h0]
    obtain ⟨-, n1, n2⟩ := full_a h0
    clear h0
    have CM := Lib.hid (fun w => show Calls Tryd.prog 14 #[atV f p, atV g q] w fun e w' => e = .returned (atV (bits .or .i64 f g) p) ∧ w.grownBy w' none from by have h := pMerge f g p q w; rw [hor] at h; exact h)
    have H1 := Lib.hid (fun w => h1 p w)
    have H2 := Lib.hid (fun w => h2 p w)
    have H3 := Lib.hid (fun w => h3 p w)
    clear h1 h2 h3 hor
    go_upto_region 6 with (go_at_call 14; (with_reducible refine (CM.out _).mono ?_); rintro e w3 ⟨rfl, g3⟩; have G3 := Lib.hid (G2.out.trans g3); have A3 := Lib.hid (kept_at g3 A2.out); have B3 := Lib.hid (kept_at g3 B2.out); clear g3)
    have ga := World.grownBy_alloc w3 (.cells #[.int .i64 (bits .or .i64 f g), .string p] 24) none
    have M4 := Lib.hid (heap_alloc_new w3 (.cells #[.int .i64 (bits .or .i64 f g), .string p] 24))
    have A4 := Lib.hid (kept_at ga A3.out)
    have B4 := Lib.hid (kept_at ga B3.out)
    have G4 := Lib.hid (G3.out.trans ga)
    generalize w3.alloc _ = w4 at M4 A4 B4 G4 ⊢
    obtain ⟨m, em⟩ : ∃ m, w3.heap.size = m := ⟨_, rfl⟩
    rw [em] at M4 ⊢
    clear ga em a0 a1 b0 b1
    obtain ⟨a0, a1⟩ := two_at A4.out
    obtain ⟨b0, b1⟩ := two_at B4.out
    obtain ⟨m0, m1⟩ := two_at M4.out
    go_upto_region 9 with fail
    have k0 : ∀ u : Gr w4, u.W.cell? ⟨a, 0, none⟩ = some (.int .i64 f) := fun u => u.g.cell a0 (by simp)
    have k1 : ∀ u : Gr w4, u.W.cell? ⟨a, 1, none⟩ = some (.string p) := fun u => u.g.cell a1 (by simp)
    have k2 : ∀ u : Gr w4, u.W.cell? ⟨b, 0, none⟩ = some (.int .i64 g) := fun u => u.g.cell b0 (by simp)
    have k3 : ∀ u : Gr w4, u.W.cell? ⟨b, 1, none⟩ = some (.string q) := fun u => u.g.cell b1 (by simp)
    have k4 : ∀ u : Gr w4, u.W.cell? ⟨m, 0, none⟩ = some (.int .i64 (bits .or .i64 f g)) := fun u => u.g.cell m0 (by simp)
    have k5 : ∀ u : Gr w4, u.W.cell? ⟨m, 1, none⟩ = some (.string p) := fun u => u.g.cell m1 (by simp)
    have inst : Nonempty (Gr w4) := ⟨⟨w4, World.grownBy.refl _ _⟩⟩
    have QA := eqlA (bits .or .i64 f g) p
    clear a0 a1 b0 b1 m0 m1
    refine wp_region_grows (by kernel_rfl) (by kernel_rfl) ?_
    repeat (go_big_quiet_step (first
      | (go_at_call 11; with_reducible refine (H1.out _).mono ?_; rintro e w9 ⟨he, g9⟩; exact ⟨he, ⟨_, (Gr.g _).trans g9⟩, rfl⟩)
      | (go_at_call 11; with_reducible refine (H2.out _).mono ?_; rintro e w9 ⟨he, g9⟩; exact ⟨he, ⟨_, (Gr.g _).trans g9⟩, rfl⟩)
      | (go_at_call 14; with_reducible refine (H3.out _).mono ?_; rintro e w9 ⟨he, g9⟩; exact ⟨he, ⟨_, (Gr.g _).trans g9⟩, rfl⟩)))
    refine wpQuiet_nil ?_
    rintro w9 ⟨⟨_, g9⟩, rfl⟩
    have G9 := Lib.hid (G4.out.trans g9)
    go_wp2
    go_ret
    exact ⟨by simp, G9.out⟩
end Go.Proofs.YtongclfpidnibaaDoor

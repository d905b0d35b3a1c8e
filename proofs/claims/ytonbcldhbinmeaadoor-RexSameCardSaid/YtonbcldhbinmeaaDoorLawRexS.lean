/- The law RexSame, walked. -/
import Derived.Test.YtonbcldhbinmeaaDoorRexPD
import Derived.Test.YtonbcldhbinmeaaDoorRexDS
import Derived.Test.YtonbcldhbinmeaaDoorRexY
import Derived.Test.YtonbcldhbinmeaaDoorRexLit
import Derived.Test.YtonbcldhbinmeaaDoorRexWord
namespace Go.Proofs.YtonbcldhbinmeaaDoor
open Go.RowKit

theorem word_cell (w : World) (k : Nat) (hk : k < 10) : (w.alloc (.cells #[.string ⟨#[101, 109, 112, 116, 121]⟩, .string ⟨#[111, 110, 101]⟩, .string ⟨#[99, 97, 116]⟩, .string ⟨#[97, 108, 116]⟩, .string ⟨#[115, 116, 97, 114]⟩, .string ⟨#[112, 108, 117, 115]⟩, .string ⟨#[109, 97, 121, 98, 101]⟩, .string ⟨#[103, 114, 111, 117, 112]⟩, .string ⟨#[98, 101, 103, 105, 110]⟩, .string ⟨#[101, 110, 100]⟩] 9)).cell? ⟨w.heap.size, k, none⟩ = some (.string (wordS k)) := by
  have h := heap_alloc_new w (.cells #[.string ⟨#[101, 109, 112, 116, 121]⟩, .string ⟨#[111, 110, 101]⟩, .string ⟨#[99, 97, 116]⟩, .string ⟨#[97, 108, 116]⟩, .string ⟨#[115, 116, 97, 114]⟩, .string ⟨#[112, 108, 117, 115]⟩, .string ⟨#[109, 97, 121, 98, 101]⟩, .string ⟨#[103, 114, 111, 117, 112]⟩, .string ⟨#[98, 101, 103, 105, 110]⟩, .string ⟨#[101, 110, 100]⟩] 9)
  unfold World.cell?
  rw [h]
  match k, hk with
  | 0, _ | 1, _ | 2, _ | 3, _ | 4, _ | 5, _ | 6, _ | 7, _ | 8, _ | 9, _ => rfl

set_option maxRecDepth 100000 in
set_option maxHeartbeats 4000000 in
theorem lRexSame (A : Nat → Addr) (s t : ByteArray) (kind : Int) (w : World) (hE : PEnv A w) (hW : WordEnv w) (hs : s.size ≤ 9223372036854775807) (ht : t.size ≤ 9223372036854775807) (hk : -9223372036854775808 ≤ kind ∧ kind ≤ 9223372036854775807) :
    Calls Tryd.prog 4 #[.string s, .string t, .int .i64 kind] w fun e w' => e = .returned (.bool true) ∧ w.grownBy w' none := by
  have HE := Lib.hid hE; have HW := Lib.hid hW
  clear hE hW
  go_enter Tryd.func4, Tryd.ntmps4
  go_wp2_with fail
  refine (lAlive7 A w HE.out).mono ?_
  rintro e w1 ⟨rfl, g1⟩
  have G0 := Lib.hid g1
  have E0 := Lib.hid (HE.out.grown g1)
  clear g1 HE
  by_cases h1 : s.size > 100
  · have hd : decide ((s.size : Int) > 100) = true := by simp; omega
    go_wp2
    go_ret
    exact ⟨rfl, G0.out⟩
  have hd1 : decide ((s.size : Int) > 100) = false := by simp; omega
  by_cases h2 : t.size > 100
  · have hd : decide ((t.size : Int) > 100) = true := by simp; omega
    go_wp2
    go_ret
    exact ⟨rfl, G0.out⟩
  · have hd2 : decide ((t.size : Int) > 100) = false := by simp; omega
    obtain ⟨n, hn⟩ : ∃ n, n = (parN s).1 := ⟨_, rfl⟩
    obtain ⟨n', hn'⟩ : ∃ n, n = (parN t).1 := ⟨_, rfl⟩
    have Z := Lib.hid (show sizN n ≤ 200 by rw [hn]; exact par_siz s)
    obtain ⟨x1, hx1⟩ : ∃ x, x = errV A (parN s).2 := ⟨_, rfl⟩
    obtain ⟨x2, hx2⟩ : ∃ x, x = errV A (parN t).2 := ⟨_, rfl⟩
    have P1 := Lib.hid (show ∀ w, PEnv A w → Calls Tryd.prog 7 #[.string s] w fun e w' => (∃ a m k, e = .returned (.tuple #[ndV n (.slice a m k), x1]) ∧ Kids w' (.slice a m k) n.kids) ∧ w.grownBy w' none from fun w hE => by rw [hn, hx1]; exact cParse A s w (by omega) hE)
    have P2 := Lib.hid (show ∀ w, PEnv A w → Calls Tryd.prog 7 #[.string t] w fun e w' => (∃ a m k, e = .returned (.tuple #[ndV n' (.slice a m k), x2]) ∧ Kids w' (.slice a m k) n'.kids) ∧ w.grownBy w' none from fun w hE => by rw [hn', hx2]; exact cParse A t w (by omega) hE)
    have P3 := Lib.hid (show ∀ w, Calls Tryd.prog 8 #[.string s] w fun e w' => (∃ a m k, e = .returned (.tuple #[ndV n (.slice a m k), .int .i64 (parN s).2]) ∧ Kids w' (.slice a m k) n.kids) ∧ w.grownBy w' none from fun w => by rw [hn]; exact cParseD s w (by omega))
    have P4 := Lib.hid (show ∀ w, Calls Tryd.prog 8 #[.string t] w fun e w' => (∃ a m k, e = .returned (.tuple #[ndV n' (.slice a m k), .int .i64 (parN t).2]) ∧ Kids w' (.slice a m k) n'.kids) ∧ w.grownBy w' none from fun w => by rw [hn']; exact cParseD t w (by omega))
    clear hn hn' hx1 hx2
    go_upto_region 6 with (go_at_call 7; (with_reducible refine (P1.out _ E0.out).mono ?_); rintro e wc ⟨⟨a1, m1, c1, rfl, hK⟩, gc⟩)
    have ga := World.grownBy_alloc wc (.cells #[.int .i64 n.kind, .int .i64 n.index, .int .u64 (wd n.set 0), .int .u64 (wd n.set 1), .int .u64 (wd n.set 2), .int .u64 (wd n.set 3), .slice a1 m1 c1] 28) none
    have gg := gc.trans ga
    have G1 := Lib.hid (G0.out.trans gg)
    have E1 := Lib.hid (E0.out.grown gg)
    have B1 := Lib.hid (heap_alloc_new wc (.cells #[.int .i64 n.kind, .int .i64 n.index, .int .u64 (wd n.set 0), .int .u64 (wd n.set 1), .int .u64 (wd n.set 2), .int .u64 (wd n.set 3), .slice a1 m1 c1] 28))
    have K1 := Lib.hid (hK.grown ga)
    clear ga gg gc hK
    generalize wc.heap.size = q1 at B1 ⊢
    generalize wc.alloc _ = v1 at G1 E1 B1 K1  ⊢
    go_upto_region 7 with (go_at_call 7; (with_reducible refine (P2.out _ E1.out).mono ?_); rintro e wc ⟨⟨a2, m2, c2, rfl, hK⟩, gc⟩)
    have ga := World.grownBy_alloc wc (.cells #[.int .i64 n'.kind, .int .i64 n'.index, .int .u64 (wd n'.set 0), .int .u64 (wd n'.set 1), .int .u64 (wd n'.set 2), .int .u64 (wd n'.set 3), .slice a2 m2 c2] 28) none
    have gg := gc.trans ga
    have G2 := Lib.hid (G1.out.trans gg)
    have E2 := Lib.hid (E1.out.grown gg)
    have B2 := Lib.hid (heap_alloc_new wc (.cells #[.int .i64 n'.kind, .int .i64 n'.index, .int .u64 (wd n'.set 0), .int .u64 (wd n'.set 1), .int .u64 (wd n'.set 2), .int .u64 (wd n'.set 3), .slice a2 m2 c2] 28))
    have K2 := Lib.hid (hK.grown ga)
    have B1 := Lib.hid (heap_grown gg B1.out)
    have K1 := Lib.hid (K1.out.grown gg)
    clear ga gg gc hK
    generalize wc.heap.size = q2 at B2 ⊢
    generalize wc.alloc _ = v2 at G2 E2 B2 K2 B1 K1 ⊢
    go_upto_region 8 with (go_at_call 8; (with_reducible refine (P3.out _).mono ?_); rintro e wc ⟨⟨a3, m3, c3, rfl, hK⟩, gc⟩)
    have ga := World.grownBy_alloc wc (.cells #[.int .i64 n.kind, .int .i64 n.index, .int .u64 (wd n.set 0), .int .u64 (wd n.set 1), .int .u64 (wd n.set 2), .int .u64 (wd n.set 3), .slice a3 m3 c3] 35) none
    have gg := gc.trans ga
    have G3 := Lib.hid (G2.out.trans gg)
    have E3 := Lib.hid (E2.out.grown gg)
    have B3 := Lib.hid (heap_alloc_new wc (.cells #[.int .i64 n.kind, .int .i64 n.index, .int .u64 (wd n.set 0), .int .u64 (wd n.set 1), .int .u64 (wd n.set 2), .int .u64 (wd n.set 3), .slice a3 m3 c3] 35))
    have K3 := Lib.hid (hK.grown ga)
    have B1 := Lib.hid (heap_grown gg B1.out)
    have K1 := Lib.hid (K1.out.grown gg)
    have B2 := Lib.hid (heap_grown gg B2.out)
    have K2 := Lib.hid (K2.out.grown gg)
    clear ga gg gc hK
    generalize wc.heap.size = q3 at B3 ⊢
    generalize wc.alloc _ = v3 at G3 E3 B3 K3 B1 K1 B2 K2 ⊢
    go_upto_region 9 with (go_at_call 8; (with_reducible refine (P4.out _).mono ?_); rintro e wc ⟨⟨a4, m4, c4, rfl, hK⟩, gc⟩)
    have ga := World.grownBy_alloc wc (.cells #[.int .i64 n'.kind, .int .i64 n'.index, .int .u64 (wd n'.set 0), .int .u64 (wd n'.set 1), .int .u64 (wd n'.set 2), .int .u64 (wd n'.set 3), .slice a4 m4 c4] 35) none
    have gg := gc.trans ga
    have G4 := Lib.hid (G3.out.trans gg)
    have E4 := Lib.hid (E3.out.grown gg)
    have B4 := Lib.hid (heap_alloc_new wc (.cells #[.int .i64 n'.kind, .int .i64 n'.index, .int .u64 (wd n'.set 0), .int .u64 (wd n'.set 1), .int .u64 (wd n'.set 2), .int .u64 (wd n'.set 3), .slice a4 m4 c4] 35))
    have K4 := Lib.hid (hK.grown ga)
    have B1 := Lib.hid (heap_grown gg B1.out)
    have K1 := Lib.hid (K1.out.grown gg)
    have B2 := Lib.hid (heap_grown gg B2.out)
    have K2 := Lib.hid (K2.out.grown gg)
    have B3 := Lib.hid (heap_grown gg B3.out)
    have K3 := Lib.hid (K3.out.grown gg)
    clear ga gg gc hK
    generalize wc.heap.size = q4 at B4 ⊢
    generalize wc.alloc _ = v4 at G4 E4 B4 K4 B1 K1 B2 K2 B3 K3 ⊢
    have EW4 := Lib.hid (HW.out.grown G4.out)
    clear P1 P2 P3 P4 E4 HW G0 E0
    by_cases hk0 : 0 ≤ kind ∧ kind ≤ 9
    · obtain ⟨k, rfl⟩ : ∃ k : Nat, kind = k := ⟨kind.toNat, by omega⟩
      have hk9 : k < 10 := by omega
      have d0 : decide ((k : Int) ≥ 0) = true := decide_eq_true (by omega)
      have d9 : decide ((k : Int) ≤ 9) = true := decide_eq_true (by omega)
      have wcell := word_cell v4 k hk9
      have ga := World.grownBy_alloc v4 (.cells #[.string ⟨#[101, 109, 112, 116, 121]⟩, .string ⟨#[111, 110, 101]⟩, .string ⟨#[99, 97, 116]⟩, .string ⟨#[97, 108, 116]⟩, .string ⟨#[115, 116, 97, 114]⟩, .string ⟨#[112, 108, 117, 115]⟩, .string ⟨#[109, 97, 121, 98, 101]⟩, .string ⟨#[103, 114, 111, 117, 112]⟩, .string ⟨#[98, 101, 103, 105, 110]⟩, .string ⟨#[101, 110, 100]⟩] 9) none
      have G5 := Lib.hid (G4.out.trans ga)
      have EW5 := Lib.hid (EW4.out.grown ga)
      have B1 := Lib.hid (heap_grown ga B1.out)
      have K1 := Lib.hid (K1.out.grown ga)
      have B2 := Lib.hid (heap_grown ga B2.out)
      have K2 := Lib.hid (K2.out.grown ga)
      have B3 := Lib.hid (heap_grown ga B3.out)
      have K3 := Lib.hid (K3.out.grown ga)
      have B4 := Lib.hid (heap_grown ga B4.out)
      have K4 := Lib.hid (K4.out.grown ga)
      clear ga
      go_upto_region 12 with fail
      generalize v4.alloc _ = v5 at wcell G5 EW5 B1 K1 B2 K2 B3 K3 B4 K4 ⊢
      generalize v4.heap.size = q5 at wcell ⊢
      obtain ⟨wv, hwv⟩ : ∃ x, x = wordS k := ⟨_, rfl⟩
      have HWS := Lib.hid hwv
      rw [← hwv] at wcell ⊢
      clear wcell hwv
      have f10 : ∀ u : Gr v5, u.W.cell? ⟨q1, 0, none⟩ = some (.int .i64 n.kind) := fun u => (seven_cells (heap_grown u.g B1.out)).1
      have f11 : ∀ u : Gr v5, u.W.cell? ⟨q1, 1, none⟩ = some (.int .i64 n.index) := fun u => (seven_cells (heap_grown u.g B1.out)).2.1
      have f12 : ∀ u : Gr v5, u.W.cell? ⟨q1, 2, none⟩ = some (.int .u64 (wd n.set 0)) := fun u => (seven_cells (heap_grown u.g B1.out)).2.2.1
      have f13 : ∀ u : Gr v5, u.W.cell? ⟨q1, 3, none⟩ = some (.int .u64 (wd n.set 1)) := fun u => (seven_cells (heap_grown u.g B1.out)).2.2.2.1
      have f14 : ∀ u : Gr v5, u.W.cell? ⟨q1, 4, none⟩ = some (.int .u64 (wd n.set 2)) := fun u => (seven_cells (heap_grown u.g B1.out)).2.2.2.2.1
      have f15 : ∀ u : Gr v5, u.W.cell? ⟨q1, 5, none⟩ = some (.int .u64 (wd n.set 3)) := fun u => (seven_cells (heap_grown u.g B1.out)).2.2.2.2.2.1
      have f16 : ∀ u : Gr v5, u.W.cell? ⟨q1, 6, none⟩ = some (.slice a1 m1 c1) := fun u => (seven_cells (heap_grown u.g B1.out)).2.2.2.2.2.2
      have f20 : ∀ u : Gr v5, u.W.cell? ⟨q2, 0, none⟩ = some (.int .i64 n'.kind) := fun u => (seven_cells (heap_grown u.g B2.out)).1
      have f21 : ∀ u : Gr v5, u.W.cell? ⟨q2, 1, none⟩ = some (.int .i64 n'.index) := fun u => (seven_cells (heap_grown u.g B2.out)).2.1
      have f22 : ∀ u : Gr v5, u.W.cell? ⟨q2, 2, none⟩ = some (.int .u64 (wd n'.set 0)) := fun u => (seven_cells (heap_grown u.g B2.out)).2.2.1
      have f23 : ∀ u : Gr v5, u.W.cell? ⟨q2, 3, none⟩ = some (.int .u64 (wd n'.set 1)) := fun u => (seven_cells (heap_grown u.g B2.out)).2.2.2.1
      have f24 : ∀ u : Gr v5, u.W.cell? ⟨q2, 4, none⟩ = some (.int .u64 (wd n'.set 2)) := fun u => (seven_cells (heap_grown u.g B2.out)).2.2.2.2.1
      have f25 : ∀ u : Gr v5, u.W.cell? ⟨q2, 5, none⟩ = some (.int .u64 (wd n'.set 3)) := fun u => (seven_cells (heap_grown u.g B2.out)).2.2.2.2.2.1
      have f26 : ∀ u : Gr v5, u.W.cell? ⟨q2, 6, none⟩ = some (.slice a2 m2 c2) := fun u => (seven_cells (heap_grown u.g B2.out)).2.2.2.2.2.2
      have f30 : ∀ u : Gr v5, u.W.cell? ⟨q3, 0, none⟩ = some (.int .i64 n.kind) := fun u => (seven_cells (heap_grown u.g B3.out)).1
      have f31 : ∀ u : Gr v5, u.W.cell? ⟨q3, 1, none⟩ = some (.int .i64 n.index) := fun u => (seven_cells (heap_grown u.g B3.out)).2.1
      have f32 : ∀ u : Gr v5, u.W.cell? ⟨q3, 2, none⟩ = some (.int .u64 (wd n.set 0)) := fun u => (seven_cells (heap_grown u.g B3.out)).2.2.1
      have f33 : ∀ u : Gr v5, u.W.cell? ⟨q3, 3, none⟩ = some (.int .u64 (wd n.set 1)) := fun u => (seven_cells (heap_grown u.g B3.out)).2.2.2.1
      have f34 : ∀ u : Gr v5, u.W.cell? ⟨q3, 4, none⟩ = some (.int .u64 (wd n.set 2)) := fun u => (seven_cells (heap_grown u.g B3.out)).2.2.2.2.1
      have f35 : ∀ u : Gr v5, u.W.cell? ⟨q3, 5, none⟩ = some (.int .u64 (wd n.set 3)) := fun u => (seven_cells (heap_grown u.g B3.out)).2.2.2.2.2.1
      have f36 : ∀ u : Gr v5, u.W.cell? ⟨q3, 6, none⟩ = some (.slice a3 m3 c3) := fun u => (seven_cells (heap_grown u.g B3.out)).2.2.2.2.2.2
      have f40 : ∀ u : Gr v5, u.W.cell? ⟨q4, 0, none⟩ = some (.int .i64 n'.kind) := fun u => (seven_cells (heap_grown u.g B4.out)).1
      have f41 : ∀ u : Gr v5, u.W.cell? ⟨q4, 1, none⟩ = some (.int .i64 n'.index) := fun u => (seven_cells (heap_grown u.g B4.out)).2.1
      have f42 : ∀ u : Gr v5, u.W.cell? ⟨q4, 2, none⟩ = some (.int .u64 (wd n'.set 0)) := fun u => (seven_cells (heap_grown u.g B4.out)).2.2.1
      have f43 : ∀ u : Gr v5, u.W.cell? ⟨q4, 3, none⟩ = some (.int .u64 (wd n'.set 1)) := fun u => (seven_cells (heap_grown u.g B4.out)).2.2.2.1
      have f44 : ∀ u : Gr v5, u.W.cell? ⟨q4, 4, none⟩ = some (.int .u64 (wd n'.set 2)) := fun u => (seven_cells (heap_grown u.g B4.out)).2.2.2.2.1
      have f45 : ∀ u : Gr v5, u.W.cell? ⟨q4, 5, none⟩ = some (.int .u64 (wd n'.set 3)) := fun u => (seven_cells (heap_grown u.g B4.out)).2.2.2.2.2.1
      have f46 : ∀ u : Gr v5, u.W.cell? ⟨q4, 6, none⟩ = some (.slice a4 m4 c4) := fun u => (seven_cells (heap_grown u.g B4.out)).2.2.2.2.2.2
      have inst : Nonempty (Gr v5) := ⟨⟨v5, World.grownBy.refl _ _⟩⟩
      obtain ⟨bb, hbb⟩ : ∃ b, b = eqN n n' := ⟨_, rfl⟩
      have CA := Lib.hid (show ∀ w, v5.grownBy w none → Calls Tryd.prog 15 #[ndV n (.slice a1 m1 c1), ndV n' (.slice a2 m2 c2)] w fun e w' => e = .returned (.bool bb) ∧ w.grownBy w' none from fun w g => by rw [hbb]; exact cSameP 200 n n' _ _ _ _ _ _ w Z.out (Nat.le_refl _) (K1.out.grown g) (K2.out.grown g))
      have CB := Lib.hid (show ∀ w, v5.grownBy w none → Calls Tryd.prog 10 #[ndV n (.slice a3 m3 c3), ndV n' (.slice a4 m4 c4)] w fun e w' => e = .returned (.bool bb) ∧ w.grownBy w' none from fun w g => by rw [hbb]; exact cSameD 200 n n' _ _ _ _ _ _ w Z.out (Nat.le_refl _) (K3.out.grown g) (K4.out.grown g))
      have CC := Lib.hid (show ∀ w, v5.grownBy w none → Calls Tryd.prog 15 #[ndV n (.slice a1 m1 c1), ndV n (.slice a1 m1 c1)] w fun e w' => e = .returned (.bool true) ∧ w.grownBy w' none from fun w g => by have := cSameP 200 n n _ _ _ _ _ _ w Z.out (Nat.le_refl _) (K1.out.grown g) (K1.out.grown g); rw [eqN_refl] at this; exact this)
      have CW := Lib.hid (show ∀ w, v5.grownBy w none → Calls Tryd.prog 16 #[.int .i64 k] w fun e w' => e = .returned (.string wv) ∧ w = w' from fun w g => by rw [HWS.out]; exact cWord _ (by omega) w (EW5.out.grown g))
      clear hbb HWS
      have HG := Lib.hid G5.out
      refine wp_region_grows (by kernel_rfl) (by kernel_rfl) ?_
      cases bb
      all_goals
        repeat (go_big_quiet_step (first
          | (go_at_call 10; with_reducible refine (CB.out _ (Gr.g _)).mono ?_; rintro e w9 ⟨he, g9⟩; exact ⟨he, ⟨_, (Gr.g _).trans g9⟩, rfl⟩)
          | (go_at_call 15; with_reducible refine (CA.out _ (Gr.g _)).mono ?_; rintro e w9 ⟨he, g9⟩; exact ⟨he, ⟨_, (Gr.g _).trans g9⟩, rfl⟩)
          | (go_at_call 15; with_reducible refine (CC.out _ (Gr.g _)).mono ?_; rintro e w9 ⟨he, g9⟩; exact ⟨he, ⟨_, (Gr.g _).trans g9⟩, rfl⟩)
          | (go_at_call 16; with_reducible refine (CW.out _ (Gr.g _)).mono ?_; rintro e w9 ⟨he, rfl⟩; exact ⟨he, ⟨_, Gr.g _⟩, rfl⟩)))
        refine wpQuiet_nil ?_
        rintro _ ⟨⟨w9, gg⟩, rfl⟩
        have G9 := Lib.hid (HG.out.trans gg)
        clear gg inst CA CB CC CW
        go_wp2
        go_ret
        exact ⟨rfl, G9.out⟩
    · have HWS := Lib.hid (show (⟨#[]⟩ : ByteArray) = wordS kind by unfold wordS; repeat rw [if_neg (by omega)])
      have G5 := Lib.hid G4.out
      have EW5 := Lib.hid EW4.out
      by_cases hz : 0 ≤ kind
      · have d0 : decide (kind ≥ 0) = true := decide_eq_true hz
        have d9 : decide (kind ≤ 9) = false := decide_eq_false (by omega)
        go_upto_region 12 with fail
        have f10 : ∀ u : Gr v4, u.W.cell? ⟨q1, 0, none⟩ = some (.int .i64 n.kind) := fun u => (seven_cells (heap_grown u.g B1.out)).1
        have f11 : ∀ u : Gr v4, u.W.cell? ⟨q1, 1, none⟩ = some (.int .i64 n.index) := fun u => (seven_cells (heap_grown u.g B1.out)).2.1
        have f12 : ∀ u : Gr v4, u.W.cell? ⟨q1, 2, none⟩ = some (.int .u64 (wd n.set 0)) := fun u => (seven_cells (heap_grown u.g B1.out)).2.2.1
        have f13 : ∀ u : Gr v4, u.W.cell? ⟨q1, 3, none⟩ = some (.int .u64 (wd n.set 1)) := fun u => (seven_cells (heap_grown u.g B1.out)).2.2.2.1
        have f14 : ∀ u : Gr v4, u.W.cell? ⟨q1, 4, none⟩ = some (.int .u64 (wd n.set 2)) := fun u => (seven_cells (heap_grown u.g B1.out)).2.2.2.2.1
        have f15 : ∀ u : Gr v4, u.W.cell? ⟨q1, 5, none⟩ = some (.int .u64 (wd n.set 3)) := fun u => (seven_cells (heap_grown u.g B1.out)).2.2.2.2.2.1
        have f16 : ∀ u : Gr v4, u.W.cell? ⟨q1, 6, none⟩ = some (.slice a1 m1 c1) := fun u => (seven_cells (heap_grown u.g B1.out)).2.2.2.2.2.2
        have f20 : ∀ u : Gr v4, u.W.cell? ⟨q2, 0, none⟩ = some (.int .i64 n'.kind) := fun u => (seven_cells (heap_grown u.g B2.out)).1
        have f21 : ∀ u : Gr v4, u.W.cell? ⟨q2, 1, none⟩ = some (.int .i64 n'.index) := fun u => (seven_cells (heap_grown u.g B2.out)).2.1
        have f22 : ∀ u : Gr v4, u.W.cell? ⟨q2, 2, none⟩ = some (.int .u64 (wd n'.set 0)) := fun u => (seven_cells (heap_grown u.g B2.out)).2.2.1
        have f23 : ∀ u : Gr v4, u.W.cell? ⟨q2, 3, none⟩ = some (.int .u64 (wd n'.set 1)) := fun u => (seven_cells (heap_grown u.g B2.out)).2.2.2.1
        have f24 : ∀ u : Gr v4, u.W.cell? ⟨q2, 4, none⟩ = some (.int .u64 (wd n'.set 2)) := fun u => (seven_cells (heap_grown u.g B2.out)).2.2.2.2.1
        have f25 : ∀ u : Gr v4, u.W.cell? ⟨q2, 5, none⟩ = some (.int .u64 (wd n'.set 3)) := fun u => (seven_cells (heap_grown u.g B2.out)).2.2.2.2.2.1
        have f26 : ∀ u : Gr v4, u.W.cell? ⟨q2, 6, none⟩ = some (.slice a2 m2 c2) := fun u => (seven_cells (heap_grown u.g B2.out)).2.2.2.2.2.2
        have f30 : ∀ u : Gr v4, u.W.cell? ⟨q3, 0, none⟩ = some (.int .i64 n.kind) := fun u => (seven_cells (heap_grown u.g B3.out)).1
        have f31 : ∀ u : Gr v4, u.W.cell? ⟨q3, 1, none⟩ = some (.int .i64 n.index) := fun u => (seven_cells (heap_grown u.g B3.out)).2.1
        have f32 : ∀ u : Gr v4, u.W.cell? ⟨q3, 2, none⟩ = some (.int .u64 (wd n.set 0)) := fun u => (seven_cells (heap_grown u.g B3.out)).2.2.1
        have f33 : ∀ u : Gr v4, u.W.cell? ⟨q3, 3, none⟩ = some (.int .u64 (wd n.set 1)) := fun u => (seven_cells (heap_grown u.g B3.out)).2.2.2.1
        have f34 : ∀ u : Gr v4, u.W.cell? ⟨q3, 4, none⟩ = some (.int .u64 (wd n.set 2)) := fun u => (seven_cells (heap_grown u.g B3.out)).2.2.2.2.1
        have f35 : ∀ u : Gr v4, u.W.cell? ⟨q3, 5, none⟩ = some (.int .u64 (wd n.set 3)) := fun u => (seven_cells (heap_grown u.g B3.out)).2.2.2.2.2.1
        have f36 : ∀ u : Gr v4, u.W.cell? ⟨q3, 6, none⟩ = some (.slice a3 m3 c3) := fun u => (seven_cells (heap_grown u.g B3.out)).2.2.2.2.2.2
        have f40 : ∀ u : Gr v4, u.W.cell? ⟨q4, 0, none⟩ = some (.int .i64 n'.kind) := fun u => (seven_cells (heap_grown u.g B4.out)).1
        have f41 : ∀ u : Gr v4, u.W.cell? ⟨q4, 1, none⟩ = some (.int .i64 n'.index) := fun u => (seven_cells (heap_grown u.g B4.out)).2.1
        have f42 : ∀ u : Gr v4, u.W.cell? ⟨q4, 2, none⟩ = some (.int .u64 (wd n'.set 0)) := fun u => (seven_cells (heap_grown u.g B4.out)).2.2.1
        have f43 : ∀ u : Gr v4, u.W.cell? ⟨q4, 3, none⟩ = some (.int .u64 (wd n'.set 1)) := fun u => (seven_cells (heap_grown u.g B4.out)).2.2.2.1
        have f44 : ∀ u : Gr v4, u.W.cell? ⟨q4, 4, none⟩ = some (.int .u64 (wd n'.set 2)) := fun u => (seven_cells (heap_grown u.g B4.out)).2.2.2.2.1
        have f45 : ∀ u : Gr v4, u.W.cell? ⟨q4, 5, none⟩ = some (.int .u64 (wd n'.set 3)) := fun u => (seven_cells (heap_grown u.g B4.out)).2.2.2.2.2.1
        have f46 : ∀ u : Gr v4, u.W.cell? ⟨q4, 6, none⟩ = some (.slice a4 m4 c4) := fun u => (seven_cells (heap_grown u.g B4.out)).2.2.2.2.2.2
        have inst : Nonempty (Gr v4) := ⟨⟨v4, World.grownBy.refl _ _⟩⟩
        obtain ⟨bb, hbb⟩ : ∃ b, b = eqN n n' := ⟨_, rfl⟩
        have CA := Lib.hid (show ∀ w, v4.grownBy w none → Calls Tryd.prog 15 #[ndV n (.slice a1 m1 c1), ndV n' (.slice a2 m2 c2)] w fun e w' => e = .returned (.bool bb) ∧ w.grownBy w' none from fun w g => by rw [hbb]; exact cSameP 200 n n' _ _ _ _ _ _ w Z.out (Nat.le_refl _) (K1.out.grown g) (K2.out.grown g))
        have CB := Lib.hid (show ∀ w, v4.grownBy w none → Calls Tryd.prog 10 #[ndV n (.slice a3 m3 c3), ndV n' (.slice a4 m4 c4)] w fun e w' => e = .returned (.bool bb) ∧ w.grownBy w' none from fun w g => by rw [hbb]; exact cSameD 200 n n' _ _ _ _ _ _ w Z.out (Nat.le_refl _) (K3.out.grown g) (K4.out.grown g))
        have CC := Lib.hid (show ∀ w, v4.grownBy w none → Calls Tryd.prog 15 #[ndV n (.slice a1 m1 c1), ndV n (.slice a1 m1 c1)] w fun e w' => e = .returned (.bool true) ∧ w.grownBy w' none from fun w g => by have := cSameP 200 n n _ _ _ _ _ _ w Z.out (Nat.le_refl _) (K1.out.grown g) (K1.out.grown g); rw [eqN_refl] at this; exact this)
        have CW := Lib.hid (show ∀ w, v4.grownBy w none → Calls Tryd.prog 16 #[.int .i64 kind] w fun e w' => e = .returned (.string ⟨#[]⟩) ∧ w = w' from fun w g => by rw [HWS.out]; exact cWord _ (by omega) w (EW5.out.grown g))
        clear hbb HWS
        have HG := Lib.hid G5.out
        refine wp_region_grows (by kernel_rfl) (by kernel_rfl) ?_
        cases bb
        all_goals
          repeat (go_big_quiet_step (first
            | (go_at_call 10; with_reducible refine (CB.out _ (Gr.g _)).mono ?_; rintro e w9 ⟨he, g9⟩; exact ⟨he, ⟨_, (Gr.g _).trans g9⟩, rfl⟩)
            | (go_at_call 15; with_reducible refine (CA.out _ (Gr.g _)).mono ?_; rintro e w9 ⟨he, g9⟩; exact ⟨he, ⟨_, (Gr.g _).trans g9⟩, rfl⟩)
            | (go_at_call 15; with_reducible refine (CC.out _ (Gr.g _)).mono ?_; rintro e w9 ⟨he, g9⟩; exact ⟨he, ⟨_, (Gr.g _).trans g9⟩, rfl⟩)
            | (go_at_call 16; with_reducible refine (CW.out _ (Gr.g _)).mono ?_; rintro e w9 ⟨he, rfl⟩; exact ⟨he, ⟨_, Gr.g _⟩, rfl⟩)))
          refine wpQuiet_nil ?_
          rintro _ ⟨⟨w9, gg⟩, rfl⟩
          have G9 := Lib.hid (HG.out.trans gg)
          clear gg inst CA CB CC CW
          go_wp2
          go_ret
          exact ⟨rfl, G9.out⟩
      · have d0 : decide (kind ≥ 0) = false := decide_eq_false hz
        go_upto_region 12 with fail
        have f10 : ∀ u : Gr v4, u.W.cell? ⟨q1, 0, none⟩ = some (.int .i64 n.kind) := fun u => (seven_cells (heap_grown u.g B1.out)).1
        have f11 : ∀ u : Gr v4, u.W.cell? ⟨q1, 1, none⟩ = some (.int .i64 n.index) := fun u => (seven_cells (heap_grown u.g B1.out)).2.1
        have f12 : ∀ u : Gr v4, u.W.cell? ⟨q1, 2, none⟩ = some (.int .u64 (wd n.set 0)) := fun u => (seven_cells (heap_grown u.g B1.out)).2.2.1
        have f13 : ∀ u : Gr v4, u.W.cell? ⟨q1, 3, none⟩ = some (.int .u64 (wd n.set 1)) := fun u => (seven_cells (heap_grown u.g B1.out)).2.2.2.1
        have f14 : ∀ u : Gr v4, u.W.cell? ⟨q1, 4, none⟩ = some (.int .u64 (wd n.set 2)) := fun u => (seven_cells (heap_grown u.g B1.out)).2.2.2.2.1
        have f15 : ∀ u : Gr v4, u.W.cell? ⟨q1, 5, none⟩ = some (.int .u64 (wd n.set 3)) := fun u => (seven_cells (heap_grown u.g B1.out)).2.2.2.2.2.1
        have f16 : ∀ u : Gr v4, u.W.cell? ⟨q1, 6, none⟩ = some (.slice a1 m1 c1) := fun u => (seven_cells (heap_grown u.g B1.out)).2.2.2.2.2.2
        have f20 : ∀ u : Gr v4, u.W.cell? ⟨q2, 0, none⟩ = some (.int .i64 n'.kind) := fun u => (seven_cells (heap_grown u.g B2.out)).1
        have f21 : ∀ u : Gr v4, u.W.cell? ⟨q2, 1, none⟩ = some (.int .i64 n'.index) := fun u => (seven_cells (heap_grown u.g B2.out)).2.1
        have f22 : ∀ u : Gr v4, u.W.cell? ⟨q2, 2, none⟩ = some (.int .u64 (wd n'.set 0)) := fun u => (seven_cells (heap_grown u.g B2.out)).2.2.1
        have f23 : ∀ u : Gr v4, u.W.cell? ⟨q2, 3, none⟩ = some (.int .u64 (wd n'.set 1)) := fun u => (seven_cells (heap_grown u.g B2.out)).2.2.2.1
        have f24 : ∀ u : Gr v4, u.W.cell? ⟨q2, 4, none⟩ = some (.int .u64 (wd n'.set 2)) := fun u => (seven_cells (heap_grown u.g B2.out)).2.2.2.2.1
        have f25 : ∀ u : Gr v4, u.W.cell? ⟨q2, 5, none⟩ = some (.int .u64 (wd n'.set 3)) := fun u => (seven_cells (heap_grown u.g B2.out)).2.2.2.2.2.1
        have f26 : ∀ u : Gr v4, u.W.cell? ⟨q2, 6, none⟩ = some (.slice a2 m2 c2) := fun u => (seven_cells (heap_grown u.g B2.out)).2.2.2.2.2.2
        have f30 : ∀ u : Gr v4, u.W.cell? ⟨q3, 0, none⟩ = some (.int .i64 n.kind) := fun u => (seven_cells (heap_grown u.g B3.out)).1
        have f31 : ∀ u : Gr v4, u.W.cell? ⟨q3, 1, none⟩ = some (.int .i64 n.index) := fun u => (seven_cells (heap_grown u.g B3.out)).2.1
        have f32 : ∀ u : Gr v4, u.W.cell? ⟨q3, 2, none⟩ = some (.int .u64 (wd n.set 0)) := fun u => (seven_cells (heap_grown u.g B3.out)).2.2.1
        have f33 : ∀ u : Gr v4, u.W.cell? ⟨q3, 3, none⟩ = some (.int .u64 (wd n.set 1)) := fun u => (seven_cells (heap_grown u.g B3.out)).2.2.2.1
        have f34 : ∀ u : Gr v4, u.W.cell? ⟨q3, 4, none⟩ = some (.int .u64 (wd n.set 2)) := fun u => (seven_cells (heap_grown u.g B3.out)).2.2.2.2.1
        have f35 : ∀ u : Gr v4, u.W.cell? ⟨q3, 5, none⟩ = some (.int .u64 (wd n.set 3)) := fun u => (seven_cells (heap_grown u.g B3.out)).2.2.2.2.2.1
        have f36 : ∀ u : Gr v4, u.W.cell? ⟨q3, 6, none⟩ = some (.slice a3 m3 c3) := fun u => (seven_cells (heap_grown u.g B3.out)).2.2.2.2.2.2
        have f40 : ∀ u : Gr v4, u.W.cell? ⟨q4, 0, none⟩ = some (.int .i64 n'.kind) := fun u => (seven_cells (heap_grown u.g B4.out)).1
        have f41 : ∀ u : Gr v4, u.W.cell? ⟨q4, 1, none⟩ = some (.int .i64 n'.index) := fun u => (seven_cells (heap_grown u.g B4.out)).2.1
        have f42 : ∀ u : Gr v4, u.W.cell? ⟨q4, 2, none⟩ = some (.int .u64 (wd n'.set 0)) := fun u => (seven_cells (heap_grown u.g B4.out)).2.2.1
        have f43 : ∀ u : Gr v4, u.W.cell? ⟨q4, 3, none⟩ = some (.int .u64 (wd n'.set 1)) := fun u => (seven_cells (heap_grown u.g B4.out)).2.2.2.1
        have f44 : ∀ u : Gr v4, u.W.cell? ⟨q4, 4, none⟩ = some (.int .u64 (wd n'.set 2)) := fun u => (seven_cells (heap_grown u.g B4.out)).2.2.2.2.1
        have f45 : ∀ u : Gr v4, u.W.cell? ⟨q4, 5, none⟩ = some (.int .u64 (wd n'.set 3)) := fun u => (seven_cells (heap_grown u.g B4.out)).2.2.2.2.2.1
        have f46 : ∀ u : Gr v4, u.W.cell? ⟨q4, 6, none⟩ = some (.slice a4 m4 c4) := fun u => (seven_cells (heap_grown u.g B4.out)).2.2.2.2.2.2
        have inst : Nonempty (Gr v4) := ⟨⟨v4, World.grownBy.refl _ _⟩⟩
        obtain ⟨bb, hbb⟩ : ∃ b, b = eqN n n' := ⟨_, rfl⟩
        have CA := Lib.hid (show ∀ w, v4.grownBy w none → Calls Tryd.prog 15 #[ndV n (.slice a1 m1 c1), ndV n' (.slice a2 m2 c2)] w fun e w' => e = .returned (.bool bb) ∧ w.grownBy w' none from fun w g => by rw [hbb]; exact cSameP 200 n n' _ _ _ _ _ _ w Z.out (Nat.le_refl _) (K1.out.grown g) (K2.out.grown g))
        have CB := Lib.hid (show ∀ w, v4.grownBy w none → Calls Tryd.prog 10 #[ndV n (.slice a3 m3 c3), ndV n' (.slice a4 m4 c4)] w fun e w' => e = .returned (.bool bb) ∧ w.grownBy w' none from fun w g => by rw [hbb]; exact cSameD 200 n n' _ _ _ _ _ _ w Z.out (Nat.le_refl _) (K3.out.grown g) (K4.out.grown g))
        have CC := Lib.hid (show ∀ w, v4.grownBy w none → Calls Tryd.prog 15 #[ndV n (.slice a1 m1 c1), ndV n (.slice a1 m1 c1)] w fun e w' => e = .returned (.bool true) ∧ w.grownBy w' none from fun w g => by have := cSameP 200 n n _ _ _ _ _ _ w Z.out (Nat.le_refl _) (K1.out.grown g) (K1.out.grown g); rw [eqN_refl] at this; exact this)
        have CW := Lib.hid (show ∀ w, v4.grownBy w none → Calls Tryd.prog 16 #[.int .i64 kind] w fun e w' => e = .returned (.string ⟨#[]⟩) ∧ w = w' from fun w g => by rw [HWS.out]; exact cWord _ (by omega) w (EW5.out.grown g))
        clear hbb HWS
        have HG := Lib.hid G5.out
        refine wp_region_grows (by kernel_rfl) (by kernel_rfl) ?_
        cases bb
        all_goals
          repeat (go_big_quiet_step (first
            | (go_at_call 10; with_reducible refine (CB.out _ (Gr.g _)).mono ?_; rintro e w9 ⟨he, g9⟩; exact ⟨he, ⟨_, (Gr.g _).trans g9⟩, rfl⟩)
            | (go_at_call 15; with_reducible refine (CA.out _ (Gr.g _)).mono ?_; rintro e w9 ⟨he, g9⟩; exact ⟨he, ⟨_, (Gr.g _).trans g9⟩, rfl⟩)
            | (go_at_call 15; with_reducible refine (CC.out _ (Gr.g _)).mono ?_; rintro e w9 ⟨he, g9⟩; exact ⟨he, ⟨_, (Gr.g _).trans g9⟩, rfl⟩)
            | (go_at_call 16; with_reducible refine (CW.out _ (Gr.g _)).mono ?_; rintro e w9 ⟨he, rfl⟩; exact ⟨he, ⟨_, Gr.g _⟩, rfl⟩)))
          refine wpQuiet_nil ?_
          rintro _ ⟨⟨w9, gg⟩, rfl⟩
          have G9 := Lib.hid (HG.out.trans gg)
          clear gg inst CA CB CC CW
          go_wp2
          go_ret
          exact ⟨rfl, G9.out⟩
end Go.Proofs.YtonbcldhbinmeaaDoor

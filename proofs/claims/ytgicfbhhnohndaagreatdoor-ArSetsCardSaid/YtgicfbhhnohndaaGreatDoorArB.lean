/- Walks of package ar: a member's bytes, as they are written. -/
import Derived.Test.YtgicfbhhnohndaaGreatDoorArA
namespace Go.Proofs.YtgicfbhhnohndaaGreatDoor
open Go.RowKit

theorem aColumn' {s x : ByteArray} {n : Nat} (w : World) (hs : s.size ≤ n) (hn : n ≤ 100) (hx : x.data.toList = padL s.data.toList n) :
    Calls Tryz.prog 32 #[.string s, .int .i64 n] w fun e w' => e = .returned (.string x) ∧ w.grownBy w' none :=
  (aColumn s n w hs hn).mono fun e w' ⟨y, he, hy, _, hg⟩ => by
    obtain rfl : y = x := ba_ext (hy.trans hx.symm)
    exact ⟨he, hg⟩
theorem aItoa {n : Int} {x : ByteArray} (w : World) (h0 : 0 ≤ n) (h1 : n ≤ 9223372036854775807) (hx : x.data.toList = Lib.itoa n) (ht : Lib.TabIs Tryz.prog w "internal/strconv.uint64pow10" .u64 Lib.pow10Tab) :
    Calls Tryz.prog 33 #[.int .i64 n] w fun e w' => e = .returned (.string x) ∧ w.grownBy w' none :=
  (Tryz.strconv_Itoa n (by omega) h1 w ht).mono fun e w' ⟨he, k, os, hw⟩ => by
    obtain rfl : (⟨(Lib.itoa n).toArray⟩ : ByteArray) = x := ba_ext (by rw [hx])
    subst hw
    exact ⟨he, grown_of_below (Lib.below_grow _ _ (Nat.le_refl _) _ _)⟩
theorem some_ba (l : List UInt8) : ∃ x : ByteArray, x.data.toList = l ∧ x.size = l.length := ⟨⟨l.toArray⟩, by simp, Lib.size_mk l⟩
theorem one_ba {m : Mb} {c1 c2 c3 f b : ByteArray} (h1 : c1.data.toList = padL m.n.data.toList 16) (h2 : c2.data.toList = padL (Lib.itoa m.t) 12) (h3 : c3.data.toList = padL (Lib.itoa m.c.size) 10) (hf : f.data.toList = fixL) (hb : b.data.toList = [96, 10]) :
    (c1 ++ c2 ++ f ++ c3 ++ b ++ m.c).data.toList ++ oddL m.c = oneL m := by
  unfold oneL
  simp only [ba_app, h1, h2, h3, hf, hb, List.append_assoc]

set_option maxRecDepth 100000 in
set_option maxHeartbeats 1000000 in
theorem aWritten (m : Mb) (A : Nat → Addr) (w : World) (hE : Env A w) (hf : Fits m) (ht : 0 ≤ m.t) (htm : m.t ≤ 9223372036854775807) (hc : m.c.size ≤ 100000) :
    Calls Tryz.prog 21 #[valM m] w fun e w' => ∃ x : ByteArray, e = .returned (.string x) ∧ x.data.toList = oneL m ∧ w.grownBy w' none := by
  obtain ⟨f1, f2, f3⟩ := hf
  obtain ⟨it, hit, zit⟩ := some_ba (Lib.itoa m.t)
  obtain ⟨iz, hiz, ziz⟩ := some_ba (Lib.itoa m.c.size)
  obtain ⟨c1, hc1, zc1⟩ := some_ba (padL m.n.data.toList 16)
  obtain ⟨c2, hc2, zc2⟩ := some_ba (padL (Lib.itoa m.t) 12)
  obtain ⟨c3, hc3, zc3⟩ := some_ba (padL (Lib.itoa m.c.size) 10)
  have y1 : c1.size ≤ 16 := by rw [zc1, pad_len (by rw [bytes_len]; exact f1)]; exact Nat.le_refl _
  have y2 : c2.size ≤ 12 := by rw [zc2, pad_len f2]; exact Nat.le_refl _
  have y3 : c3.size ≤ 10 := by rw [zc3, pad_len f3]; exact Nat.le_refl _
  have y4 : it.size ≤ 12 := by rw [zit]; exact f2
  have y5 : iz.size ≤ 10 := by rw [ziz]; exact f3
  have E := Lib.hid hE
  have K1 : ∀ u : Gr (w.alloc (.cells #[.string m.n, .int .i64 m.t, .string m.c] 35)), Calls Tryz.prog 32 #[.string m.n, .int .i64 16] u.W fun e w' => e = .returned (.string c1) ∧ u.W.grownBy w' none := fun u => aColumn' (n := 16) _ f1 (by omega) hc1
  have K2 : ∀ u : Gr (w.alloc (.cells #[.string m.n, .int .i64 m.t, .string m.c] 35)), Calls Tryz.prog 32 #[.string it, .int .i64 12] u.W fun e w' => e = .returned (.string c2) ∧ u.W.grownBy w' none := fun u => aColumn' (n := 12) _ y4 (by omega) (by rw [hit]; exact hc2)
  have K3 : ∀ u : Gr (w.alloc (.cells #[.string m.n, .int .i64 m.t, .string m.c] 35)), Calls Tryz.prog 32 #[.string iz, .int .i64 10] u.W fun e w' => e = .returned (.string c3) ∧ u.W.grownBy w' none := fun u => aColumn' (n := 10) _ y5 (by omega) (by rw [hiz]; exact hc3)
  have K4 : ∀ u : Gr (w.alloc (.cells #[.string m.n, .int .i64 m.t, .string m.c] 35)), Calls Tryz.prog 33 #[.int .i64 m.t] u.W fun e w' => e = .returned (.string it) ∧ u.W.grownBy w' none := fun u => aItoa _ ht htm hit ((E.out.grown (World.grownBy_alloc _ _ _)).grown u.g).tab
  have K5 : ∀ u : Gr (w.alloc (.cells #[.string m.n, .int .i64 m.t, .string m.c] 35)), Calls Tryz.prog 33 #[.int .i64 m.c.size] u.W fun e w' => e = .returned (.string iz) ∧ u.W.grownBy w' none := fun u => aItoa _ (by omega) (by omega) hiz ((E.out.grown (World.grownBy_alloc _ _ _)).grown u.g).tab
  have ONE := Lib.hid (one_ba (m := m) (f := ⟨#[48, 32, 32, 32, 32, 32, 48, 32, 32, 32, 32, 32, 54, 52, 52, 32, 32, 32, 32, 32]⟩) (b := ⟨#[96, 10]⟩) hc1 hc2 hc3 rfl rfl)
  have k0 : ∀ u : Gr (w.alloc (.cells #[.string m.n, .int .i64 m.t, .string m.c] 35)), u.W.cell? ⟨w.heap.size, 0, none⟩ = some (.string m.n) := fun u => u.g.cell (by simp) (by simp)
  have k1 : ∀ u : Gr (w.alloc (.cells #[.string m.n, .int .i64 m.t, .string m.c] 35)), u.W.cell? ⟨w.heap.size, 1, none⟩ = some (.int .i64 m.t) := fun u => u.g.cell (by simp) (by simp)
  have k2 : ∀ u : Gr (w.alloc (.cells #[.string m.n, .int .i64 m.t, .string m.c] 35)), u.W.cell? ⟨w.heap.size, 2, none⟩ = some (.string m.c) := fun u => u.g.cell (by simp) (by simp)
  have C1 := Lib.hid K1; have C2 := Lib.hid K2; have C3 := Lib.hid K3; have C4 := Lib.hid K4; have C5 := Lib.hid K5
  have FL := Lib.hid (one_len (m := m) ⟨f1, f2, f3⟩)
  have G0 := Lib.hid (World.grownBy_alloc w (.cells #[.string m.n, .int .i64 m.t, .string m.c] 35) none)
  have X0 := Lib.hid k2
  clear K1 K2 K3 K4 K5 hit zit hiz ziz hc1 zc1 hc2 zc2 hc3 zc3 hE
  have inst : Nonempty (Gr (w.alloc (.cells #[.string m.n, .int .i64 m.t, .string m.c] 35))) := ⟨⟨_, World.grownBy.refl _ _⟩⟩
  unfold valM
  go_enter Tryz.func21, Tryz.ntmps21
  go_wp2
  generalize (w.alloc (.cells #[.string m.n, .int .i64 m.t, .string m.c] 35)) = w1 at *
  generalize w.heap.size = p at *
  refine wp_region_grows (by kernel_rfl) (by kernel_rfl) ?_
  repeat (go_big_quiet_step (first
    | (go_at_call 32; (with_reducible refine (C1.out _).mono ?_); rintro e w9 ⟨he, g9⟩; exact ⟨he, ⟨_, (Gr.g _).trans g9⟩, rfl⟩)
    | (go_at_call 32; (with_reducible refine (C2.out _).mono ?_); rintro e w9 ⟨he, g9⟩; exact ⟨he, ⟨_, (Gr.g _).trans g9⟩, rfl⟩)
    | (go_at_call 32; (with_reducible refine (C3.out _).mono ?_); rintro e w9 ⟨he, g9⟩; exact ⟨he, ⟨_, (Gr.g _).trans g9⟩, rfl⟩)
    | (go_at_call 33; (with_reducible refine (C4.out _).mono ?_); rintro e w9 ⟨he, g9⟩; exact ⟨he, ⟨_, (Gr.g _).trans g9⟩, rfl⟩)
    | (go_at_call 33; (with_reducible refine (C5.out _).mono ?_); rintro e w9 ⟨he, g9⟩; exact ⟨he, ⟨_, (Gr.g _).trans g9⟩, rfl⟩)))
  refine wpQuiet_nil ?_
  rintro w9 ⟨⟨_, g9⟩, rfl⟩
  have kc := X0.out ⟨w9, g9⟩
  have G9 := Lib.hid (G0.out.trans g9)
  simp only at kc
  have hl := congrArg List.length ONE.out
  rw [List.length_append, bytes_len, FL.out] at hl
  generalize (c1 ++ c2 ++ (⟨#[48, 32, 32, 32, 32, 32, 48, 32, 32, 32, 32, 32, 54, 52, 52, 32, 32, 32, 32, 32]⟩ : ByteArray) ++ c3 ++ (⟨#[96, 10]⟩ : ByteArray) ++ m.c) = y at ONE hl ⊢
  have ys : y.size ≤ 200000 := by unfold sizeM at hl; omega
  clear k0 k1 k2 hl g9 C1 C2 C3 C4 C5 X0 G0 inst
  rcases Nat.mod_two_eq_zero_or_one m.c.size with h | h
  · have ho : oddL m.c = [] := by unfold oddL; rw [if_neg (by omega)]
    have H := Lib.hid (show y.data.toList = oneL m by rw [← ONE.out, ho, List.append_nil])
    have h1 : (((m.c.size : Int) % 2) == 1) = false := by rw [beq_eq_false_iff_ne]; omega
    clear h ho ONE
    go_wp2_with (go_at_call 26; refine (aOdd _ _ (by unfold maxLen; omega)).mono ?_; rintro e w' ⟨rfl, rfl⟩)
    go_ret
    exact ⟨_, rfl, H.out, G9.out⟩
  · have ho : oddL m.c = [10] := by unfold oddL; rw [if_pos h]
    have H := Lib.hid (show (y ++ (⟨#[10]⟩ : ByteArray)).data.toList = oneL m by rw [← ONE.out, ho, ba_app])
    have h1 : (((m.c.size : Int) % 2) == 1) = true := by rw [beq_iff_eq]; omega
    clear h ho ONE
    go_wp2_with (go_at_call 26; refine (aOdd _ _ (by unfold maxLen; omega)).mono ?_; rintro e w' ⟨rfl, rfl⟩)
    go_ret
    exact ⟨_, rfl, H.out, G9.out⟩
end Go.Proofs.YtgicfbhhnohndaaGreatDoor

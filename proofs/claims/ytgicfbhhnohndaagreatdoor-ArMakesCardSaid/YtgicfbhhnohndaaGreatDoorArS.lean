/- Walks of the document's layer 3: a member's bytes; Make. -/
import Derived.Test.YtgicfbhhnohndaaGreatDoorArR
namespace Go.Proofs.YtgicfbhhnohndaaGreatDoor
open Go.RowKit

/-- a cell that holds a member as of the document -/
def BoxR (w : World) (p : Nat) (m : Mb) : Prop := w.heap[p]? = some (.cells #[.string m.n, .int .i64 m.t, .string m.c] 45 (0, 0))
theorem BoxR.kept {w w' : World} {p : Nat} {m : Mb} (h : BoxR w p m) (hg : w.grownBy w' none) : BoxR w' p m := (hg.block p (Array.getElem?_eq_some_iff.1 h).1 (by simp)).trans h
theorem BoxR.cells {w : World} {p : Nat} {m : Mb} (h : BoxR w p m) : w.cell? ⟨p, 0, none⟩ = some (.string m.n) ∧ w.cell? ⟨p, 1, none⟩ = some (.int .i64 m.t) ∧ w.cell? ⟨p, 2, none⟩ = some (.string m.c) := by
  unfold BoxR at h
  refine ⟨?_, ?_, ?_⟩
  all_goals simp [World.cell?, h]
theorem boxR_new (w : World) (m : Mb) : BoxR (w.alloc (.cells #[.string m.n, .int .i64 m.t, .string m.c] 45)) w.heap.size m := heap_alloc_new w _
theorem OwnM.cap {w : World} {base : Nat} {e : TypeId} {v : Value} {l : List Mb} (h : OwnM w base e v l) : ∃ a c, v = .slice a l.length c ∧ l.length ≤ c ∧ c ≤ 9223372036854775807 := by
  rcases h.1.2 with ⟨rfl, h0⟩ | ⟨g, cap, cur, rfl, hb, hg, h1, h2, h3, h4⟩
  · exact ⟨none, 0, by rw [h0], by omega, by omega⟩
  · unfold maxLen at h2; exact ⟨_, cap, rfl, h1, by omega⟩

theorem rFig {n : Int} {x : ByteArray} (w : World) (h0 : 0 ≤ n) (h1 : n ≤ 9223372036854775807) (hx : x.data.toList = Lib.itoa n) :
    Calls Tryz.prog 35 #[.int .i64 n] w fun e w' => e = .returned (.string x) ∧ w = w' := by
  obtain ⟨u, rfl⟩ := Int.eq_ofNat_of_zero_le h0
  exact rFigures u w (by omega) (by rw [hx, itoa_nat])
theorem grown_same {P : Program} {f : FuncId} {args : Array Value} {w : World} {v : Value} (h : Calls P f args w fun e w' => e = .returned v ∧ w = w') : Calls P f args w fun e w' => e = .returned v ∧ w.grownBy w' none :=
  h.mono fun _ _ ⟨h1, h2⟩ => ⟨h1, h2 ▸ World.grownBy.refl _ _⟩
theorem one_ba2 {m : Mb} {c1 c2 c3 : ByteArray} (h1 : c1.data.toList = padL m.n.data.toList 16) (h2 : c2.data.toList = padL (Lib.itoa m.t) 12) (h3 : c3.data.toList = padL (Lib.itoa m.c.size) 10) :
    (c1 ++ c2 ++ (⟨#[48, 32, 32, 32, 32, 32]⟩ : ByteArray) ++ (⟨#[48, 32, 32, 32, 32, 32]⟩ : ByteArray) ++ (⟨#[54, 52, 52, 32, 32, 32, 32, 32]⟩ : ByteArray) ++ c3 ++ (⟨#[96, 10]⟩ : ByteArray) ++ m.c).data.toList ++ oddL m.c = oneL m := by
  unfold oneL fixL
  simp only [ba_app, h1, h2, h3, List.append_assoc, List.cons_append, List.nil_append]

set_option maxRecDepth 100000 in
set_option maxHeartbeats 1000000 in
theorem rOne (m : Mb) (w : World) (hf : Fits m) (ht : 0 ≤ m.t) (htm : m.t ≤ 9223372036854775807) (hc : m.c.size ≤ 100000) :
    Calls Tryz.prog 23 #[valM m] w fun e w' => ∃ x : ByteArray, e = .returned (.string x) ∧ x.data.toList = oneL m ∧ x.size ≤ 200000 ∧ w.grownBy w' none := by
  have FL := Lib.hid (one_len hf)
  obtain ⟨f1, f2, f3⟩ := hf
  obtain ⟨it, hit, zit⟩ := some_ba (Lib.itoa m.t)
  obtain ⟨iz, hiz, ziz⟩ := some_ba (Lib.itoa m.c.size)
  obtain ⟨c1, hc1, zc1⟩ := some_ba (padL m.n.data.toList 16)
  obtain ⟨c2, hc2, zc2⟩ := some_ba (padL (Lib.itoa m.t) 12)
  obtain ⟨c3, hc3, zc3⟩ := some_ba (padL (Lib.itoa m.c.size) 10)
  have y1 : c1.size ≤ 16 := by rw [zc1, pad_len (by rw [bytes_len]; exact f1)]; exact Nat.le_refl _
  have y2 : c2.size ≤ 12 := by rw [zc2, pad_len f2]; exact Nat.le_refl _
  have y3 : c3.size ≤ 10 := by rw [zc3, pad_len f3]; exact Nat.le_refl _
  have C1 := Lib.hid (show ∀ W : World, Calls Tryz.prog 34 #[.string m.n, .int .i64 16] W fun e w' => e = .returned (.string c1) ∧ W.grownBy w' none from fun W => grown_same (rWide (n := 16) W (by omega) hc1))
  have C2 := Lib.hid (show ∀ W : World, Calls Tryz.prog 34 #[.string it, .int .i64 12] W fun e w' => e = .returned (.string c2) ∧ W.grownBy w' none from fun W => grown_same (rWide (n := 12) W (by omega) (by rw [hit]; exact hc2)))
  have C3 := Lib.hid (show ∀ W : World, Calls Tryz.prog 34 #[.string iz, .int .i64 10] W fun e w' => e = .returned (.string c3) ∧ W.grownBy w' none from fun W => grown_same (rWide (n := 10) W (by omega) (by rw [hiz]; exact hc3)))
  have C4 := Lib.hid (fun W => grown_same (rFig W ht htm hit))
  have C5 := Lib.hid (fun W => grown_same (rFig (n := m.c.size) W (by omega) (by omega) hiz))
  have C6 := Lib.hid (show ∀ W : World, Calls Tryz.prog 34 #[.string ⟨#[48]⟩, .int .i64 6] W fun e w' => e = .returned (.string ⟨#[48, 32, 32, 32, 32, 32]⟩) ∧ W.grownBy w' none from fun W => grown_same (rWide (n := 6) W (by omega) rfl))
  have C7 := Lib.hid (show ∀ W : World, Calls Tryz.prog 34 #[.string ⟨#[54, 52, 52]⟩, .int .i64 8] W fun e w' => e = .returned (.string ⟨#[54, 52, 52, 32, 32, 32, 32, 32]⟩) ∧ W.grownBy w' none from fun W => grown_same (rWide (n := 8) W (by omega) rfl))
  have ONE := Lib.hid (one_ba2 (m := m) hc1 hc2 hc3)
  have BX := Lib.hid (boxR_new w m)
  have G0 := Lib.hid (World.grownBy_alloc w (.cells #[.string m.n, .int .i64 m.t, .string m.c] 45) none)
  clear hit zit hiz ziz hc1 zc1 hc2 zc2 hc3 zc3
  unfold valM
  go_enter Tryz.func23, Tryz.ntmps23
  go_wp2
  generalize (w.alloc (.cells #[.string m.n, .int .i64 m.t, .string m.c] 45)) = w1 at *
  generalize w.heap.size = p at *
  have k0 : ∀ u : Gr w1, u.W.cell? ⟨p, 0, none⟩ = some (.string m.n) := fun u => (BX.out.kept u.g).cells.1
  have k1 : ∀ u : Gr w1, u.W.cell? ⟨p, 1, none⟩ = some (.int .i64 m.t) := fun u => (BX.out.kept u.g).cells.2.1
  have k2 : ∀ u : Gr w1, u.W.cell? ⟨p, 2, none⟩ = some (.string m.c) := fun u => (BX.out.kept u.g).cells.2.2
  have inst : Nonempty (Gr w1) := ⟨⟨_, World.grownBy.refl _ _⟩⟩
  refine wp_region_grows (by kernel_rfl) (by kernel_rfl) ?_
  repeat (go_big_quiet_step (first
    | (go_at_call 34; (with_reducible refine (C1.out _).mono ?_); rintro e w9 ⟨he, g9⟩; exact ⟨he, ⟨_, (Gr.g _).trans g9⟩, rfl⟩)
    | (go_at_call 34; (with_reducible refine (C2.out _).mono ?_); rintro e w9 ⟨he, g9⟩; exact ⟨he, ⟨_, (Gr.g _).trans g9⟩, rfl⟩)
    | (go_at_call 34; (with_reducible refine (C3.out _).mono ?_); rintro e w9 ⟨he, g9⟩; exact ⟨he, ⟨_, (Gr.g _).trans g9⟩, rfl⟩)
    | (go_at_call 34; (with_reducible refine (C6.out _).mono ?_); rintro e w9 ⟨he, g9⟩; exact ⟨he, ⟨_, (Gr.g _).trans g9⟩, rfl⟩)
    | (go_at_call 34; (with_reducible refine (C7.out _).mono ?_); rintro e w9 ⟨he, g9⟩; exact ⟨he, ⟨_, (Gr.g _).trans g9⟩, rfl⟩)
    | (go_at_call 35; (with_reducible refine (C4.out _).mono ?_); rintro e w9 ⟨he, g9⟩; exact ⟨he, ⟨_, (Gr.g _).trans g9⟩, rfl⟩)
    | (go_at_call 35; (with_reducible refine (C5.out _).mono ?_); rintro e w9 ⟨he, g9⟩; exact ⟨he, ⟨_, (Gr.g _).trans g9⟩, rfl⟩)))
  refine wpQuiet_nil ?_
  rintro w9 ⟨⟨_, g9⟩, rfl⟩
  have kc := (BX.out.kept g9).cells.2.2
  have G9 := Lib.hid (G0.out.trans g9)
  have hl := congrArg List.length ONE.out
  rw [List.length_append, bytes_len, FL.out] at hl
  generalize (c1 ++ c2 ++ (⟨#[48, 32, 32, 32, 32, 32]⟩ : ByteArray) ++ (⟨#[48, 32, 32, 32, 32, 32]⟩ : ByteArray) ++ (⟨#[54, 52, 52, 32, 32, 32, 32, 32]⟩ : ByteArray) ++ c3 ++ (⟨#[96, 10]⟩ : ByteArray) ++ m.c) = y at ONE hl ⊢
  have ys : y.size ≤ 190000 := by unfold sizeM at hl; omega
  clear k0 k1 k2 hl g9 C1 C2 C3 C4 C5 C6 C7 G0 inst BX
  rcases Nat.mod_two_eq_zero_or_one m.c.size with h | h
  · have ho : oddL m.c = [] := by unfold oddL; rw [if_neg (by omega)]
    have H := Lib.hid (show y.data.toList = oneL m by rw [← ONE.out, ho, List.append_nil])
    have h1 : (((m.c.size : Int) % 2) == 1) = false := by rw [beq_eq_false_iff_ne]; omega
    clear h ho ONE
    go_wp2
    go_ret
    exact ⟨_, rfl, H.out, by omega, G9.out⟩
  · have ho : oddL m.c = [10] := by unfold oddL; rw [if_pos h]
    have H := Lib.hid (show (y ++ (⟨#[10]⟩ : ByteArray)).data.toList = oneL m by rw [← ONE.out, ho, ba_app])
    have h1 : (((m.c.size : Int) % 2) == 1) = true := by rw [beq_iff_eq]; omega
    clear h ho ONE
    go_wp2
    go_ret
    exact ⟨_, rfl, H.out, by rw [ByteArray.size_append]; show y.size + 1 ≤ 200000; omega, G9.out⟩
end Go.Proofs.YtgicfbhhnohndaaGreatDoor

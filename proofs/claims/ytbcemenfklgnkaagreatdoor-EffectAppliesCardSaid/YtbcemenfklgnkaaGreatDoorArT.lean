/- Walks of the document's layer 3: a member's name, a column, figures. Walks of the document's layer 3: a member's bytes; Make. Walks of the document's layer 3: Make. -/
import Derived.Test.YtbcemenfklgnkaaGreatDoorArE
namespace Go.Proofs.YtbcemenfklgnkaaGreatDoor
open Go.RowKit

set_option maxRecDepth 100000 in
set_option maxHeartbeats 1000000 in
theorem rNamed (s : ByteArray) (w : World) (hs : s.size ≤ maxLen) :
    Calls Tryz.prog 90 #[.string s] w fun e w' => e = .returned (.bool (nameB s)) ∧ w = w' := by
  unfold maxLen at hs
  go_enter Tryz.func90, Tryz.ntmps90
  go_wp2
  go_loop [3, 4] (fun i _ => ∃ k : Nat, k ≤ s.size ∧ i = .int .i64 k ∧ Hid ((s.data.toList.take k).all namc = true)) (fun i _ => s.size - (intOf i).toNat)
  case atStart => exact ⟨0, Nat.zero_le _, rfl, Lib.hid rfl⟩
  case round =>
    obtain ⟨k, hk, rfl, ha⟩ := hrel
    by_cases hlt : k < s.size
    · have hbad : Hid (namc s[k] = false → nameB s = false) := name_bad s k hlt
      have hgood : Hid (namc s[k] = true → (s.data.toList.take (k + 1)).all namc = true) := all_snoc s k hlt namc ha.out
      by_cases hc1 : (s[k].toNat : Int) < 33
      · have HN := Lib.hid (hbad (by unfold namc okc; simp; intro h; omega))
        go_wp2
        go_ret
        exact ⟨ret_bool HN.out.symm, rfl⟩
      by_cases hc2 : 126 < (s[k].toNat : Int)
      · have HN := Lib.hid (hbad (by unfold namc okc; simp; intro h; omega))
        go_wp2
        go_ret
        exact ⟨ret_bool HN.out.symm, rfl⟩
      cases e1 : ((s[k].toNat : Int) == 47)
      · cases e2 : ((s[k].toNat : Int) == 40)
        · cases e3 : ((s[k].toNat : Int) == 41)
          · have HG := Lib.hid (hgood (by
              unfold namc brc okc
              rw [e1, e2, e3, decide_eq_true (by omega), decide_eq_true (by omega)]; rfl))
            go_wp2
            go_round
            case rel => exact ⟨k + 1, by omega, by go_num, HG⟩
            case measure => simp [intOf]; omega
          · have HN := Lib.hid (hbad (by unfold namc brc; rw [e3]; simp))
            go_wp2
            go_ret
            exact ⟨ret_bool HN.out.symm, rfl⟩
        · have HN := Lib.hid (hbad (by unfold namc brc; rw [e2]; simp))
          go_wp2
          go_ret
          exact ⟨ret_bool HN.out.symm, rfl⟩
      · have HN := Lib.hid (hbad (by unfold namc brc; rw [e1]; simp))
        go_wp2
        go_ret
        exact ⟨ret_bool HN.out.symm, rfl⟩
    · have HN := Lib.hid (name_end s k (by omega) ha.out)
      by_cases h1 : s.size < 1
      · have d1 : decide ((1 : Int) ≤ (s.size : Int)) = false := decide_eq_false (by omega)
        have HM := Lib.hid (show nameB s = false by rw [HN.out, decide_eq_false (by omega)]; rfl)
        go_wp2
        go_ret
        exact ⟨ret_bool (by rw [HM.out]), rfl⟩
      · have d1 : decide ((1 : Int) ≤ (s.size : Int)) = true := decide_eq_true (by omega)
        have HM := Lib.hid (show nameB s = decide ((s.size : Int) ≤ 15) by rw [HN.out, decide_eq_true (by omega), Bool.true_and]; exact decide_eq_decide.2 (by omega))
        go_wp2
        go_ret
        exact ⟨ret_bool HM.out.symm, rfl⟩

theorem blank_snoc {s x : ByteArray} {j : Nat} (h : x.data.toList = s.data.toList ++ List.replicate j 32) : (x ++ (⟨#[32]⟩ : ByteArray)).data.toList = s.data.toList ++ List.replicate (j + 1) 32 := by
  rw [ba_app, h, List.append_assoc, List.replicate_succ']
set_option maxHeartbeats 1000000 in
theorem rWide {s x : ByteArray} {n : Nat} (w : World) (hn : n ≤ 100) (hx : x.data.toList = padL s.data.toList n) :
    Calls Tryz.prog 113 #[.string s, .int .i64 n] w fun e w' => e = .returned (.string x) ∧ w = w' := by
  have HX := Lib.hid hx
  clear hx
  go_enter Tryz.func113, Tryz.ntmps113
  go_wp2
  go_loopg [0] (n - s.size) (fun g r wr => ∃ (y : ByteArray) (j : Nat), r = .string y ∧ g = n - y.size ∧ Hid (y.data.toList = s.data.toList ++ List.replicate j 32) ∧ y.size = s.size + j ∧ (j = 0 ∨ s.size + j ≤ n) ∧ w = wr)
  case atStart => exact ⟨s, 0, rfl, rfl, Lib.hid (by simp), rfl, .inl rfl, rfl⟩
  case round =>
    obtain ⟨y, j, rfl, rfl, hy, hz, hj, rfl⟩ := hrel
    by_cases hlt : y.size < n
    · have HY := Lib.hid (blank_snoc hy.out)
      have hlt' : (y.size : Int) < (n : Int) := by omega
      have hz2 : y.size ≤ 100 := by omega
      have HZ := Lib.hid hz
      clear hz
      go_wp2
      go_roundg (n - (y.size + 1))
      case measure => omega
      case rel => exact ⟨_, j + 1, rfl, by rw [ByteArray.size_append]; rfl, HY, by rw [ByteArray.size_append]; have := HZ.out; show y.size + 1 = _; omega, .inr (by have := HZ.out; omega), rfl⟩
    · have HE := Lib.hid (show y = x from ba_ext (by
        rw [hy.out, HX.out]; unfold padL; rw [bytes_len]
        congr 2; omega))
      have hlt' : ¬ (y.size : Int) < (n : Int) := by omega
      clear hz
      go_wp2
      go_ret
      exact ⟨ret_str HE.out, rfl⟩

theorem fig_last (d : Nat) (h : d < 10) : ((⟨#[48, 49, 50, 51, 52, 53, 54, 55, 56, 57]⟩ : ByteArray).extract d (d + 1)).data.toList = [UInt8.ofNat (48 + d)] := by
  have : ∀ d : Fin 10, ((⟨#[48, 49, 50, 51, 52, 53, 54, 55, 56, 57]⟩ : ByteArray).extract d.1 (d.1 + 1)).data.toList = [UInt8.ofNat (48 + d.1)] := by decide
  exact this ⟨d, h⟩
set_option maxRecDepth 100000 in
set_option maxHeartbeats 1000000 in
theorem rFigures (n : Nat) : ∀ {x : ByteArray} (w : World), n ≤ 9223372036854775807 → x.data.toList = Lib.decDigits n →
    Calls Tryz.prog 114 #[.int .i64 n] w fun e w' => e = .returned (.string x) ∧ w = w' := by
  induction n using Nat.strongRecOn with
  | _ n ih =>
    intro x w hn hx
    have HF := Lib.hid (fig_last (n % 10) (by omega))
    have h0 : (0 : Int) ≤ (n : Int) := by omega
    have hz : ((⟨#[48, 49, 50, 51, 52, 53, 54, 55, 56, 57]⟩ : ByteArray).extract (n % 10) (n % 10 + 1)).size = 1 := by rw [ByteArray.size_extract]; show min (n % 10 + 1) 10 - n % 10 = 1; omega
    by_cases h10 : n < 10
    · have HX := Lib.hid (show (⟨#[]⟩ : ByteArray) ++ (⟨#[48, 49, 50, 51, 52, 53, 54, 55, 56, 57]⟩ : ByteArray).extract (n % 10) (n % 10 + 1) = x from ba_ext (by
        rw [ba_app, HF.out, hx, Lib.decDigits_one h10, Nat.mod_eq_of_lt h10]; rfl))
      have h1 : (n : Int) < 10 := by omega
      clear ih hx
      go_enter Tryz.func114, Tryz.ntmps114
      go_wp2
      go_ret
      exact ⟨ret_str HX.out, rfl⟩
    · obtain ⟨y, hy, zy⟩ := some_ba (Lib.decDigits (n / 10))
      have HX := Lib.hid (show y ++ (⟨#[48, 49, 50, 51, 52, 53, 54, 55, 56, 57]⟩ : ByteArray).extract (n % 10) (n % 10 + 1) = x from ba_ext (by
        rw [ba_app, HF.out, hy, hx]
        have := digits_snoc (n := n / 10) (d := n % 10) (by omega) (by omega)
        rw [← this]; congr 1; omega))
      have hcon := fun (W : World) => ih (n / 10) (by omega) W (by omega) hy
      rw [show ((n / 10 : Nat) : Int) = (n : Int) / 10 by omega] at hcon
      have HC := Lib.hid hcon
      have h1 : (10 : Int) ≤ (n : Int) := by omega
      have ys : y.size ≤ 20 := by
        rw [zy, Lib.decDigits_length]
        have := nDigits_le 19 (n / 10) (by omega)
        omega
      clear ih hx hy zy hcon
      go_enter Tryz.func114, Tryz.ntmps114
      go_wp2_with (go_at_call 114; refine (HC.out _).mono ?_; rintro e w' ⟨rfl, rfl⟩)
      go_ret
      exact ⟨ret_str HX.out, rfl⟩
end Go.Proofs.YtbcemenfklgnkaaGreatDoor

namespace Go.Proofs.YtbcemenfklgnkaaGreatDoor
open Go.RowKit

/-- a cell that holds a member as of the document -/
def BoxR (w : World) (p : Nat) (m : Mb) : Prop := w.heap[p]? = some (.cells #[.string m.n, .int .i64 m.t, .string m.c] 123 (0, 0))
theorem BoxR.kept {w w' : World} {p : Nat} {m : Mb} (h : BoxR w p m) (hg : w.grownBy w' none) : BoxR w' p m := (hg.block p (Array.getElem?_eq_some_iff.1 h).1 (by simp)).trans h
theorem BoxR.cells {w : World} {p : Nat} {m : Mb} (h : BoxR w p m) : w.cell? ⟨p, 0, none⟩ = some (.string m.n) ∧ w.cell? ⟨p, 1, none⟩ = some (.int .i64 m.t) ∧ w.cell? ⟨p, 2, none⟩ = some (.string m.c) := by
  unfold BoxR at h
  refine ⟨?_, ?_, ?_⟩
  all_goals simp [World.cell?, h]
theorem boxR_new (w : World) (m : Mb) : BoxR (w.alloc (.cells #[.string m.n, .int .i64 m.t, .string m.c] 123)) w.heap.size m := heap_alloc_new w _
theorem OwnM.cap {w : World} {base : Nat} {e : TypeId} {v : Value} {l : List Mb} (h : OwnM w base e v l) : ∃ a c, v = .slice a l.length c ∧ l.length ≤ c ∧ c ≤ 9223372036854775807 := by
  rcases h.1.2 with ⟨rfl, h0⟩ | ⟨g, cap, cur, rfl, hb, hg, h1, h2, h3, h4⟩
  · exact ⟨none, 0, by rw [h0], by omega, by omega⟩
  · unfold maxLen at h2; exact ⟨_, cap, rfl, h1, by omega⟩

theorem rFig {n : Int} {x : ByteArray} (w : World) (h0 : 0 ≤ n) (h1 : n ≤ 9223372036854775807) (hx : x.data.toList = Lib.itoa n) :
    Calls Tryz.prog 114 #[.int .i64 n] w fun e w' => e = .returned (.string x) ∧ w = w' := by
  obtain ⟨u, rfl⟩ := Int.eq_ofNat_of_zero_le h0
  exact rFigures u w (by omega) (by rw [hx, itoa_nat])
theorem grown_same {P : Program} {f : FuncId} {args : Array Value} {w : World} {v : Value} (h : Calls P f args w fun e w' => e = .returned v ∧ w = w') : Calls P f args w fun e w' => e = .returned v ∧ w.grownBy w' none :=
  h.mono fun _ _ ⟨h1, h2⟩ => ⟨h1, h2 ▸ World.grownBy.refl _ _⟩
theorem one_ba2 {m : Mb} {c1 c2 c3 : ByteArray} (h1 : c1.data.toList = padL m.n.data.toList 16) (h2 : c2.data.toList = padL (Lib.itoa m.t) 12) (h3 : c3.data.toList = padL (Lib.itoa m.c.size) 10) :
    (c1 ++ c2 ++ (⟨#[48, 32, 32, 32, 32, 32]⟩ : ByteArray) ++ (⟨#[48, 32, 32, 32, 32, 32]⟩ : ByteArray) ++ (⟨#[54, 52, 52, 32, 32, 32, 32, 32]⟩ : ByteArray) ++ c3 ++ (⟨#[96, 10]⟩ : ByteArray) ++ m.c).data.toList ++ oddL m.c = oneL m := by
  unfold oneL fixL
  simp only [ba_app, h1, h2, h3, List.append_assoc, List.cons_append, List.nil_append]

set_option maxRecDepth 100000 in
set_option maxHeartbeats 1000000 in
theorem rOne (m : Mb) (w : World) (hf : Fits m) (ht : 0 ≤ m.t) (htm : m.t ≤ 9223372036854775807) (hc : m.c.size ≤ 100000) :
    Calls Tryz.prog 91 #[valM m] w fun e w' => ∃ x : ByteArray, e = .returned (.string x) ∧ x.data.toList = oneL m ∧ x.size ≤ 200000 ∧ w.grownBy w' none := by
  have FL := Lib.hid (one_len hf)
  obtain ⟨f1, f2, f3⟩ := hf
  obtain ⟨it, hit, zit⟩ := some_ba (Lib.itoa m.t)
  obtain ⟨iz, hiz, ziz⟩ := some_ba (Lib.itoa m.c.size)
  obtain ⟨c1, hc1, zc1⟩ := some_ba (padL m.n.data.toList 16)
  obtain ⟨c2, hc2, zc2⟩ := some_ba (padL (Lib.itoa m.t) 12)
  obtain ⟨c3, hc3, zc3⟩ := some_ba (padL (Lib.itoa m.c.size) 10)
  have y1 : c1.size ≤ 16 := by rw [zc1, pad_len (by rw [bytes_len]; exact f1)]; exact Nat.le_refl _
  have y2 : c2.size ≤ 12 := by rw [zc2, pad_len f2]; exact Nat.le_refl _
  have y3 : c3.size ≤ 10 := by rw [zc3, pad_len f3]; exact Nat.le_refl _
  have C1 := Lib.hid (show ∀ W : World, Calls Tryz.prog 113 #[.string m.n, .int .i64 16] W fun e w' => e = .returned (.string c1) ∧ W.grownBy w' none from fun W => grown_same (rWide (n := 16) W (by omega) hc1))
  have C2 := Lib.hid (show ∀ W : World, Calls Tryz.prog 113 #[.string it, .int .i64 12] W fun e w' => e = .returned (.string c2) ∧ W.grownBy w' none from fun W => grown_same (rWide (n := 12) W (by omega) (by rw [hit]; exact hc2)))
  have C3 := Lib.hid (show ∀ W : World, Calls Tryz.prog 113 #[.string iz, .int .i64 10] W fun e w' => e = .returned (.string c3) ∧ W.grownBy w' none from fun W => grown_same (rWide (n := 10) W (by omega) (by rw [hiz]; exact hc3)))
  have C4 := Lib.hid (fun W => grown_same (rFig W ht htm hit))
  have C5 := Lib.hid (fun W => grown_same (rFig (n := m.c.size) W (by omega) (by omega) hiz))
  have C6 := Lib.hid (show ∀ W : World, Calls Tryz.prog 113 #[.string ⟨#[48]⟩, .int .i64 6] W fun e w' => e = .returned (.string ⟨#[48, 32, 32, 32, 32, 32]⟩) ∧ W.grownBy w' none from fun W => grown_same (rWide (n := 6) W (by omega) rfl))
  have C7 := Lib.hid (show ∀ W : World, Calls Tryz.prog 113 #[.string ⟨#[54, 52, 52]⟩, .int .i64 8] W fun e w' => e = .returned (.string ⟨#[54, 52, 52, 32, 32, 32, 32, 32]⟩) ∧ W.grownBy w' none from fun W => grown_same (rWide (n := 8) W (by omega) rfl))
  have ONE := Lib.hid (one_ba2 (m := m) hc1 hc2 hc3)
  have BX := Lib.hid (boxR_new w m)
  have G0 := Lib.hid (World.grownBy_alloc w (.cells #[.string m.n, .int .i64 m.t, .string m.c] 123) none)
  clear hit zit hiz ziz hc1 zc1 hc2 zc2 hc3 zc3
  unfold valM
  go_enter Tryz.func91, Tryz.ntmps91
  go_wp2
  generalize (w.alloc (.cells #[.string m.n, .int .i64 m.t, .string m.c] 123)) = w1 at *
  generalize w.heap.size = p at *
  have k0 : ∀ u : Gr w1, u.W.cell? ⟨p, 0, none⟩ = some (.string m.n) := fun u => (BX.out.kept u.g).cells.1
  have k1 : ∀ u : Gr w1, u.W.cell? ⟨p, 1, none⟩ = some (.int .i64 m.t) := fun u => (BX.out.kept u.g).cells.2.1
  have k2 : ∀ u : Gr w1, u.W.cell? ⟨p, 2, none⟩ = some (.string m.c) := fun u => (BX.out.kept u.g).cells.2.2
  have inst : Nonempty (Gr w1) := ⟨⟨_, World.grownBy.refl _ _⟩⟩
  refine wp_region_grows (by kernel_rfl) (by kernel_rfl) ?_
  repeat (go_big_quiet_step (first
    | (go_at_call 113; (with_reducible refine (C1.out _).mono ?_); rintro e w9 ⟨he, g9⟩; exact ⟨he, ⟨_, (Gr.g _).trans g9⟩, rfl⟩)
    | (go_at_call 113; (with_reducible refine (C2.out _).mono ?_); rintro e w9 ⟨he, g9⟩; exact ⟨he, ⟨_, (Gr.g _).trans g9⟩, rfl⟩)
    | (go_at_call 113; (with_reducible refine (C3.out _).mono ?_); rintro e w9 ⟨he, g9⟩; exact ⟨he, ⟨_, (Gr.g _).trans g9⟩, rfl⟩)
    | (go_at_call 113; (with_reducible refine (C6.out _).mono ?_); rintro e w9 ⟨he, g9⟩; exact ⟨he, ⟨_, (Gr.g _).trans g9⟩, rfl⟩)
    | (go_at_call 113; (with_reducible refine (C7.out _).mono ?_); rintro e w9 ⟨he, g9⟩; exact ⟨he, ⟨_, (Gr.g _).trans g9⟩, rfl⟩)
    | (go_at_call 114; (with_reducible refine (C4.out _).mono ?_); rintro e w9 ⟨he, g9⟩; exact ⟨he, ⟨_, (Gr.g _).trans g9⟩, rfl⟩)
    | (go_at_call 114; (with_reducible refine (C5.out _).mono ?_); rintro e w9 ⟨he, g9⟩; exact ⟨he, ⟨_, (Gr.g _).trans g9⟩, rfl⟩)))
  refine wpQuiet_nil ?_
  rintro w9 ⟨⟨_, g9⟩, rfl⟩
  have kc := (BX.out.kept g9).cells.2.2
  have G9 := Lib.hid (G0.out.trans g9)
  have hl := congrArg List.length ONE.out
  rw [List.length_append, bytes_len, FL.out] at hl
  generalize (c1 ++ c2 ++ (⟨#[48, 32, 32, 32, 32, 32]⟩ : ByteArray) ++ (⟨#[48, 32, 32, 32, 32, 32]⟩ : ByteArray) ++ (⟨#[54, 52, 52, 32, 32, 32, 32, 32]⟩ : ByteArray) ++ c3 ++ (⟨#[96, 10]⟩ : ByteArray) ++ m.c) = y at ONE hl ⊢
  have ys : y.size ≤ 190000 := by unfold sizeM at hl; omega
  clear k0 k1 k2 hl g9 C1 C2 C3 C4 C5 C6 C7 G0 inst BX
  rcases Nat.mod_two_eq_zero_or_one m.c.size with h | h
  · have ho : oddL m.c = [] := by unfold oddL; rw [if_neg (by omega)]
    have H := Lib.hid (show y.data.toList = oneL m by rw [← ONE.out, ho, List.append_nil])
    have h1 : (((m.c.size : Int) % 2) == 1) = false := by rw [beq_eq_false_iff_ne]; omega
    clear h ho ONE
    go_wp2
    go_ret
    exact ⟨_, rfl, H.out, by omega, G9.out⟩
  · have ho : oddL m.c = [10] := by unfold oddL; rw [if_pos h]
    have H := Lib.hid (show (y ++ (⟨#[10]⟩ : ByteArray)).data.toList = oneL m by rw [← ONE.out, ho, ba_app])
    have h1 : (((m.c.size : Int) % 2) == 1) = true := by rw [beq_iff_eq]; omega
    clear h ho ONE
    go_wp2
    go_ret
    exact ⟨_, rfl, H.out, by rw [ByteArray.size_append]; show y.size + 1 ≤ 200000; omega, G9.out⟩
end Go.Proofs.YtbcemenfklgnkaaGreatDoor

namespace Go.Proofs.YtbcemenfklgnkaaGreatDoor
open Go.RowKit

theorem fits_of {m : Mb} (h1 : nameB m.n = true) (h2 : timeB m.t = true) (h3 : m.c.size ≤ 100000) : Fits m := by
  rw [time_iff] at h2
  refine ⟨by have := (name_lo h1).2.1; omega, itoa_len (k := 11) (by omega) (by omega), itoa_len (k := 9) (by omega) ?_⟩
  have : (10 : Nat) ^ (9 + 1) = 10000000000 := by decide
  rw [this]; omega
theorem makeL_take' {l : List Mb} {k : Nat} {m : Mb} (h : l[k]? = some m) : makeL (l.take (k + 1)) = makeL (l.take k) ++ oneL m := by
  rw [take_snocM h]; unfold makeL; rw [List.flatMap_append, List.append_assoc]; simp
/-- what the document's Make answers -/
def RMakePost (l : List Mb) (w : World) (e : Ending) (w' : World) : Prop :=
  ∃ x : ByteArray, e = .returned (.tuple #[.string x, .int .i64 (makeE l)]) ∧ ((makeE l ≠ 0 ∧ x = ⟨#[]⟩) ∨ (makeE l = 0 ∧ x.data.toList = makeL l)) ∧ w.grownBy w' none
theorem rmake_no {l : List Mb} {w w' : World} {k : Nat} (h : makeE l = k) (hk : k ≠ 0) (hg : w.grownBy w' none) : RMakePost l w (.returned (.tuple #[.string ⟨#[]⟩, .int .i64 k])) w' :=
  ⟨⟨#[]⟩, by rw [h], .inl ⟨by omega, rfl⟩, hg⟩

set_option maxRecDepth 100000 in
set_option maxHeartbeats 4000000 in
theorem rMake (v : Value) (l : List Mb) (base : Nat) (w : World) (h : OwnM w base 123 v l) (hcs : ∀ m ∈ l, m.c.size ≤ 100000) :
    Calls Tryz.prog 76 #[v] w (RMakePost l w) := by
  have HR := Lib.hid h.row
  obtain ⟨a, c, rfl, hlc, hcm⟩ := h.cap
  have HCS := Lib.hid hcs
  clear h hcs
  go_enter Tryz.func76, Tryz.ntmps76
  go_wp2
  go_loopw [5, 17] (fun _ i wr => ∃ k : Nat, k ≤ l.length ∧ i = .int .i64 k ∧ Hid ((l.take k).all (fun m => nameB m.n) = true) ∧ Hid (w.grownBy wr none)) (fun _ i _ => l.length - (intOf i).toNat)
  case atStart => exact ⟨0, Nat.zero_le _, rfl, Lib.hid rfl, Lib.hid (World.grownBy.refl _ _)⟩
  case round =>
    obtain ⟨k, hk, rfl, ha, hG⟩ := hrel
    by_cases hlt : k < l.length
    · obtain ⟨b, off, c', m, e, hm, sn, sc, hb, c0, c1, c2⟩ := (HR.out.grown hG.out).at k hlt
      cases e
      have Hm := Lib.hid hm
      have HS := Lib.hid sn
      clear hm sn sc
      cases hq : nameB m.n
      · have HQ := Lib.hid (makeE_name (all_badM (p := fun m => nameB m.n) Hm.out hq))
        go_wp2_with (go_at_call 90; refine (rNamed _ _ HS.out).mono ?_; rintro e w' ⟨rfl, rfl⟩)
        go_ret2
        exact rmake_no HQ.out (by decide) (hG.out.trans (World.grownBy_alloc _ _ _))
      · have HQ := Lib.hid (all_snocM (p := fun m => nameB m.n) Hm.out ha.out hq)
        go_wp2_with (go_at_call 90; refine (rNamed _ _ HS.out).mono ?_; rintro e w' ⟨rfl, rfl⟩)
        go_roundw
        case rel => exact ⟨k + 1, by omega, by go_num, HQ, Lib.hid (hG.out.trans (World.grownBy_alloc _ _ _))⟩
        case measure => simp [intOf]; omega
    · have N1 := Lib.hid (all_endM (k := k) (by omega) (fun m => nameB m.n) ha.out)
      have GS := hG
      clear ha hG
      obtain rfl : k = l.length := by omega
      go_wp2
      obtain ⟨wo, rfl⟩ : ∃ wo : World, wo = wr := ⟨_, rfl⟩
      go_loopw [7, 28] (fun _ i wr => ∃ k : Nat, k ≤ l.length ∧ i = .int .i64 k ∧ Hid ((l.take k).all (fun m => timeB m.t) = true) ∧ Hid (w.grownBy wr none)) (fun _ i _ => l.length - (intOf i).toNat)
      case atStart => exact ⟨0, Nat.zero_le _, rfl, Lib.hid rfl, GS⟩
      case round =>
        obtain ⟨k, hk, rfl, ha, hG⟩ := hrel
        by_cases hlt : k < l.length
        · obtain ⟨b, off, c', m, e, hm, sn, sc, hb, c0, c1, c2⟩ := (HR.out.grown hG.out).at k hlt
          cases e
          have Hm := Lib.hid hm
          clear hm sn sc
          by_cases h1 : m.t < 1
          · have HQ := Lib.hid (makeE_time N1.out (all_badM (p := fun m => timeB m.t) Hm.out ((time_not m.t).2 (.inl h1))))
            go_wp2
            go_ret2
            exact rmake_no HQ.out (by decide) (hG.out.trans (World.grownBy_alloc _ _ _))
          · by_cases h2 : 549755813888 < m.t
            · have HQ := Lib.hid (makeE_time N1.out (all_badM (p := fun m => timeB m.t) Hm.out ((time_not m.t).2 (.inr h2))))
              go_wp2
              go_ret2
              exact rmake_no HQ.out (by decide) (hG.out.trans (World.grownBy_alloc _ _ _))
            · have HQ := Lib.hid (all_snocM (p := fun m => timeB m.t) Hm.out ha.out ((time_iff m.t).2 (by omega)))
              go_wp2
              go_roundw
              case rel => exact ⟨k + 1, by omega, by go_num, HQ, Lib.hid (hG.out.trans (World.grownBy_alloc _ _ _))⟩
              case measure => simp [intOf]; omega
        · have N2 := Lib.hid (all_endM (k := k) (by omega) (fun m => timeB m.t) ha.out)
          have GS3 := hG
          clear ha hG GS
          obtain rfl : k = l.length := by omega
          go_wp2
          obtain ⟨wq, rfl⟩ : ∃ wq : World, wq = wr := ⟨_, rfl⟩
          go_loopw [8, 9, 11, 43, 52] (fun _ _ _ i _ wr => ∃ k : Nat, k ≤ l.length ∧ i = .int .i64 k ∧ Hid (uniqB (l.take k) = true) ∧ Hid (w.grownBy wr none)) (fun _ _ _ i _ _ => l.length - (intOf i).toNat)
          case atStart => exact ⟨0, Nat.zero_le _, rfl, Lib.hid rfl, GS3⟩
          case round =>
            obtain ⟨k, hk, rfl, ha, hG⟩ := hrel
            by_cases hlt : k < l.length
            · obtain ⟨b, off, c', m, e, hm, sn, sc, hb, c0, c1, c2⟩ := (HR.out.grown hG.out).at k hlt
              cases e
              have Hm := Lib.hid hm
              have BX := Lib.hid (boxR_new wr m)
              have GX := Lib.hid (hG.out.trans (World.grownBy_alloc wr (.cells #[.string m.n, .int .i64 m.t, .string m.c] 123) none))
              have hkc : (k : Int) ≤ (c : Int) := by omega
              have hk0 : (0 : Int) ≤ (k : Int) := by omega
              have hdk : decide ((k : Int) < (l.length : Int)) = true := decide_eq_true (by omega)
              clear hm sn sc
              go_wp2
              generalize (wr.alloc (.cells #[.string m.n, .int .i64 m.t, .string m.c] 123)) = wx at *
              generalize wr.heap.size = p at *
              clear c0 c1 c2 hb hG
              go_loopw [11, 52] (fun _ i wi => ∃ j : Nat, j ≤ k ∧ i = .int .i64 j ∧ Hid (hasB (namesM (l.take j)) m.n = false) ∧ Hid (wx.grownBy wi none)) (fun _ i _ => k - (intOf i).toNat)
              case atStart => exact ⟨0, Nat.zero_le _, rfl, Lib.hid rfl, Lib.hid (World.grownBy.refl _ _)⟩
              case round =>
                obtain ⟨j, hj, rfl, hn, hGi⟩ := hrel
                have GI := Lib.hid (GX.out.trans hGi.out)
                obtain ⟨p0, -, -⟩ := (BX.out.kept hGi.out).cells
                have hpw := cell_block p0
                by_cases hjk : j < k
                · obtain ⟨b', off', c'', mj, e, hmj, -, -, hb, c0, c1, c2⟩ := (HR.out.grown GI.out).at j (by omega)
                  cases e
                  have Hj := Lib.hid hmj
                  have p1 := cell_al p0
                  have HNE := Lib.hid (Nat.ne_of_lt hpw)
                  clear hmj
                  cases hq : (m.n.toList == mj.n.toList)
                  · have HA := Lib.hid (show hasB (namesM (l.take (j + 1))) m.n = false by
                      rw [has_false]
                      intro hm2
                      unfold namesM at hm2
                      rw [take_snocM Hj.out, List.map_append, List.mem_append] at hm2
                      rcases hm2 with h | h
                      · exact (has_false _ _).1 hn.out h
                      · simp at h; exact ne_of_toList.1 hq h)
                    go_wp2
                    go_roundw
                    case rel => exact ⟨j + 1, by omega, by go_num, HA, Lib.hid (hGi.out.trans (World.grownBy_alloc _ _ _))⟩
                    case measure => simp [intOf]; omega
                  · have HQ := Lib.hid (makeE_dup N1.out N2.out (uniq_hit Hm.out ((has_iff _ _).2 (by
                      have e := eq_of_toList.1 hq
                      rw [e]; unfold namesM
                      refine List.mem_map.2 ⟨mj, ?_, rfl⟩
                      have : (l.take k)[j]? = some mj := by rw [List.getElem?_take_of_lt hjk]; exact Hj.out
                      exact List.mem_of_getElem? this))))
                    go_wp2
                    go_ret2
                    exact rmake_no HQ.out (by decide) (GI.out.trans (World.grownBy_alloc _ _ _))
                · obtain rfl : j = k := by omega
                  have HU := Lib.hid (uniq_snoc Hm.out ha.out hn.out)
                  go_wp2
                  go_roundw
                  case rel => exact ⟨j + 1, by omega, by go_num, HU, GI⟩
                  case measure => simp [intOf]; omega
            · have N3 := Lib.hid (uniq_end (k := k) (by omega) ha.out)
              have GS5 := hG
              clear ha hG
              obtain rfl : k = l.length := by omega
              go_wp2
              obtain ⟨wz, rfl⟩ : ∃ wz : World, wz = wr := ⟨_, rfl⟩
              have FT := Lib.hid (show ∀ m ∈ l, Fits m ∧ 0 ≤ m.t ∧ m.t ≤ 9223372036854775807 ∧ m.c.size ≤ 100000 from fun m hm => by
                have n1 := List.all_eq_true.1 N1.out m hm
                have n2 := List.all_eq_true.1 N2.out m hm
                have n3 := (time_iff _).1 n2
                exact ⟨fits_of n1 n2 (HCS.out m hm), by omega, by omega, HCS.out m hm⟩)
              have HEND := Lib.hid (makeE_end N1.out N2.out N3.out)
              clear N1 N2 N3 HCS
              go_loopw [12, 14, 65] (fun z _ i wr => ∃ (k : Nat) (y : ByteArray), k ≤ l.length ∧ i = .int .i64 k ∧ z = .string y ∧ Hid (y.data.toList = makeL (l.take k)) ∧ y.size ≤ 900 ∧ Hid (w.grownBy wr none)) (fun _ _ i _ => l.length - (intOf i).toNat)
              case atStart => exact ⟨0, _, Nat.zero_le _, rfl, rfl, Lib.hid rfl, by decide, GS5⟩
              case round =>
                obtain ⟨k, y, hk, rfl, rfl, hy, hys, hG⟩ := hrel
                have hfit : ∀ j, ∀ m ∈ l.take j, Fits m := fun j m hm => (FT.out m (List.mem_of_mem_take hm)).1
                by_cases hlt : k < l.length
                · obtain ⟨b, off, c', m, e, hm, sn, sc, hb, c0, c1, c2⟩ := (HR.out.grown hG.out).at k hlt
                  cases e
                  obtain ⟨q1, q2, q3, q4⟩ := FT.out m (List.mem_of_getElem? hm)
                  have hcon := fun (W : World) => rOne m W q1 q2 q3 q4
                  unfold valM at hcon
                  have HC := Lib.hid hcon
                  have HM := Lib.hid (makeL_take' hm)
                  have HLEN := Lib.hid (make_len (hfit (k + 1)))
                  have HLE := Lib.hid (sumM_take_le l (k + 1))
                  clear hm sn sc hcon q1 q2 q3 q4 hfit
                  go_wp2_with fail
                  refine (HC.out _).mono ?_
                  rintro e w5 ⟨x, rfl, hx, hxs, hg⟩
                  have G5 := Lib.hid ((hG.out.trans (World.grownBy_alloc _ _ _)).trans hg)
                  have HY := Lib.hid (show (y ++ x).data.toList = makeL (l.take (k + 1)) by rw [ba_app, hy.out, hx, HM.out])
                  have hsz : (y ++ x).size = y.size + x.size := ByteArray.size_append
                  have HSZ := Lib.hid (show y.size + x.size = 8 + sumM (l.take (k + 1)) by rw [← hsz, ← bytes_len, HY.out, HLEN.out])
                  clear hx hg hy hsz
                  by_cases h9 : 900 < y.size + x.size
                  · have HQ := Lib.hid (show makeE l = 2 by rw [HEND.out, if_pos (by have := HSZ.out; have := HLE.out; omega)])
                    have h9' : (900 : Int) < (y.size : Int) + (x.size : Int) := by omega
                    go_wp2
                    go_ret2
                    exact rmake_no HQ.out (by decide) G5.out
                  · have h9' : ¬ (900 : Int) < (y.size : Int) + (x.size : Int) := by omega
                    go_wp2
                    go_roundw
                    case rel => exact ⟨k + 1, _, by omega, by go_num, rfl, HY, by rw [ByteArray.size_append]; omega, G5⟩
                    case measure => simp [intOf]; omega
                · obtain rfl : k = l.length := by omega
                  have HL := Lib.hid (make_len (hfit l.length))
                  have HY := hy
                  rw [List.take_of_length_le (Nat.le_refl _)] at HL HY
                  have HQ := Lib.hid (show makeE l = 0 by rw [HEND.out, if_neg (by rw [← HL.out, ← HY.out, bytes_len]; omega)])
                  clear hy hfit
                  go_wp2
                  go_ret2
                  exact ⟨y, by rw [HQ.out]; rfl, .inr ⟨HQ.out, HY.out⟩, hG.out⟩
end Go.Proofs.YtbcemenfklgnkaaGreatDoor

/- Walks of package lines: a fault's text, in which line an error stands. -/
import Derived.Test.YtigjmaicolgalaaDoorLnOut
import Derived.Test.YtigjmaicolgalaaDoorShelf
import Derived.Lib.AppendIntMem
namespace Go.Proofs.YtigjmaicolgalaaDoor
open Go.RowKit

theorem wpn_nil (w : World) : Calls Tryd.prog 17 #[.nilIface] w fun e w' => e = .returned (.tuple #[.int .i64 0, .bool false]) ∧ w.grownBy w' none := by
  go_enter Tryd.func17, Tryd.ntmps17
  go_wp2_with (go_at_call 29; (refine (as_nil _ _).mono ?_); rintro e w1 ⟨rfl, rfl⟩)
  go_ret2
  exact ⟨rfl, World.grownBy_alloc _ _ _⟩
theorem wpn_err (a : Addr) (w : World) (hT : ErrTy w) : Calls Tryd.prog 17 #[.iface 141 (.pointer (some a))] w fun e w' => e = .returned (.tuple #[.int .i64 0, .bool false]) ∧ w.grownBy w' none := by
  have g0 := World.grownBy_alloc w (.cells #[.pointer none] 41) none
  have CA := Lib.hid (as_other a ⟨w.heap.size, 0, none⟩ (w.alloc (.cells #[.pointer none] 41)) (hT.grown g0))
  have G0 := Lib.hid g0
  clear g0 hT
  go_enter Tryd.func17, Tryd.ntmps17
  go_wp2_with (go_at_call 29; (refine CA.out.mono ?_); rintro e w1 ⟨rfl, hw⟩; have HG := Lib.hid (show w.grownBy w1 none by rw [hw]; exact ((G0.out.trans (World.grownBy_alloc _ _ _)).trans (World.grownBy_alloc _ _ _)).trans (World.grownBy_alloc _ _ _)); clear hw)
  go_ret2
  exact ⟨rfl, HG.out⟩
theorem grown_setCell (w : World) (b : Nat) (v : Value) : w.grownBy (w.setCell ⟨b, 0, none⟩ v) (some b) :=
  ⟨rfl, rfl, rfl, by simp [World.setCell], fun k _ hk => Below.heap_setCell _ _ _ _ (fun e => hk (by simp [e]))⟩
theorem wpn_flt (q : Nat) (line : Int) (v : Value) (w : World) (hT : ErrTy w) (hF : FltAt w q line v) : Calls Tryd.prog 17 #[fltV q] w fun e w' => e = .returned (.tuple #[.int .i64 line, .bool true]) ∧ w.grownBy w' none := by
  have g0 := World.grownBy_alloc w (.cells #[.pointer none] 41) none
  have CA := as_hit ⟨q, 0, none⟩ ⟨w.heap.size, 0, none⟩ (.pointer none) (w.alloc (.cells #[.pointer none] 41)) (hT.grown g0) (by simp) (by simp)
  have CB := Lib.hid (show Calls Tryd.prog 29 #[fltV q, .iface 60 (.pointer (some ⟨w.heap.size, 0, none⟩))] (w.alloc (.cells #[.pointer none] 41)) fun ev w' => ev = .returned (.bool true) ∧ w'.cell? ⟨w.heap.size, 0, none⟩ = some (.pointer (some ⟨q, 0, none⟩)) ∧ w.grownBy w' none by
    refine CA.mono ?_
    rintro e w1 ⟨rfl, rfl⟩
    have h4 := (((World.grownBy_alloc (w.alloc (.cells #[.pointer none] 41)) (.cells #[.pointer (some ⟨w.heap.size, 0, none⟩)] 60) none).trans (World.grownBy_alloc _ (.cells #[.pointer (some ⟨25, 60, none⟩), .pointer (some ⟨(w.alloc (.cells #[.pointer none] 41)).heap.size, 0, none⟩), .int .u64 150] 69) _)).trans (World.grownBy_alloc _ (.cells #[.pointer (some ⟨25, 60, none⟩), .pointer (some ⟨(w.alloc (.cells #[.pointer none] 41)).heap.size, 0, none⟩), .int .u64 150] 69) _)).trans (World.grownBy_alloc _ (.cells #[.pointer (some ⟨q, 0, none⟩)] 41) _)
    refine ⟨rfl, ?_, ?_⟩
    · have hc : (w.alloc (.cells #[.pointer none] 41)).cell? ⟨w.heap.size, 0, none⟩ = some (.pointer none) := by simp
      exact World.cell?_setCell_same _ _ _ (((below_of_grown h4).cell (p := ⟨w.heap.size, 0, none⟩) (by simp)).trans hc)
    · exact ((g0.trans h4).andThen (grown_setCell _ w.heap.size _) (fun j e => by cases e; exact .inl (Nat.le_refl _))))
  have HF := Lib.hid hF
  clear CA g0 hT hF
  go_enter Tryd.func17, Tryd.ntmps17
  go_wp2_with (go_at_call 29; (refine CB.out.mono ?_); rintro e w1 ⟨rfl, hc, g1⟩; have G1 := Lib.hid g1; obtain ⟨c0, c1⟩ := (HF.out.grown g1).cells; clear g1)
  go_ret2
  exact ⟨rfl, G1.out⟩

theorem nd_le : ∀ k u : Nat, u < 10 ^ (k + 1) → Lib.nDigits u ≤ k + 1
  | 0, u, h => by rw [Lib.nDigits_small (by simpa using h)]; exact Nat.le_refl _
  | k + 1, u, h => by
    by_cases h10 : u < 10
    · rw [Lib.nDigits_small h10]; omega
    · rw [Lib.nDigits_big h10]
      have := nd_le k (u / 10) (by rw [Nat.pow_succ] at h; omega)
      omega
theorem itoa_len (n : Int) (h0 : -9223372036854775808 ≤ n) (h1 : n ≤ 9223372036854775807) : (Lib.itoa n).length ≤ 30 := by
  unfold Lib.itoa
  split
  · rw [List.length_cons, Lib.decDigits_length]
    have := nd_le 19 n.natAbs (by omega)
    omega
  · rw [Lib.decDigits_length]
    have := nd_le 19 n.toNat (by omega)
    omega
theorem tab_later12 {w w' : World} {name : String} {k : IntKind} {zs : List Int} (h : Lib.TabIs Tryd.prog w name k zs) (hb : Below w.heap.size w w') : Lib.TabIs Tryd.prog w' name k zs := by
  unfold Lib.TabIs World.var? at *
  cases hg : Tryd.prog.globalNamed name with
  | none => simp [hg] at h
  | some g =>
    simp only [hg, Option.bind_some] at h ⊢
    have hlt : g < w.heap.size := by
      rcases Nat.lt_or_ge g w.heap.size with h' | h'
      · exact h'
      · rw [Array.getElem?_eq_none h'] at h; simp at h
    rw [hb.block g hlt]
    exact h
theorem pError (q : Nat) (line : Int) (v : Value) (w : World) (hF : FltAt w q line v) (h0 : -9223372036854775808 ≤ line) (h1 : line ≤ 9223372036854775807) (hP : Lib.TabIs Tryd.prog w "internal/strconv.uint64pow10" .u64 Lib.pow10Tab) :
    Calls Tryd.prog 18 #[.pointer (some ⟨q, 0, none⟩)] w fun e w' => (∃ t : ByteArray, e = .returned (.string t) ∧ t.data.toList = ftxQ line) ∧ w.grownBy w' none := by
  obtain ⟨c0, -⟩ := hF.cells
  obtain ⟨t, ht, hl, hz⟩ : ∃ t : ByteArray, (⟨(Lib.itoa line).toArray⟩ : ByteArray) = t ∧ t.data.toList = Lib.itoa line ∧ t.size ≤ 30 := ⟨_, rfl, by simp, by
    have := itoa_len line h0 h1
    show (Lib.itoa line).toArray.size ≤ 30
    rw [List.size_toArray]; exact this⟩
  have CI := Lib.hid (show ∀ W, w.grownBy W none → Calls Tryd.prog 30 #[.int .i64 line] W fun e w' => e = .returned (.string t) ∧ W.grownBy w' none from fun W g =>
    (Tryd.strconv_Itoa line h0 h1 W (tab_later12 hP (below_of_grown g))).mono fun e w' ⟨he, k, os, hw⟩ => by
      subst hw
      exact ⟨by rw [he, ht], grown_of_below (Lib.below_grow _ _ (Nat.le_refl _) _ _)⟩)
  have HT := Lib.hid (show ((⟨#[108, 105, 110, 101, 32]⟩ : ByteArray) ++ t).data.toList = ftxQ line by unfold ftxQ; simp [hl])
  clear ht hl hP hF
  go_enter Tryd.func18, Tryd.ntmps18
  go_wp2_with (go_at_call 30; (with_reducible refine (CI.out _ (World.grownBy.refl _ _)).mono ?_); rintro e w1 ⟨rfl, g1⟩; have G1 := Lib.hid g1; clear g1)
  go_ret
  exact ⟨⟨_, rfl, HT.out⟩, G1.out⟩
end Go.Proofs.YtigjmaicolgalaaDoor

/- What package lines' functions answer, as the laws are told of it. Walks of package lines: a fault's text, in which line an error stands. -/
import Derived.Test.YtdganemgldocoaaGreatDoorLnSplit
import Derived.Test.YtdganemgldocoaaGreatDoorFltAs
import Derived.Lib.ItoaNum
import Derived.Test.YtdganemgldocoaaGreatDoorShelf
import Derived.Lib.AppendIntMem
namespace Go.Proofs.YtdganemgldocoaaGreatDoor
open Go.RowKit

/-- lines, or none and a fault -/
def PLns (l : List UInt8) (A : Nat → Addr) (w : World) (e : Ending) (w' : World) : Prop :=
  w.grownBy w' none ∧ match spL l with
    | .ok L => ∃ v O, e = .returned (.tuple #[v, .nilIface]) ∧ LnRow w' v O ∧ lnQ O = L
    | .error (bad, line) => ∃ a c q, e = .returned (.tuple #[.slice a 0 c, fltV q]) ∧ FltAt w' q line (errV A bad)
/-- the errors of a text -/
theorem spA_bad : ∀ (r : List (List UInt8)) (o : Nat) (h : List UInt8) (O : List Lq) (k bad line : Nat), spA o h O k r = .error (bad, line) → (bad = 2 ∨ bad = 5)
  | [], o, h, O, k, bad, line, e => by rw [spA] at e; cases e
  | s :: r, o, h, O, k, bad, line, e => by
    rw [spA] at e
    split at e
    · split at e
      · cases e; exact .inl rfl
      · exact spA_bad r _ _ _ _ _ _ e
    · split at e
      · cases e; exact .inr rfl
      · exact spA_bad r _ _ _ _ _ _ e
      · split at e
        · cases e; exact .inl rfl
        · exact spA_bad r _ _ _ _ _ _ e
theorem spL_bad {l : List UInt8} {bad line : Nat} (h : spL l = .error (bad, line)) : bad = 2 ∨ bad = 5 := by
  unfold spL at h
  split at h
  · cases h; exact .inl rfl
  · exact spA_bad _ _ _ _ _ _ _ h
/-- the text of a fault of that line -/
def ftxQ (line : Int) : List UInt8 := [108, 105, 110, 101, 32] ++ Lib.itoa line
theorem ErrEnv.grown12 {A : Nat → Addr} {w w' : World} (h : ErrEnv A w) (hg : w.grownBy w' none) : ErrEnv A w' := h.later (below_of_grown hg)
/-- the library's error type, the errors of the list -/
def LEnv (A : Nat → Addr) (w : World) : Prop := ErrEnv A w ∧ ErrTy w
theorem LEnv.err {A : Nat → Addr} {w : World} (h : LEnv A w) : ErrEnv A w := h.1
theorem LEnv.ty {A : Nat → Addr} {w : World} (h : LEnv A w) : ErrTy w := h.2
theorem LEnv.grown {A : Nat → Addr} {w w' : World} (h : LEnv A w) (hg : w.grownBy w' none) : LEnv A w' := ⟨h.1.grown12 hg, h.2.grown hg⟩
end Go.Proofs.YtdganemgldocoaaGreatDoor

namespace Go.Proofs.YtdganemgldocoaaGreatDoor
open Go.RowKit

theorem wpn_nil (w : World) : Calls Tryz.prog 16 #[.nilIface] w fun e w' => e = .returned (.tuple #[.int .i64 0, .bool false]) ∧ w.grownBy w' none := by
  go_enter Tryz.func16, Tryz.ntmps16
  go_wp2_with (go_at_call 31; (refine (as_nil _ _).mono ?_); rintro e w1 ⟨rfl, rfl⟩)
  go_ret2
  exact ⟨rfl, World.grownBy_alloc _ _ _⟩
theorem wpn_err (a : Addr) (w : World) (hT : ErrTy w) : Calls Tryz.prog 16 #[.iface 202 (.pointer (some a))] w fun e w' => e = .returned (.tuple #[.int .i64 0, .bool false]) ∧ w.grownBy w' none := by
  have g0 := World.grownBy_alloc w (.cells #[.pointer none] 65) none
  have CA := Lib.hid (as_other a ⟨w.heap.size, 0, none⟩ (w.alloc (.cells #[.pointer none] 65)) (hT.grown g0))
  have G0 := Lib.hid g0
  clear g0 hT
  go_enter Tryz.func16, Tryz.ntmps16
  go_wp2_with (go_at_call 31; (refine CA.out.mono ?_); rintro e w1 ⟨rfl, hw⟩; have HG := Lib.hid (show w.grownBy w1 none by rw [hw]; exact ((G0.out.trans (World.grownBy_alloc _ _ _)).trans (World.grownBy_alloc _ _ _)).trans (World.grownBy_alloc _ _ _)); clear hw)
  go_ret2
  exact ⟨rfl, HG.out⟩
theorem grown_setCell (w : World) (b : Nat) (v : Value) : w.grownBy (w.setCell ⟨b, 0, none⟩ v) (some b) :=
  ⟨rfl, rfl, rfl, by simp [World.setCell], fun k _ hk => Below.heap_setCell _ _ _ _ (fun e => hk (by simp [e]))⟩
theorem wpn_flt (q : Nat) (line : Int) (v : Value) (w : World) (hT : ErrTy w) (hF : FltAt w q line v) : Calls Tryz.prog 16 #[fltV q] w fun e w' => e = .returned (.tuple #[.int .i64 line, .bool true]) ∧ w.grownBy w' none := by
  have g0 := World.grownBy_alloc w (.cells #[.pointer none] 65) none
  have CA := as_hit ⟨q, 0, none⟩ ⟨w.heap.size, 0, none⟩ (.pointer none) (w.alloc (.cells #[.pointer none] 65)) (hT.grown g0) (by simp) (by simp)
  have CB := Lib.hid (show Calls Tryz.prog 31 #[fltV q, .iface 80 (.pointer (some ⟨w.heap.size, 0, none⟩))] (w.alloc (.cells #[.pointer none] 65)) fun ev w' => ev = .returned (.bool true) ∧ w'.cell? ⟨w.heap.size, 0, none⟩ = some (.pointer (some ⟨q, 0, none⟩)) ∧ w.grownBy w' none by
    refine CA.mono ?_
    rintro e w1 ⟨rfl, rfl⟩
    have h4 := (((World.grownBy_alloc (w.alloc (.cells #[.pointer none] 65)) (.cells #[.pointer (some ⟨w.heap.size, 0, none⟩)] 80) none).trans (World.grownBy_alloc _ (.cells #[.pointer (some ⟨23, 80, none⟩), .pointer (some ⟨(w.alloc (.cells #[.pointer none] 65)).heap.size, 0, none⟩), .int .u64 150] 115) _)).trans (World.grownBy_alloc _ (.cells #[.pointer (some ⟨23, 80, none⟩), .pointer (some ⟨(w.alloc (.cells #[.pointer none] 65)).heap.size, 0, none⟩), .int .u64 150] 115) _)).trans (World.grownBy_alloc _ (.cells #[.pointer (some ⟨q, 0, none⟩)] 65) _)
    refine ⟨rfl, ?_, ?_⟩
    · have hc : (w.alloc (.cells #[.pointer none] 65)).cell? ⟨w.heap.size, 0, none⟩ = some (.pointer none) := by simp
      exact World.cell?_setCell_same _ _ _ (((below_of_grown h4).cell (p := ⟨w.heap.size, 0, none⟩) (by simp)).trans hc)
    · exact ((g0.trans h4).andThen (grown_setCell _ w.heap.size _) (fun j e => by cases e; exact .inl (Nat.le_refl _))))
  have HF := Lib.hid hF
  clear CA g0 hT hF
  go_enter Tryz.func16, Tryz.ntmps16
  go_wp2_with (go_at_call 31; (refine CB.out.mono ?_); rintro e w1 ⟨rfl, hc, g1⟩; have G1 := Lib.hid g1; obtain ⟨c0, c1⟩ := (HF.out.grown g1).cells; clear g1)
  go_ret2
  exact ⟨rfl, G1.out⟩

theorem nd_le : ∀ k u : Nat, u < 10 ^ (k + 1) → Lib.nDigits u ≤ k + 1
  | 0, u, h => by rw [Lib.nDigits_small (by simpa using h)]; exact Nat.le_refl _
  | k + 1, u, h => by
    by_cases h10 : u < 10
    · rw [Lib.nDigits_small h10]; omega
    · rw [Lib.nDigits_big h10]
      have := nd_le k (u / 10) (by rw [Nat.pow_succ] at h; omega)
      omega
theorem itoa_len (n : Int) (h0 : -9223372036854775808 ≤ n) (h1 : n ≤ 9223372036854775807) : (Lib.itoa n).length ≤ 30 := by
  unfold Lib.itoa
  split
  · rw [List.length_cons, Lib.decDigits_length]
    have := nd_le 19 n.natAbs (by omega)
    omega
  · rw [Lib.decDigits_length]
    have := nd_le 19 n.toNat (by omega)
    omega
theorem tab_later12 {w w' : World} {name : String} {k : IntKind} {zs : List Int} (h : Lib.TabIs Tryz.prog w name k zs) (hb : Below w.heap.size w w') : Lib.TabIs Tryz.prog w' name k zs := by
  unfold Lib.TabIs World.var? at *
  cases hg : Tryz.prog.globalNamed name with
  | none => simp [hg] at h
  | some g =>
    simp only [hg, Option.bind_some] at h ⊢
    have hlt : g < w.heap.size := by
      rcases Nat.lt_or_ge g w.heap.size with h' | h'
      · exact h'
      · rw [Array.getElem?_eq_none h'] at h; simp at h
    rw [hb.block g hlt]
    exact h
end Go.Proofs.YtdganemgldocoaaGreatDoor

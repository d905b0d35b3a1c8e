/- A tree shows the document's tree of the same files. -/
import Derived.Test.YtbcemenfklgnkaaGreatDoorTreeJ
import Derived.Test.YtbcemenfklgnkaaGreatDoorRefA
import Derived.Deep.QuietTactic
import Derived.BigQuiet
namespace Go.Proofs.YtbcemenfklgnkaaGreatDoor
open Go.RowKit Go.Maps

theorem guardR (op : BinOp) (x y : Operand) (xs ys : Array Value) (w : World) : (eqGuard op 76 x y (.agg xs) (.agg ys)).run Tryz.prog w = .ok () w := run_eqGuard_agg w op _ x y xs ys (by kernel_rfl)
theorem eqlR (f g : Fl) (w : World) : (binOp .eql 76 (.agg #[.string f.n, .string f.c, .int .i64 f.t]) (.agg #[.string g.n, .string g.c, .int .i64 g.t])).run Tryz.prog w = .ok (.bool (eqFl f g)) w := by
  have hS : Tryz.prog.underlying 76 = some (.struct (Tryz.prog.fieldsOf 76)) := by kernel_rfl
  have hp : Tryz.prog.stoodInHeld 76 = false := by kernel_rfl
  have u3 := Tryz.underlying3
  have a3 := Tryz.isAgg3
  have z3 := Tryz.sizeOf3
  have u9 := Tryz.underlying9
  have a9 := Tryz.isAgg9
  have z9 := Tryz.sizeOf9
  rw [run_eql_struct, show (10000 : Nat) = 9999 + 1 from rfl, run_equalIn_agg w 9999 _ _ _ hS hp]
  simp only [Program.fieldsOf, Tryz.underlying76]
  go_simp
  unfold eqFl
  by_cases h1 : (f.n.toList == g.n.toList) = true <;> by_cases h2 : (f.c.toList == g.c.toList) = true <;> by_cases h3 : (f.t == g.t) = true <;> simp_all
theorem neqR (f g : Fl) (w : World) : (binOp .neq 76 (.agg #[.string f.n, .string f.c, .int .i64 f.t]) (.agg #[.string g.n, .string g.c, .int .i64 g.t])).run Tryz.prog w = .ok (.bool (!eqFl f g)) w := by
  have h := eqlR f g w
  rw [run_eql_struct] at h
  rw [run_neq_struct]
  cases hr : (Op.equalIn 10000 76 (.agg #[.string f.n, .string f.c, .int .i64 f.t]) (.agg #[.string g.n, .string g.c, .int .i64 g.t])).run Tryz.prog w with
  | ok b w1 =>
    rw [hr] at h
    simp only [Result.andThen, Result.ok.injEq, Value.bool.injEq] at h ⊢
    exact ⟨by rw [h.1], h.2⟩
  | halt x w1 => rw [hr] at h; simp [Result.andThen] at h

set_option maxRecDepth 100000 in
set_option maxHeartbeats 2000000 in
theorem lShows (p b q : Nat) (l : List Fl) (w : World) (h : IsTree w p b l) (hr : RTree w q l) :
    Calls Tryz.prog 16 #[.pointer (some ⟨p, 0, none⟩), .pointer (some ⟨q, 0, none⟩)] w fun e w' => e = .returned (.bool true) ∧ w.grownBy w' none := by
  have HT := Lib.hid h; have HR := Lib.hid hr
  have h40 : l.length ≤ 40 := h.2.2
  clear h hr
  go_enter Tryz.func16, Tryz.ntmps16
  go_wp2_with fail
  refine (tFiles p b l _ HT.out).mono ?_
  rintro e w1 ⟨a1, c1, rfl, f1, g1⟩
  have F1 := Lib.hid f1; have G1 := Lib.hid g1
  have T1 := Lib.hid (HT.out.kept g1 (by simp) (by simp)); have R1 := Lib.hid (HR.out.grown g1)
  obtain ⟨ra, rc, hq1, -⟩ := R1.out
  clear f1 g1
  go_wp2_with fail
  refine (tLatest p b l _ T1.out).mono ?_
  rintro e w2 ⟨rfl, g2⟩
  have G2 := Lib.hid g2
  have R2 := Lib.hid (R1.out.grown g2); have T2 := Lib.hid (T1.out.kept g2 (by simp) (by simp))
  clear g2 hq1
  go_wp2_with fail
  refine (rLatest q l _ R2.out).mono ?_
  rintro e w3 ⟨rfl, g3⟩
  have G3 := Lib.hid g3
  have T3 := Lib.hid (T2.out.kept g3 (by simp) (by simp)); have R3 := Lib.hid (R2.out.grown g3)
  clear g3
  go_wp2_with fail
  refine (tNames p b l _ T3.out).mono ?_
  rintro e w4 ⟨na, nc, rfl, o4, b4⟩
  have O4 := Lib.hid o4; have G4 := Lib.hid (grown_of_below b4)
  have T4 := Lib.hid (T3.out.kept (grown_of_below b4) (by simp) (by simp)); have R4 := Lib.hid (R3.out.grown (grown_of_below b4))
  have F4 := Lib.hid (F1.out.later (below_of_grown ((G2.out.trans G3.out).trans (grown_of_below b4))))
  clear o4 b4
  have F4c := Lib.hid ((G1.out.trans G2.out).trans (G3.out.trans G4.out))
  go_wp2
  go_loopw [6, 7, 28] (fun _ _ i wr => ∃ k : Nat, k ≤ l.length ∧ i = .int .i64 k ∧ Hid (w4.grownBy wr none)) (fun _ _ i _ => l.length - (intOf i).toNat)
  case atStart => exact ⟨0, Nat.zero_le _, rfl, Lib.hid (World.grownBy.refl _ _)⟩
  case round =>
    obtain ⟨k, hk, rfl, hG⟩ := hrel
    have RW := Lib.hid (R4.out.grown hG.out)
    have FW := Lib.hid (F4.out.later (below_of_grown hG.out))
    by_cases hlt : k < l.length
    · obtain ⟨f, hf⟩ : ∃ f, l[k]? = some f := ⟨_, List.getElem?_eq_getElem hlt⟩
      obtain ⟨g, rfl, -, hgl, hcell⟩ := names_at O4.out hf
      have hcell2 := hG.out.cell hcell (by simp)
      obtain ⟨fb, fo, fc, f1, e1, hf1, -, d0, d1, d2⟩ := FW.out.at k hlt
      obtain rfl := Option.some.inj (hf.symm.trans hf1)
      cases e1
      obtain ⟨ra', rc', hq', -, hr', -, -, -, -⟩ := RW.out
      obtain ⟨rb, ro, rc2, f2, e2, hf2, -, -, -, y0, y1, y2⟩ := hr'.at k hlt
      obtain rfl := Option.some.inj (hf.symm.trans hf2)
      cases e2
      have hi0 : (0 : Int) ≤ (k : Int) := Int.natCast_nonneg _
      have hi1 : (k : Int) < (l.length : Int) := by omega
      have hdec : decide ((l.length : Int) ≤ (k : Int)) = false := decide_eq_false (by omega)
      have hnq := fun W => neqR f f W
      rw [eqFl_self] at hnq
      have hgd := guardR
      clear hcell hf hf1 hf2 hr' hgl
      go_wp2
      go_quiet (fail)
      go_wp2
      go_roundw
      case rel => exact ⟨k + 1, by omega, by go_num, Lib.hid (grown_drewN hG.out _)⟩
      case measure => simp [intOf]; omega
    · have TW := Lib.hid (T4.out.kept hG.out (by simp) (by simp))
      go_wp2_with (go_at_call 40; refine (tNames p b l _ TW.out).mono ?_; rintro e w6 ⟨na6, nc6, rfl, o6, b6⟩; have B6 := Lib.hid b6; clear o6 b6)
      go_ret
      exact ⟨by simp, F4c.out.trans (hG.out.trans (grown_of_below B6.out))⟩
end Go.Proofs.YtbcemenfklgnkaaGreatDoor

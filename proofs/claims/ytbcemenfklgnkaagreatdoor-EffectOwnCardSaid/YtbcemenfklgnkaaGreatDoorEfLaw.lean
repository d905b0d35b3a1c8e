/- Walks: what the laws of layer 5 share: the chapter's example, long lists of effects. -/
import Derived.Test.YtbcemenfklgnkaaGreatDoorEfDo
namespace Go.Proofs.YtbcemenfklgnkaaGreatDoor
open Go.RowKit Go.Maps

theorem ex_do : doE 4 [] ⟨1, ⟨#[97]⟩, ⟨#[120]⟩⟩ = (0, [⟨⟨#[97]⟩, ⟨#[120]⟩, 4⟩]) := by
  rw [doE_1 (by decide +kernel) rfl]
  have hp : putE [] ⟨⟨#[97]⟩, ⟨#[120]⟩, 4⟩ = 0 := by decide +kernel
  rw [hp, setL_ok rfl]
  rfl

set_option maxRecDepth 100000 in
set_option maxHeartbeats 1000000 in
theorem lAliveE (A : Nat → Addr) (w : World) (hE : EnvE A w) :
    Calls Tryz.prog 6 #[] w fun e w' => e = .returned (.bool true) ∧ w.grownBy w' none := by
  have HE := Lib.hid hE
  clear hE
  have HD := Lib.hid (fun (p b : Nat) (W : World) (hW : IsTree W p b []) (hE : EnvE A W) => eDo p b [] 4 ⟨1, ⟨#[97]⟩, ⟨#[120]⟩⟩ A W hW hE (by decide) (by decide) (by simp))
  rw [ex_do] at HD
  simp only [errV_zero] at HD
  have HT := Lib.hid (fun (p b : Nat) (W : World) (hW : IsTree W p b [⟨⟨#[97]⟩, ⟨#[120]⟩, 4⟩]) => tTime p b _ ⟨#[97]⟩ W hW (by decide))
  rw [show (getL [⟨⟨#[97]⟩, ⟨#[120]⟩, 4⟩] ⟨#[97]⟩).t = 4 from rfl] at HT
  generalize hX : [(⟨⟨#[97]⟩, ⟨#[120]⟩, 4⟩ : Fl)] = X at *
  clear hX
  go_enter Tryz.func6, Tryz.ntmps6
  go_wp2_with fail
  refine (tNew _).mono ?_
  rintro e w1 ⟨rfl, t1, g1⟩
  have T1 := Lib.hid t1; have G1 := Lib.hid g1
  clear t1 g1
  go_wp2_with (first
    | (go_at_call 30; refine (HD.out _ _ _ T1.out (HE.out.grown G1.out)).mono ?_; rintro e w2 ⟨rfl, t2, g2⟩; have T2 := Lib.hid t2; have G2 := Lib.hid (grown_none G1.out g2 (Nat.le_refl _)); clear t2 g2)
    | (go_at_call 29; refine (HT.out _ _ _ T2.out).mono ?_; rintro e w4 ⟨rfl, rfl⟩))
  go_ret
  exact ⟨rfl, G2.out⟩

set_option maxRecDepth 100000 in
set_option maxHeartbeats 1000000 in
theorem lLongE (v : Value) (l : List Ef) (m : Nat) (w : World) (h : ERow w v l) :
    Calls Tryz.prog 8 #[v, .int .i64 m] w fun e w' => e = .returned (.bool (longE m l)) ∧ w.grownBy w' none := by
  have HR := Lib.hid h
  obtain ⟨a, c, rfl, hn, -, -⟩ := h
  by_cases hm : m < l.length
  · have hL := Lib.hid (show longE m l = true by unfold longE; rw [decide_eq_true hm]; rfl)
    go_enter Tryz.func8, Tryz.ntmps8
    go_wp2
    go_ret
    exact ⟨ret_bool' hL.out.symm, World.grownBy.refl _ _⟩
  have HM : l.length ≤ m := by omega
  have hdm : decide (m < l.length) = false := decide_eq_false hm
  clear hm
  go_enter Tryz.func8, Tryz.ntmps8
  go_wp2
  go_loopw [6, 13] (fun _ i wr => ∃ k : Nat, k ≤ l.length ∧ i = .int .i64 k ∧ Hid ((l.take k).any bigE = false) ∧ Hid (w.grownBy wr none)) (fun _ i _ => l.length - (intOf i).toNat)
  case atStart => exact ⟨0, Nat.zero_le _, rfl, Lib.hid rfl, Lib.hid (World.grownBy.refl _ _)⟩
  case round =>
    obtain ⟨k, hk, rfl, ha, hB⟩ := hrel
    by_cases hlt : k < l.length
    · obtain ⟨b, off, c', f, e, hf, sn, sc, hb, c0, c1, c2⟩ := (HR.out.grown hB.out).at k hlt
      cases e
      have Hf := Lib.hid hf
      unfold maxLen at sn sc
      clear hf
      by_cases h1 : (100 : Int) < f.n.size
      · have hL := Lib.hid (longE_hit (m := m) Hf.out (show bigE f = true by unfold bigE; rw [decide_eq_true (show 100 < f.n.size by omega)]; rfl))
        go_wp2
        go_ret
        exact ⟨ret_bool' hL.out.symm, hB.out.trans (World.grownBy_alloc _ _ _)⟩
      by_cases h2 : (1000 : Int) < f.c.size
      · have hL := Lib.hid (longE_hit (m := m) Hf.out (show bigE f = true by unfold bigE; rw [decide_eq_true (show 1000 < f.c.size by omega)]; simp))
        go_wp2
        go_ret
        exact ⟨ret_bool' hL.out.symm, hB.out.trans (World.grownBy_alloc _ _ _)⟩
      have HN := Lib.hid (show bigE f = false by unfold bigE; rw [decide_eq_false (show ¬ 1000 < f.c.size by omega), decide_eq_false (show ¬ 100 < f.n.size by omega)]; rfl)
      go_wp2
      go_roundw
      case rel => exact ⟨k + 1, by omega, by go_num, take_any_snocE Hf.out bigE ha.out HN.out, Lib.hid (hB.out.trans (World.grownBy_alloc _ _ _))⟩
      case measure => simp [intOf]; omega
    · have hL := Lib.hid (longE_not HM (by omega) ha.out)
      go_wp2
      go_ret
      exact ⟨ret_bool' hL.out.symm, hB.out⟩
end Go.Proofs.YtbcemenfklgnkaaGreatDoor

/- Walks of package lex: whether rows of words are the same. -/
import Derived.Test.YtdganemgldocoaaGreatDoorLxOf
namespace Go.Proofs.YtdganemgldocoaaGreatDoor
open Go.RowKit

theorem neqPc (f g : Pb) (w : World) : (binOp .neq 105 (.agg #[.int .i64 f.k, .string f.t, .string f.f, .string f.o]) (.agg #[.int .i64 g.k, .string g.t, .string g.f, .string g.o])).run Tryz.prog w = .ok (.bool (!eqPb f g)) w := by
  have hS : Tryz.prog.underlying 105 = some (.struct (Tryz.prog.fieldsOf 105)) := by kernel_rfl
  have hp : Tryz.prog.stoodInHeld 105 = false := by kernel_rfl
  have u3 := Tryz.underlying3
  have a3 := Tryz.isAgg3
  have z3 := Tryz.sizeOf3
  have u9 := Tryz.underlying9
  have a9 := Tryz.isAgg9
  have z9 := Tryz.sizeOf9
  rw [run_neq_struct, show (10000 : Nat) = 9999 + 1 from rfl, run_equalIn_agg w 9999 _ _ _ hS hp]
  simp only [Program.fieldsOf, Tryz.underlying105]
  go_simp
  unfold eqPb
  by_cases h1 : (f.k == g.k) = true <;> by_cases h2 : (f.t.toList == g.t.toList) = true <;> by_cases h3 : (f.f.toList == g.f.toList) = true <;> by_cases h4 : (f.o.toList == g.o.toList) = true <;> simp_all
theorem guardPc (op : BinOp) (x y : Operand) (xs ys : Array Value) (w : World) : (eqGuard op 105 x y (.agg xs) (.agg ys)).run Tryz.prog w = .ok () w := run_eqGuard_agg w op _ x y xs ys (by kernel_rfl)
set_option maxRecDepth 100000 in
set_option maxHeartbeats 4000000 in
theorem xEqual (v1 v2 : Value) (l1 l2 : List Pb) (w : World) (h1 : PRow w v1 l1) (h2 : PRow w v2 l2) :
    Calls Tryz.prog 46 #[v1, v2] w fun e w' => (∃ z, e = .returned (.bool z) ∧ (z = true ↔ l1 = l2)) ∧ w.grownBy w' none := by
  obtain ⟨va, vc, rfl, hm1⟩ := h1.shape
  obtain ⟨ua, uc, rfl, hm2⟩ := h2.shape
  have P1 := Lib.hid h1; have P2 := Lib.hid h2
  have GE := guardPc
  clear h1 h2
  by_cases hlen : l1.length = l2.length
  case neg =>
    have e0 : ((l1.length : Int) != (l2.length : Int)) = true := by simp; omega
    have HN := Lib.hid (show ¬l1 = l2 from fun e => hlen (by rw [e]))
    clear hlen
    go_enter Tryz.func46, Tryz.ntmps46
    go_wp2
    go_ret
    exact ⟨⟨false, rfl, by simp [HN.out]⟩, World.grownBy.refl _ _⟩
  have HLL := Lib.hid hlen
  have e0 : ((l1.length : Int) != (l2.length : Int)) = false := by simp; omega
  clear hlen
  go_enter Tryz.func46, Tryz.ntmps46
  go_wp2
  clear e0
  go_loopw [13] (fun i wi => ∃ n : Nat, n ≤ l1.length ∧ i = .int .i64 n ∧ Hid (∀ m, m < n → l1[m]? = l2[m]?) ∧ Hid (w.grownBy wi none)) (fun i _ => l1.length - (intOf i).toNat)
  case atStart => exact ⟨0, Nat.zero_le _, rfl, Lib.hid (fun m hm => by omega), Lib.hid (World.grownBy.refl _ _)⟩
  case round =>
    obtain ⟨n, hn, rfl, hI2, hG2⟩ := hrel
    by_cases hnt : n < l1.length
    · have hnt2 : n < l2.length := by have := HLL.out; omega
      obtain ⟨p1, q1, r1, x1, ew1, hy1, hp1, g0, g1, g2, g3⟩ := (P1.out.grown hG2.out).at n hnt
      obtain ⟨p2, q2, r2, x2, ew2, hy2, hp2, h0, h1, h2, h3⟩ := (P2.out.grown hG2.out).at n hnt2
      injection ew1 with z1 z2 z3
      injection ew2 with y1 y2 y3
      subst z1 z3 y1 y3
      have Y1 := Lib.hid hy1; have Y2 := Lib.hid hy2
      have NX := fun w => neqPc x1 x2 w
      clear hy1 hy2 hp1 hp2 z2 y2
      cases hx : eqPb x1 x2
      · rw [hx] at NX
        have HN := Lib.hid (show ¬l1 = l2 from fun e => by
          have h2 := Y1.out
          rw [e, Y2.out] at h2
          have := eqPb_iff.2 (Option.some.inj h2).symm
          rw [hx] at this; cases this)
        clear hx
        go_wp2
        go_quiet (fail)
        go_wp2
        go_ret
        exact ⟨⟨false, rfl, by simp [HN.out]⟩, grown_drewN hG2.out _⟩
      · rw [hx] at NX
        have HI := Lib.hid (show ∀ m, m < n + 1 → l1[m]? = l2[m]? from take_more hI2.out Y1.out (by rw [Y2.out, eqPb_iff.1 hx]))
        clear hx
        go_wp2
        go_quiet (fail)
        go_wp2
        go_roundw
        case rel => exact ⟨n + 1, hnt, by go_num, HI, Lib.hid (grown_drewN hG2.out _)⟩
        case measure => simp [intOf]; omega
    · have HE := Lib.hid (show l1 = l2 from take_all HLL.out (fun m hm => hI2.out m (by omega)))
      go_wp2
      go_ret
      exact ⟨⟨true, rfl, by simp [HE.out]⟩, hG2.out⟩
set_option maxRecDepth 100000 in
set_option maxHeartbeats 4000000 in
theorem xEqualFn (v1 v2 : Value) (La Lb : List (List Pb)) (w : World) (h1 : RRow w v1 La) (h2 : RRow w v2 Lb) :
    Calls Tryz.prog 45 #[v1, v2, .func (.func 46) #[] #[]] w (PSmw La Lb w) := by
  have eg : ∀ args w, (callFunc 46 args).run Tryz.prog w = .ok (.enter 46 args) w := enters_of Tryz.func46 (by kernel_rfl) rfl
  obtain ⟨va, vc, rfl, hm1⟩ := h1.shape
  obtain ⟨ua, uc, rfl, hm2⟩ := h2.shape
  have HA := Lib.hid h1; have HB := Lib.hid h2
  clear h1 h2
  by_cases hlen : La.length = Lb.length
  case neg =>
    have e0 : ((La.length : Int) != (Lb.length : Int)) = true := by simp; omega
    have HN := Lib.hid (show ¬La = Lb from fun e => hlen (by rw [e]))
    clear hlen
    go_enter Tryz.func45, Tryz.ntmps45
    go_wp2
    go_ret
    exact ⟨⟨false, rfl, by simp [HN.out]⟩, World.grownBy.refl _ _⟩
  have HLL := Lib.hid hlen
  have e0 : ((La.length : Int) != (Lb.length : Int)) = false := by simp; omega
  clear hlen
  go_enter Tryz.func45, Tryz.ntmps45
  go_wp2
  clear e0
  go_loopw [17] (fun i wi => ∃ n : Nat, n ≤ La.length ∧ i = .int .i64 n ∧ Hid (∀ m, m < n → La[m]? = Lb[m]?) ∧ Hid (w.grownBy wi none)) (fun i _ => La.length - (intOf i).toNat)
  case atStart => exact ⟨0, Nat.zero_le _, rfl, Lib.hid (fun m hm => by omega), Lib.hid (World.grownBy.refl _ _)⟩
  case round =>
    obtain ⟨n, hn, rfl, hI2, hG2⟩ := hrel
    by_cases hnt : n < La.length
    · have hnt2 : n < Lb.length := by have := HLL.out; omega
      obtain ⟨b1, o1, c1, l1, u1, ev1, hx1, hb1, k1, p1⟩ := (HA.out.grown hG2.out).at n hnt
      obtain ⟨b2, o2, c2, l2, u2, ev2, hx2, hb2, k2, p2⟩ := (HB.out.grown hG2.out).at n hnt2
      injection ev1 with e1 e2 e3
      injection ev2 with f1 f2 f3
      subst e1 e3 f1 f3
      obtain ⟨a1, c1, rfl, hq1⟩ := p1.shape
      obtain ⟨a2, c2, rfl, hq2⟩ := p2.shape
      have CC := Lib.hid (xEqual _ _ l1 l2 wr p1 p2)
      have X1 := Lib.hid hx1; have X2 := Lib.hid hx2
      clear p1 p2 hx1 hx2 hb1 hb2 e2 f2
      go_wp2_with fail
      refine CC.out.mono ?_
      rintro e w3 ⟨⟨z, rfl, hz⟩, g3⟩
      have G3 := Lib.hid (hG2.out.trans g3)
      clear g3 CC
      cases z
      · have HN := Lib.hid (show ¬La = Lb from fun e => by
          have h1 := X1.out
          rw [e, X2.out] at h1
          have := hz.2 (Option.some.inj h1).symm
          cases this)
        clear hz
        go_wp2
        go_ret
        exact ⟨⟨false, rfl, by simp [HN.out]⟩, G3.out⟩
      · have HI := Lib.hid (show ∀ m, m < n + 1 → La[m]? = Lb[m]? from take_more hI2.out X1.out (by rw [X2.out, hz.1 rfl]))
        clear hz
        go_wp2
        go_roundw
        case rel => exact ⟨n + 1, hnt, by go_num, HI, G3⟩
        case measure => simp [intOf]; omega
    · have HE := Lib.hid (show La = Lb from take_all HLL.out (fun m hm => hI2.out m (by omega)))
      go_wp2
      go_ret
      exact ⟨⟨true, rfl, by simp [HE.out]⟩, hG2.out⟩
set_option maxHeartbeats 1000000 in
theorem xSame (v1 v2 : Value) (La Lb : List (List Pb)) (w : World) (h1 : RRow w v1 La) (h2 : RRow w v2 Lb) :
    Calls Tryz.prog 24 #[v1, v2] w (PSmw La Lb w) := by
  have C := Lib.hid (xEqualFn v1 v2 La Lb w h1 h2)
  obtain ⟨va, vc, rfl, hm1⟩ := h1.shape
  obtain ⟨ua, uc, rfl, hm2⟩ := h2.shape
  clear h1 h2
  go_enter Tryz.func24, Tryz.ntmps24
  go_wp2_with fail
  refine C.out.mono ?_
  rintro e w3 ⟨⟨z, rfl, hz⟩, g3⟩
  have Z := Lib.hid hz; have G := Lib.hid g3
  clear hz g3 C
  go_wp2
  go_ret
  exact ⟨⟨z, rfl, Z.out⟩, G.out⟩
end Go.Proofs.YtdganemgldocoaaGreatDoor

/- The chapter's example of layer 12; an error with its number and line; lines compared; the law LinesSplit, walked. -/
import Derived.Test.YtigjmaicolgalaaDoorLnWhere
import Derived.Laws.StructEq
namespace Go.Proofs.YtigjmaicolgalaaDoor
open Go.RowKit

def exL : ByteArray := ⟨#[97, 58, 32, 98, 32, 35, 32, 99, 10, 9, 120, 10]⟩
theorem ex_spl12 : spL exL.data.toList = .ok [⟨[97, 58, 32, 98], 1, false⟩, ⟨[120], 2, true⟩] := by rfl
theorem ba_ext12 {s t : ByteArray} (h : s.data.toList = t.data.toList) : s = t := by cases s; cases t; congr 1; exact Array.toList_inj.1 h
theorem ex_out12 {A : Nat → Addr} {w w' : World} {e : Ending} (h : PLns exL.data.toList A w e w') : w.grownBy w' none ∧ ∃ b off c, e = .returned (.tuple #[.slice (some ⟨b, off, none⟩) 2 c, .nilIface]) ∧
    w'.cell? ⟨b, off, none⟩ = some (.string ⟨#[97, 58, 32, 98]⟩) ∧ w'.cell? ⟨b, off + 3, none⟩ = some (.string ⟨#[120]⟩) ∧ w'.cell? ⟨b, off + 3 + 1, none⟩ = some (.int .i64 2) ∧ w'.cell? ⟨b, off + 3 + 2, none⟩ = some (.bool true) := by
  obtain ⟨g, h⟩ := h
  rw [ex_spl12] at h
  obtain ⟨v, O, rfl, hR, hO⟩ := h
  obtain ⟨x, y, rfl⟩ : ∃ x y, O = [x, y] := by
    have hl := congrArg List.length hO
    rw [List.length_map] at hl
    match O, hl with
    | [x, y], _ => exact ⟨x, y, rfl⟩
  simp only [lnQ, List.map_cons, List.map_nil, Lb.q, List.cons.injEq, Lq.mk.injEq, and_true] at hO
  obtain ⟨⟨x1, x2, x3⟩, y1, y2, y3⟩ := hO
  obtain ⟨a, c, rfl, -, hc⟩ := hR
  obtain ⟨b, off, rfl, -, hc⟩ := hc (by simp)
  have h0 := hc 0 x rfl
  have h1 := hc 1 y rfl
  rw [ba_ext12 (s := x.t) (t := ⟨#[97, 58, 32, 98]⟩) x1] at h0
  rw [ba_ext12 (s := y.t) (t := ⟨#[120]⟩) y1, y2, y3] at h1
  exact ⟨g, b, off, c, rfl, by simpa using h0.1, by simpa using h1.1, by simpa using h1.2.1, by simpa using h1.2.2⟩
set_option maxRecDepth 100000 in
theorem lAlive12 {A : Nat → Addr} {E : World → Prop} (C : LnC A E) (w : World) (hE : E w) : Calls Tryd.prog 7 #[] w fun e w' => e = .returned (.bool true) ∧ w.grownBy w' none := by
  have CS := Lib.hid (C.split exL w hE (by decide))
  clear hE
  go_enter Tryd.func7, Tryd.ntmps7
  go_wp2_with (go_at_call 8; refine CS.out.mono ?_; rintro e w1 hP; obtain ⟨g1, b, off, c, rfl, C0, C1, C2, C3⟩ := ex_out12 hP; have G1 := Lib.hid g1; clear g1 hP)
  go_ret
  exact ⟨rfl, G1.out⟩
set_option maxRecDepth 100000 in
theorem lSame0 (w : World) : Calls Tryd.prog 10 #[.nilIface, .int .i64 0, .int .i64 0] w fun e w' => e = .returned (.bool true) ∧ w.grownBy w' none := by
  go_enter Tryd.func10, Tryd.ntmps10
  go_wp2_with (first
    | (go_at_call 17; refine (wpn_nil _).mono ?_; rintro e w1 ⟨rfl, g1⟩; have G1 := Lib.hid g1; clear g1)
    | (go_at_call 20; refine (lNum0 _).mono ?_; rintro e w2 ⟨rfl, g2⟩; have G2 := Lib.hid (G1.out.trans g2); clear g2))
  go_ret
  exact ⟨rfl, G2.out⟩
set_option maxRecDepth 100000 in
theorem lSameF (A : Nat → Addr) (bad line : Nat) (q : Nat) (w : World) (hE : LEnv A w) (h1 : 1 ≤ bad) (h2 : bad ≤ 18) (hF : FltAt w q line (errV A bad)) :
    Calls Tryd.prog 10 #[fltV q, .int .i64 bad, .int .i64 line] w fun e w' => e = .returned (.bool true) ∧ w.grownBy w' none := by
  have HE := Lib.hid hE
  have HF := Lib.hid hF
  have hne : ((bad : Int) != 0) = true := by simp; omega
  clear hE hF
  go_enter Tryd.func10, Tryd.ntmps10
  go_wp2_with (first
    | (go_at_call 17; refine (wpn_flt q line _ _ HE.out.2 HF.out).mono ?_; rintro e w1 ⟨rfl, g1⟩; have G1 := Lib.hid g1; clear g1)
    | (go_at_call 20; refine (lNumF A bad h1 h2 q line _ (HE.out.grown G1.out).1 (HF.out.grown G1.out)).mono ?_; rintro e w2 ⟨rfl, g2⟩; have G2 := Lib.hid (G1.out.trans g2); clear g2))
  go_ret
  exact ⟨by simp, G2.out⟩

def eqLb (f g : Lb) : Bool := f.t.toList == g.t.toList && (f.n : Int) == (g.n : Int) && f.r == g.r
theorem eqLb_self (f : Lb) : eqLb f f = true := by unfold eqLb; simp
theorem lb_ext {f g : Lb} (h : f.q = g.q) : f = g := by
  cases f; cases g
  simp only [Lb.q, Lq.mk.injEq] at h
  obtain ⟨h1, h2, h3⟩ := h
  rw [ba_ext12 h1, h2, h3]
theorem lnQ_inj : ∀ {a b : List Lb}, lnQ a = lnQ b → a = b
  | [], [], _ => rfl
  | [], _ :: _, h => by simp at h
  | _ :: _, [], h => by simp at h
  | x :: a, y :: b, h => by
    simp only [lnQ, List.map_cons, List.cons.injEq] at h
    rw [lb_ext h.1, lnQ_inj h.2]
theorem guardLn (op : BinOp) (x y : Operand) (xs ys : Array Value) (w : World) : (eqGuard op 34 x y (.agg xs) (.agg ys)).run Tryd.prog w = .ok () w := run_eqGuard_agg w op _ x y xs ys (by kernel_rfl)
theorem eqlLn (f g : Lb) (w : World) : (binOp .eql 34 (.agg #[.string f.t, .int .i64 f.n, .bool f.r]) (.agg #[.string g.t, .int .i64 g.n, .bool g.r])).run Tryd.prog w = .ok (.bool (eqLb f g)) w := by
  have hS : Tryd.prog.underlying 34 = some (.struct (Tryd.prog.fieldsOf 34)) := by kernel_rfl
  have hp : Tryd.prog.stoodInHeld 34 = false := by kernel_rfl
  have u3 := Tryd.underlying3
  have a3 := Tryd.isAgg3
  have z3 := Tryd.sizeOf3
  have u9 := Tryd.underlying9
  have a9 := Tryd.isAgg9
  have z9 := Tryd.sizeOf9
  have u4 := Tryd.underlying4
  have a4 := Tryd.isAgg4
  have z4 := Tryd.sizeOf4
  rw [run_eql_struct, show (10000 : Nat) = 9999 + 1 from rfl, run_equalIn_agg w 9999 _ _ _ hS hp]
  simp only [Program.fieldsOf, Tryd.underlying34]
  go_simp
  unfold eqLb
  by_cases h1 : (f.t.toList == g.t.toList) = true <;> by_cases h2 : ((f.n : Int) == (g.n : Int)) = true <;> by_cases h3 : (f.r == g.r) = true <;> simp_all
theorem neqLn (f g : Lb) (w : World) : (binOp .neq 34 (.agg #[.string f.t, .int .i64 f.n, .bool f.r]) (.agg #[.string g.t, .int .i64 g.n, .bool g.r])).run Tryd.prog w = .ok (.bool (!eqLb f g)) w := by
  have h := eqlLn f g w
  rw [run_eql_struct] at h
  rw [run_neq_struct]
  cases hr : (Op.equalIn 10000 34 (.agg #[.string f.t, .int .i64 f.n, .bool f.r]) (.agg #[.string g.t, .int .i64 g.n, .bool g.r])).run Tryd.prog w with
  | ok b w1 =>
    rw [hr] at h
    simp only [Result.andThen, Result.ok.injEq, Value.bool.injEq] at h ⊢
    exact ⟨by rw [h.1], h.2⟩
  | halt x w1 => rw [hr] at h; simp [Result.andThen] at h
/-- what Split of the program answers, said in one -/
def RelL (l : List UInt8) (A : Nat → Addr) (w : World) (O : List Lb) (ev : Value) : Prop :=
  (spL l = .ok (lnQ O) ∧ ev = .nilIface) ∨ ∃ bad line q, spL l = .error (bad, line) ∧ O = [] ∧ ev = fltV q ∧ FltAt w q line (errV A bad)
theorem RelL.grown {l : List UInt8} {A : Nat → Addr} {w w' : World} {O : List Lb} {ev : Value} (h : RelL l A w O ev) (hg : w.grownBy w' none) : RelL l A w' O ev := by
  rcases h with h | ⟨bad, line, q, h1, h2, h3, h4⟩
  · exact .inl h
  · exact .inr ⟨bad, line, q, h1, h2, h3, h4.grown hg⟩
theorem lns_one {l : List UInt8} {A : Nat → Addr} {w w1 : World} {e1 : Ending} (h1 : PLns l A w e1 w1) :
    w.grownBy w1 none ∧ ∃ a c O ev, e1 = .returned (.tuple #[.slice a (List.length O) c, ev]) ∧ LnRow w1 (.slice a (List.length O) c) O ∧ RelL l A w1 O ev := by
  obtain ⟨g1, h1⟩ := h1
  refine ⟨g1, ?_⟩
  cases hs : spL l with
  | ok L =>
    rw [hs] at h1
    obtain ⟨v1, O1, rfl, hR1, rfl⟩ := h1
    obtain ⟨a, c, rfl, hR⟩ := hR1
    exact ⟨a, c, O1, _, rfl, ⟨a, c, rfl, hR⟩, .inl ⟨hs, rfl⟩⟩
  | error p =>
    obtain ⟨bad, line⟩ := p
    rw [hs] at h1
    obtain ⟨a, c, q, rfl, hF⟩ := h1
    exact ⟨a, c, [], _, rfl, ⟨a, c, rfl, by decide, fun h => absurd rfl h⟩, .inr ⟨bad, line, q, hs, rfl, rfl, hF⟩⟩
theorem lns_next {l : List UInt8} {A : Nat → Addr} {w w1 w2 : World} {e2 : Ending} {O : List Lb} {ev : Value} (h : RelL l A w O ev) (h2 : LnsOut l w1 e2 w2) (hl : l.length ≤ 5000) :
    w1.grownBy w2 none ∧ ∃ a c, ∃ bad line : Nat, e2 = .returned (.tuple #[.slice a O.length c, .int .i64 bad, .int .i64 line]) ∧ LnRow w2 (.slice a O.length c) O ∧
      ((bad = 0 ∧ line = 0 ∧ ev = .nilIface) ∨ ∃ q, 1 ≤ bad ∧ bad ≤ 18 ∧ ev = fltV q ∧ FltAt w q line (errV A bad)) := by
  obtain ⟨h2, g2⟩ := h2
  refine ⟨g2, ?_⟩
  rcases h with ⟨hs, rfl⟩ | ⟨bad, line, q, hs, rfl, rfl, hF⟩
  · rw [hs] at h2
    obtain ⟨v2, O2, rfl, hR2, hO2, hn⟩ := h2
    obtain rfl := lnQ_inj hO2
    obtain ⟨a, c, rfl, hR⟩ := ln_row hR2 rfl (by omega)
    exact ⟨a, c, 0, 0, rfl, ⟨a, c, rfl, hR⟩, .inl ⟨rfl, rfl, rfl⟩⟩
  · rw [hs] at h2
    subst h2
    have hb := spL_bad hs
    exact ⟨none, 0, bad, line, rfl, ⟨none, 0, rfl, by decide, fun h => absurd rfl h⟩, .inr ⟨q, by omega, by omega, rfl, hF⟩⟩
theorem lSameV {A : Nat → Addr} {ev : Value} {bad line : Nat} {w : World} (hE : LEnv A w) (h : (bad = 0 ∧ line = 0 ∧ ev = .nilIface) ∨ ∃ q, 1 ≤ bad ∧ bad ≤ 18 ∧ ev = fltV q ∧ FltAt w q line (errV A bad)) (W : World) (hg : w.grownBy W none) :
    Calls Tryd.prog 10 #[ev, .int .i64 bad, .int .i64 line] W fun e w' => e = .returned (.bool true) ∧ W.grownBy w' none := by
  rcases h with ⟨rfl, rfl, rfl⟩ | ⟨q, h1, h2, rfl, hF⟩
  · exact lSame0 W
  · exact lSameF A bad line q W (hE.grown hg) h1 h2 (hF.grown hg)
set_option maxRecDepth 100000 in
set_option maxHeartbeats 4000000 in
theorem lLinesSplit {A : Nat → Addr} {E : World → Prop} (C : LnC A E) (s : ByteArray) (w : World) (hS : E w) (hE : LEnv A w) :
    Calls Tryd.prog 3 #[.string s] w fun e w' => e = .returned (.bool true) ∧ w.grownBy w' none := by
  have CA := Lib.hid (lAlive12 C w hS)
  have HE := Lib.hid hE
  have HS := Lib.hid hS
  have HC := Lib.hid C
  clear hE hS C
  go_enter Tryd.func3, Tryd.ntmps3
  by_cases h5 : 5000 < s.size
  · go_wp2_with (go_at_call 7; refine CA.out.mono ?_; rintro e w1 ⟨rfl, g1⟩; have G1 := Lib.hid g1; clear g1)
    go_ret
    exact ⟨rfl, G1.out⟩
  have hs : s.size ≤ 5000 := by omega
  have HL := Lib.hid (show s.data.toList.length ≤ 5000 by simpa using hs)
  have HLL := Lib.hid (show (linQ s.data.toList).length ≤ 5000 by have := linQ_len s.data.toList; simp at this; omega)
  go_wp2_with (first
    | (go_at_call 7; refine CA.out.mono ?_; rintro e w1 ⟨rfl, g1⟩; have G1 := Lib.hid g1; clear g1)
    | (go_at_call 8; refine (HC.out.split s _ (HC.out.gr _ _ HS.out G1.out) hs).mono ?_; rintro e w2 h2; obtain ⟨g2, a1, c1, O, ev, rfl, hR, hRel⟩ := lns_one h2; have G2 := Lib.hid (G1.out.trans g2); have R2 := Lib.hid hR; have L2 := Lib.hid hRel; clear h2 g2 hR hRel)
    | (go_at_call 9; refine (dLSplit s _ hs).mono ?_; rintro e w3 h3; obtain ⟨g3, a2, c2, bad, line, rfl, hR, hc⟩ := lns_next L2.out h3 HL.out; have G3 := Lib.hid (G2.out.trans g3); have R3 := Lib.hid (R2.out.grown g3); have Q3 := Lib.hid hR; have CSM := Lib.hid (fun W (hg : _) => lSameV (HE.out.grown G2.out) hc W hg); have GG := Lib.hid g3; clear h3 g3 hR hc)
    | (go_at_call 10; refine (CSM.out _ GG.out).mono ?_; rintro e w4 ⟨rfl, g4⟩; have G4 := Lib.hid (G3.out.trans g4); have R4 := Lib.hid (R3.out.grown g4); have Q4 := Lib.hid (Q3.out.grown g4); clear g4))
  have hOb : O.length ≤ 9223372036854775807 := by obtain ⟨_, _, _, h, _⟩ := R4.out; exact h
  clear CSM GG R2 R3 Q3 L2 CA
  go_loopw [8, 40] (fun _ i wr => ∃ k : Nat, k ≤ O.length ∧ i = .int .i64 k ∧ Hid (w4.grownBy wr none)) (fun _ i _ => O.length - (intOf i).toNat)
  case atStart => exact ⟨0, Nat.zero_le _, rfl, Lib.hid (World.grownBy.refl _ _)⟩
  case round =>
    obtain ⟨k, hk, rfl, hG⟩ := hrel
    by_cases hlt : k < O.length
    · obtain ⟨b1, o1, c1', x, e1, hx, hb1, x0, x1, x2⟩ := (R4.out.grown hG.out).at k hlt
      obtain ⟨b2, o2, c2', y, e2, hy, hb2, y0, y1, y2⟩ := (Q4.out.grown hG.out).at k hlt
      cases e1
      cases e2
      obtain rfl : x = y := Option.some.inj (hx.symm.trans hy)
      have hq := neqLn x x
      rw [eqLb_self] at hq
      have X0 := Lib.hid hx
      have gG := guardLn
      clear hx hy
      go_wp2
      go_quiet (fail)
      go_wp2
      go_roundw
      case rel => exact ⟨k + 1, by omega, by go_num, Lib.hid (grown_drewN (hG.out.trans (World.grownBy_alloc _ _ _)) _)⟩
      case measure => simp [intOf]; omega
    · go_wp2_with (first
        | (go_at_call 11; refine (HC.out.count s _ (HC.out.gr _ _ HS.out (G4.out.trans hG.out)) hs).mono ?_; rintro e w5 ⟨rfl, g5⟩; have G5 := Lib.hid (hG.out.trans g5); clear g5)
        | (go_at_call 12; refine (dLines s _ hs).mono ?_; rintro e w6 ⟨⟨v6, O6, rfl, hR6, hL6⟩, g6⟩; obtain ⟨va6, vc6, rfl⟩ := tx_shape hR6; have hl6 : O6.length = (linQ s.data.toList).length := by rw [← hL6]; simp
           have G6 := Lib.hid (G5.out.trans g6); clear g6 hR6 hL6)
        | (go_at_call 13; refine (HC.out.comment s _ (HC.out.gr _ _ HS.out (G4.out.trans G6.out)) hs).mono ?_; rintro e w7 ⟨rfl, g7⟩; have G7 := Lib.hid (G6.out.trans g7); clear g7)
        | (go_at_call 14; refine (dComment s _ hs).mono ?_; rintro e w8 ⟨rfl, rfl⟩))
      go_ret
      exact ⟨by simp, G4.out.trans G7.out⟩
end Go.Proofs.YtigjmaicolgalaaDoor

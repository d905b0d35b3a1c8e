/- What layer 18's laws list: the errors, the flags' letters. Attributes that came in. -/
import Derived.Test.YtdganemgldocoaaGreatDoorLaidErr
import Derived.Test.YtdganemgldocoaaGreatDoorLaidMax
import Derived.Test.YtdganemgldocoaaGreatDoorAtPar
import Derived.OpenShut
import Derived.Laws.IdiomArrays
import Derived.Deep.Slices
namespace Go.Proofs.YtdganemgldocoaaGreatDoor
open Go.RowKit Go.Maps Go.ChangeShapes Go.WideShapes Go.Deep

theorem cellsLet : Tryz.prog.cellsOf 200 = 16 := by kernel_rfl
theorem cellsLet1 : Tryz.prog.cellsOf 199 = 2 := by kernel_rfl
theorem cellsU8A : Tryz.prog.cellsOf 5 = 1 := by kernel_rfl
theorem cellsAtt : Tryz.prog.cellsOf 44 = 2 := by kernel_rfl
def letD {H : Type} : DataW H := .agg [.agg [.lit (.int .u8 68), .lit (.int .i64 1)], .agg [.lit (.int .u8 69), .lit (.int .i64 2)], .agg [.lit (.int .u8 78), .lit (.int .i64 4)], .agg [.lit (.int .u8 110), .lit (.int .i64 8)],
  .agg [.lit (.int .u8 81), .lit (.int .i64 16)], .agg [.lit (.int .u8 82), .lit (.int .i64 32)], .agg [.lit (.int .u8 85), .lit (.int .i64 64)], .agg [.lit (.int .u8 86), .lit (.int .i64 128)]]
theorem one_let {H : Type} {enc : TypeId × Value → H} {w : World} {base : Nat} {spare : Nat → Bool} {held : Bool} {fuel : Nat} {c0 c1 : Value} {x : DataW H × List MemPlace} {a b : Int}
    (h : DataW.trod enc Tryz.prog w base spare held fuel 199 [c0, c1] = some x) (hx : x.1 = .agg [.lit (.int .u8 a), .lit (.int .i64 b)]) : c0 = .int .u8 a ∧ c1 = .int .i64 b := by
  obtain ⟨xs, n, -, rfl, -, hl, hf⟩ := DataW.trod_struct Tryz.underlying199 h
  match xs, hl with
  | [x0, x1], _ =>
    have h0 : DataW.trod enc Tryz.prog w base spare held n 5 (([c0, c1].drop 0).take (Tryz.prog.cellsOf 5)) = some x0 := hf 0 _ rfl
    have h1 : DataW.trod enc Tryz.prog w base spare held n 3 (([c0, c1].drop 1).take (Tryz.prog.cellsOf 3)) = some x1 := hf 1 _ rfl
    rw [cellsU8A] at h0
    rw [cellsInt] at h1
    obtain ⟨n0, e0, rfl, -⟩ := DataW.trod_int Tryz.underlying5 h0
    obtain ⟨n1, e1, rfl, -⟩ := DataW.trod_int Tryz.underlying3 h1
    simp at hx e0 e1
    exact ⟨by rw [e0, hx.1], by rw [e1, hx.2]⟩
set_option maxRecDepth 100000 in
set_option maxHeartbeats 1000000 in
theorem let_cells {H : Type} {enc : TypeId × Value → H} {w : World} {base : Nat} {spare : Nat → Bool} {held : Bool} {fuel : Nat} {cs : List Value} {p : List MemPlace}
    (h : DataW.trod enc Tryz.prog w base spare held fuel 200 cs = some (letD, p)) : cs = letL := by
  obtain ⟨xs, m, -, hx, hl, hxl, hf⟩ := DataW.trod_array Tryz.underlying200 h
  rw [cellsLet] at hl
  rw [cellsLet1] at hf
  match cs, hl, xs, hxl with
  | [c0, c1, c2, c3, c4, c5, c6, c7, c8, c9, c10, c11, c12, c13, c14, c15], _, [x0, x1, x2, x3, x4, x5, x6, x7], _ =>
    have h0 : DataW.trod enc Tryz.prog w base spare held m _ [c0, c1] = some x0 := hf 0 (by decide)
    have h1 : DataW.trod enc Tryz.prog w base spare held m _ [c2, c3] = some x1 := hf 1 (by decide)
    have h2 : DataW.trod enc Tryz.prog w base spare held m _ [c4, c5] = some x2 := hf 2 (by decide)
    have h3 : DataW.trod enc Tryz.prog w base spare held m _ [c6, c7] = some x3 := hf 3 (by decide)
    have h4 : DataW.trod enc Tryz.prog w base spare held m _ [c8, c9] = some x4 := hf 4 (by decide)
    have h5 : DataW.trod enc Tryz.prog w base spare held m _ [c10, c11] = some x5 := hf 5 (by decide)
    have h6 : DataW.trod enc Tryz.prog w base spare held m _ [c12, c13] = some x6 := hf 6 (by decide)
    have h7 : DataW.trod enc Tryz.prog w base spare held m _ [c14, c15] = some x7 := hf 7 (by decide)
    have hd := congrArg Prod.fst hx
    simp only [letD, List.map_cons, List.map_nil, DataW.agg.injEq, List.cons.injEq, and_true] at hd
    obtain ⟨d0, d1, d2, d3, d4, d5, d6, d7⟩ := hd
    obtain ⟨rfl, rfl⟩ := one_let h0 d0.symm
    obtain ⟨rfl, rfl⟩ := one_let h1 d1.symm
    obtain ⟨rfl, rfl⟩ := one_let h2 d2.symm
    obtain ⟨rfl, rfl⟩ := one_let h3 d3.symm
    obtain ⟨rfl, rfl⟩ := one_let h4 d4.symm
    obtain ⟨rfl, rfl⟩ := one_let h5 d5.symm
    obtain ⟨rfl, rfl⟩ := one_let h6 d6.symm
    obtain ⟨rfl, rfl⟩ := one_let h7 d7.symm
    rfl
def isLetV (x : String × DataW Unit) : Bool := x.1 == "millwright/attr.letters"
set_option maxRecDepth 100000 in
theorem let_of_laid {W : World} (h : laidMet Tryz.prog [("millwright/attr.letters", letD)] W) : LetE W := by
  obtain ⟨ps, ⟨g, t, cs, fuel, p, q, hg, ht, hv, hd, _, _⟩, _⟩ := h
  obtain rfl := Option.some.inj ((show Tryz.prog.globalNamed "millwright/attr.letters" = some 22 by kernel_rfl).symm.trans hg)
  obtain rfl := Option.some.inj ((show (Tryz.prog.globals[22]?).map (·.type) = some 200 by kernel_rfl).symm.trans ht)
  obtain ⟨l0⟩ := cs
  obtain rfl := let_cells hd
  have c := World.var?_cell hg hv
  intro i v hi
  have h1 := c i
  rw [List.getElem?_toArray, hi] at h1
  exact h1
/-- the two errors of Parse -/
def twoSn : List Sn := allSn.filter fun q => q.num == 2 || q.num == 7
theorem twoSn_ok : ∀ q ∈ twoSn, q.ok := fun q hq => allSn_ok q (List.mem_filter.1 hq).1
theorem two_at2 : ∃ q ∈ twoSn, q.num = 2 ∧ q.g = 0 := by decide
theorem two_at7 : ∃ q ∈ twoSn, q.num = 7 ∧ q.g = 7 := by decide
theorem at_env {A : Nat → Addr} {W : World} {E : List Sn} (hE : ∀ q ∈ E, SentAt A W q) (h2 : ∀ q ∈ twoSn, q ∈ E) (hT : LetE W) (hM : MaxI W) : AtE A W := by
  obtain ⟨q, hq, e1, e2⟩ := two_at2
  obtain ⟨r, hr, f1, f2⟩ := two_at7
  have k2 := (hE q (h2 q hq)).1
  have k7 := (hE r (h2 r hr)).1
  rw [e1, e2] at k2
  rw [f1, f2] at k7
  exact ⟨hT, hM, k7, k2⟩
theorem two_in : ∀ q ∈ twoSn, q ∈ allSn := fun _ h => (List.mem_filter.1 h).1
section
variable {H : Type} {enc : TypeId × Value → H} {w : World}
set_option maxRecDepth 100000 in
theorem at_of_trod {fuel : Nat} {cs : List Value} {x : DataW H × List MemPlace} (h : DataW.trod enc Tryz.prog w 0 (fun _ => true) true fuel 44 cs = some x) : ∃ (f : Int) (p : ByteArray), cs = [.int .i64 f, .string p] ∧ -9223372036854775808 ≤ f ∧ f ≤ 9223372036854775807 := by
  obtain ⟨xs, n, _, _, hlen, hxs, hf⟩ := DataW.trod_struct Tryz.underlying44 h
  rw [cellsAtt] at hlen
  match cs, hlen with
  | [c0, c1], _ =>
    match xs, hxs with
    | [x0, x1], _ =>
      have h0 : DataW.trod enc Tryz.prog w 0 (fun _ => true) true n 3 (([c0, c1].drop 0).take (Tryz.prog.cellsOf 3)) = some x0 := hf 0 _ rfl
      have h1 : DataW.trod enc Tryz.prog w 0 (fun _ => true) true n 9 (([c0, c1].drop 1).take (Tryz.prog.cellsOf 9)) = some x1 := hf 1 _ rfl
      rw [cellsInt] at h0
      rw [cellsStr] at h1
      obtain ⟨n0, e0, _, hw⟩ := DataW.trod_int Tryz.underlying3 h0
      obtain ⟨s1, e1, _, _⟩ := DataW.trod_string Tryz.underlying9 h1
      have e0' : [c0] = [Value.int .i64 n0] := e0
      have e1' : [c1] = [Value.string s1] := e1
      rw [List.cons.injEq] at e0' e1'
      unfold Lit.wf at hw
      rw [Bool.and_eq_true, decide_eq_true_eq, decide_eq_true_eq] at hw
      exact ⟨n0, s1, by rw [e0'.1, e1'.1], hw⟩
end
end Go.Proofs.YtdganemgldocoaaGreatDoor

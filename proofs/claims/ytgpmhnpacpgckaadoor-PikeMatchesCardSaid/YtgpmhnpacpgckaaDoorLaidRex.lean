/- What the listed variables hold when a law of layer 7 begins: errors, the table of the signs behind an atom, the kinds' words. -/
import Derived.Test.YtgpmhnpacpgckaaDoorLaidX
import Derived.Test.YtgpmhnpacpgckaaDoorRexV
import Derived.OpenShut
namespace Go.Proofs.YtgpmhnpacpgckaaDoor
open Go.RowKit Go.Maps Go.ChangeShapes Go.WideShapes Go.Deep

theorem cellsRep : Tryd.prog.cellsOf 119 = 6 := by kernel_rfl
theorem cellsRep1 : Tryd.prog.cellsOf 118 = 2 := by kernel_rfl
theorem cellsU8' : Tryd.prog.cellsOf 5 = 1 := by kernel_rfl
def repD {H : Type} : DataW H := .agg [.agg [.lit (.int .u8 42), .lit (.int .i64 4)], .agg [.lit (.int .u8 43), .lit (.int .i64 5)], .agg [.lit (.int .u8 63), .lit (.int .i64 6)]]
theorem one_rep {H : Type} {enc : TypeId × Value → H} {w : World} {base : Nat} {spare : Nat → Bool} {held : Bool} {fuel : Nat} {c0 c1 : Value} {x : DataW H × List MemPlace} {a b : Int}
    (h : DataW.trod enc Tryd.prog w base spare held fuel 118 [c0, c1] = some x) (hx : x.1 = .agg [.lit (.int .u8 a), .lit (.int .i64 b)]) : c0 = .int .u8 a ∧ c1 = .int .i64 b := by
  obtain ⟨xs, n, -, rfl, -, hl, hf⟩ := DataW.trod_struct Tryd.underlying118 h
  match xs, hl with
  | [x0, x1], _ =>
    have h0 : DataW.trod enc Tryd.prog w base spare held n 5 (([c0, c1].drop 0).take (Tryd.prog.cellsOf 5)) = some x0 := hf 0 _ rfl
    have h1 : DataW.trod enc Tryd.prog w base spare held n 3 (([c0, c1].drop 1).take (Tryd.prog.cellsOf 3)) = some x1 := hf 1 _ rfl
    rw [cellsU8'] at h0
    rw [cellsInt] at h1
    obtain ⟨n0, e0, rfl, -⟩ := DataW.trod_int Tryd.underlying5 h0
    obtain ⟨n1, e1, rfl, -⟩ := DataW.trod_int Tryd.underlying3 h1
    simp at hx e0 e1
    exact ⟨by rw [e0, hx.1], by rw [e1, hx.2]⟩
set_option maxRecDepth 100000 in
theorem rep_cells {H : Type} {enc : TypeId × Value → H} {w : World} {base : Nat} {spare : Nat → Bool} {held : Bool} {fuel : Nat} {cs : List Value} {p : List MemPlace}
    (h : DataW.trod enc Tryd.prog w base spare held fuel 119 cs = some (repD, p)) : cs = [.int .u8 42, .int .i64 4, .int .u8 43, .int .i64 5, .int .u8 63, .int .i64 6] := by
  obtain ⟨xs, m, -, hx, hl, hxl, hf⟩ := DataW.trod_array Tryd.underlying119 h
  rw [cellsRep] at hl
  rw [cellsRep1] at hf
  match cs, hl, xs, hxl with
  | [c0, c1, c2, c3, c4, c5], _, [x0, x1, x2], _ =>
    have h0 : DataW.trod enc Tryd.prog w base spare held m _ [c0, c1] = some x0 := hf 0 (by decide)
    have h1 : DataW.trod enc Tryd.prog w base spare held m _ [c2, c3] = some x1 := hf 1 (by decide)
    have h2 : DataW.trod enc Tryd.prog w base spare held m _ [c4, c5] = some x2 := hf 2 (by decide)
    have hd := congrArg Prod.fst hx
    simp only [repD, List.map_cons, List.map_nil, DataW.agg.injEq, List.cons.injEq, and_true] at hd
    obtain ⟨d0, d1, d2⟩ := hd
    obtain ⟨rfl, rfl⟩ := one_rep h0 d0.symm
    obtain ⟨rfl, rfl⟩ := one_rep h1 d1.symm
    obtain ⟨rfl, rfl⟩ := one_rep h2 d2.symm
    rfl
def isRepV (x : String × DataW Unit) : Bool := x.1 == "millwright/rex.repeats"
set_option maxRecDepth 100000 in
theorem rep_of_laid {W : World} (h : laidMet Tryd.prog [("millwright/rex.repeats", repD)] W) : RepEnv W := by
  obtain ⟨ps, ⟨g, t, cs, fuel, p, q, hg, ht, hv, hd, _, _⟩, _⟩ := h
  obtain rfl := Option.some.inj ((show Tryd.prog.globalNamed "millwright/rex.repeats" = some 4 by kernel_rfl).symm.trans hg)
  obtain rfl := Option.some.inj ((show (Tryd.prog.globals[4]?).map (·.type) = some 119 by kernel_rfl).symm.trans ht)
  obtain ⟨l0⟩ := cs
  obtain rfl := rep_cells hd
  have c := World.var?_cell hg hv
  exact ⟨by simpa using c 0, by simpa using c 1, by simpa using c 2, by simpa using c 3, by simpa using c 4, by simpa using c 5⟩
/-- what Parse reads, of what a law lists -/
theorem penv_of_laid {W : World} {L : List (String × DataW Unit)} (E : List Sn) (hnum : (E.map Sn.num).Nodup) (hok : ∀ q ∈ E, q.ok) (h3 : ∀ x ∈ L3, ∃ q ∈ E, (q.num, q.g) = x)
    (h1 : L.filter (fun x => E.any fun q => q.name == x.1) = E.map Sn.laid) (h2 : L.filter isRepV = [("millwright/rex.repeats", repD)]) (h : laidMet Tryd.prog L W) :
    ∃ A, PEnv A W ∧ (∀ q ∈ E, SentAt A W q) ∧ ∀ q ∈ E, ∀ r ∈ E, q.num ≠ r.num → A q.num ≠ A r.num := by
  have he := h.filter (fun x => E.any fun q => q.name == x.1)
  have hp := h.filter isRepV
  rw [h1] at he
  rw [h2] at hp
  obtain ⟨A, hA, hne⟩ := sents_of_laid (L := E) hnum hok he
  refine ⟨A, ⟨fun x hx => ?_, rep_of_laid hp⟩, hA, hne⟩
  obtain ⟨q, hq, rfl⟩ := h3 x hx
  exact (hA q hq).1
end Go.Proofs.YtgpmhnpacpgckaaDoor

/- What RexSame lists: the kinds' words besides. -/
import Derived.Test.YtonbcldhbinmeaaDoorLaidRex
import Derived.Test.YtonbcldhbinmeaaDoorRexWord
namespace Go.Proofs.YtonbcldhbinmeaaDoor
open Go.RowKit Go.Maps Go.ChangeShapes Go.WideShapes Go.Deep

theorem cellsWords : Tryd.prog.cellsOf 68 = 10 := by kernel_rfl
theorem cellsStr' : Tryd.prog.cellsOf 9 = 1 := by kernel_rfl
def wordsD {H : Type} : DataW H := .agg [.lit (.string [101, 109, 112, 116, 121]), .lit (.string [111, 110, 101]), .lit (.string [99, 97, 116]), .lit (.string [97, 108, 116]), .lit (.string [115, 116, 97, 114]), .lit (.string [112, 108, 117, 115]), .lit (.string [109, 97, 121, 98, 101]), .lit (.string [103, 114, 111, 117, 112]), .lit (.string [98, 101, 103, 105, 110]), .lit (.string [101, 110, 100])]
theorem one_word {H : Type} {enc : TypeId × Value → H} {w : World} {base : Nat} {spare : Nat → Bool} {held : Bool} {fuel : Nat} {c : Value} {x : DataW H × List MemPlace} {b : List UInt8}
    (h : DataW.trod enc Tryd.prog w base spare held fuel 9 [c] = some x) (hx : x.1 = .lit (.string b)) : c = .string ⟨b.toArray⟩ := by
  obtain ⟨s, e, rfl, -⟩ := DataW.trod_string Tryd.underlying9 h
  simp at hx e
  subst hx
  rw [e]
set_option maxRecDepth 100000 in
theorem words_cells {H : Type} {enc : TypeId × Value → H} {w : World} {base : Nat} {spare : Nat → Bool} {held : Bool} {fuel : Nat} {cs : List Value} {p : List MemPlace}
    (h : DataW.trod enc Tryd.prog w base spare held fuel 68 cs = some (wordsD, p)) : cs = [.string ⟨#[101, 109, 112, 116, 121]⟩, .string ⟨#[111, 110, 101]⟩, .string ⟨#[99, 97, 116]⟩, .string ⟨#[97, 108, 116]⟩, .string ⟨#[115, 116, 97, 114]⟩, .string ⟨#[112, 108, 117, 115]⟩, .string ⟨#[109, 97, 121, 98, 101]⟩, .string ⟨#[103, 114, 111, 117, 112]⟩, .string ⟨#[98, 101, 103, 105, 110]⟩, .string ⟨#[101, 110, 100]⟩] := by
  obtain ⟨xs, m, -, hx, hl, hxl, hf⟩ := DataW.trod_array Tryd.underlying68 h
  rw [cellsWords] at hl
  rw [cellsStr'] at hf
  match cs, hl, xs, hxl with
  | [c0, c1, c2, c3, c4, c5, c6, c7, c8, c9], _, [x0, x1, x2, x3, x4, x5, x6, x7, x8, x9], _ =>
    have hd := congrArg Prod.fst hx
    simp only [wordsD, List.map_cons, List.map_nil, DataW.agg.injEq, List.cons.injEq, and_true] at hd
    obtain ⟨d0, d1, d2, d3, d4, d5, d6, d7, d8, d9⟩ := hd
    obtain rfl := one_word (show DataW.trod enc Tryd.prog w base spare held m _ [c0] = some x0 from hf 0 (by decide)) d0.symm
    obtain rfl := one_word (show DataW.trod enc Tryd.prog w base spare held m _ [c1] = some x1 from hf 1 (by decide)) d1.symm
    obtain rfl := one_word (show DataW.trod enc Tryd.prog w base spare held m _ [c2] = some x2 from hf 2 (by decide)) d2.symm
    obtain rfl := one_word (show DataW.trod enc Tryd.prog w base spare held m _ [c3] = some x3 from hf 3 (by decide)) d3.symm
    obtain rfl := one_word (show DataW.trod enc Tryd.prog w base spare held m _ [c4] = some x4 from hf 4 (by decide)) d4.symm
    obtain rfl := one_word (show DataW.trod enc Tryd.prog w base spare held m _ [c5] = some x5 from hf 5 (by decide)) d5.symm
    obtain rfl := one_word (show DataW.trod enc Tryd.prog w base spare held m _ [c6] = some x6 from hf 6 (by decide)) d6.symm
    obtain rfl := one_word (show DataW.trod enc Tryd.prog w base spare held m _ [c7] = some x7 from hf 7 (by decide)) d7.symm
    obtain rfl := one_word (show DataW.trod enc Tryd.prog w base spare held m _ [c8] = some x8 from hf 8 (by decide)) d8.symm
    obtain rfl := one_word (show DataW.trod enc Tryd.prog w base spare held m _ [c9] = some x9 from hf 9 (by decide)) d9.symm
    rfl
def isWordV (x : String × DataW Unit) : Bool := x.1 == "millwright/rex.words"
set_option maxRecDepth 100000 in
theorem words_of_laid {W : World} (h : laidMet Tryd.prog [("millwright/rex.words", wordsD)] W) : WordEnv W := by
  obtain ⟨ps, ⟨g, t, cs, fuel, p, q, hg, ht, hv, hd, _, _⟩, _⟩ := h
  obtain rfl := Option.some.inj ((show Tryd.prog.globalNamed "millwright/rex.words" = some 3 by kernel_rfl).symm.trans hg)
  obtain rfl := Option.some.inj ((show (Tryd.prog.globals[3]?).map (·.type) = some 68 by kernel_rfl).symm.trans ht)
  obtain ⟨l0⟩ := cs
  obtain rfl := words_cells hd
  have c := World.var?_cell hg hv
  exact ⟨by simpa using c 0, by simpa using c 1, by simpa using c 2, by simpa using c 3, by simpa using c 4, by simpa using c 5, by simpa using c 6, by simpa using c 7, by simpa using c 8, by simpa using c 9⟩
def listS : List (String × DataW Unit) := Rows.rexSameRow.laid
theorem listS_plain (W : World) : laidMetH Tryd.prog listS W = laidMet Tryd.prog listS W := MakeChecks.laidMetH_plain _ _ _ (by kernel_rfl)
theorem listS_err : listS.filter (fun x => threeSn.any fun q => q.name == x.1) = threeSn.map Sn.laid := by kernel_rfl
theorem listS_rep : listS.filter isRepV = [("millwright/rex.repeats", repD)] := by kernel_rfl
theorem listS_words : listS.filter isWordV = [("millwright/rex.words", wordsD)] := by kernel_rfl
set_option maxRecDepth 100000 in
theorem listS_met (os : Os) (args : Array Value) : laidMet Tryd.prog listS ((laidWorldX listS os).forCall (fun _ _ => 0) ⟨#[], args, []⟩).memory :=
  laidMet_of_run3 8 (by kernel_rfl) (by kernel_rfl) (by kernel_rfl)
theorem wenv_of_laid {W : World} (h : laidMet Tryd.prog listS W) : WordEnv W := by
  have hp := h.filter isWordV
  rw [listS_words] at hp
  exact words_of_laid hp
end Go.Proofs.YtonbcldhbinmeaaDoor

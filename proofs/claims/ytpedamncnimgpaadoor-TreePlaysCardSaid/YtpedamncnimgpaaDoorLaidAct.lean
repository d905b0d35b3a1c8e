/- What is done to a tree, as it came in. -/
import Derived.Test.YtpedamncnimgpaaDoorLaid
namespace Go.Proofs.YtpedamncnimgpaaDoor
open Go.RowKit Go.Maps Go.ChangeShapes Go.WideShapes Go.Deep

section
variable {H : Type} {enc : TypeId × Value → H} {w : World} {base : Nat} {spare : Nat → Bool} {held : Bool}
theorem cellsAct : Tryd.prog.cellsOf 33 = 4 := by kernel_rfl
set_option maxRecDepth 100000 in
theorem act_of_trod {fuel : Nat} {cs : List Value} {x : DataW H × List MemPlace} (h : DataW.trod enc Tryd.prog w base spare held fuel 33 cs = some x) :
    ∃ (q : Int) (f : Fl), cs = [.int .i64 q, .string f.n, .string f.c, .int .i64 f.t] ∧ f.n.size ≤ maxLen ∧ f.c.size ≤ maxLen := by
  obtain ⟨xs, n, _, _, hlen, hxs, hf⟩ := DataW.trod_struct Tryd.underlying33 h
  rw [cellsAct] at hlen
  match cs, hlen with
  | [c0, c1, c2, c3], _ =>
    match xs, hxs with
    | [x0, x1], _ =>
      have h0 : DataW.trod enc Tryd.prog w base spare held n 3 (([c0, c1, c2, c3].drop 0).take (Tryd.prog.cellsOf 3)) = some x0 := hf 0 _ rfl
      have h1 : DataW.trod enc Tryd.prog w base spare held n 31 (([c0, c1, c2, c3].drop 1).take (Tryd.prog.cellsOf 31)) = some x1 := hf 1 _ rfl
      rw [cellsInt] at h0
      rw [cellsFile] at h1
      obtain ⟨n0, e0, _, _⟩ := DataW.trod_int Tryd.underlying3 h0
      obtain ⟨f, e1, z0, z1⟩ := file_of_trod h1
      have e0' : [c0] = [Value.int .i64 n0] := e0
      have e1' : [c1, c2, c3] = [Value.string f.n, Value.string f.c, Value.int .i64 f.t] := e1
      rw [List.cons.injEq] at e0'
      exact ⟨n0, f, by rw [e0'.1, e1'], z0, z1⟩
set_option maxRecDepth 100000 in
/-- what is done to a tree, by value -/
theorem act_open {r : Reach} {b0 : Nat} {v : Value} {d : DataW H} {p : List MemPlace} (hv : Value.okWide Tryd.prog w r b0 33 v) (h : DataW.Trod enc Tryd.prog w base spare held 33 v d p) :
    ∃ (q : Int) (f : Fl), v = .agg #[.int .i64 q, .string f.n, .string f.c, .int .i64 f.t] ∧ f.n.size ≤ maxLen ∧ f.c.size ≤ maxLen := by
  obtain ⟨cs, rfl, hsz⟩ := okWide_struct Tryd.underlying33 hv
  obtain ⟨fuel, hf⟩ := h
  obtain ⟨q, f, e, z0, z1⟩ := act_of_trod hf
  refine ⟨q, f, ?_, z0, z1⟩
  cases cs
  have e' : _ = _ := e
  simp [Value.cells] at e'
  rw [e']
end
end Go.Proofs.YtpedamncnimgpaaDoor

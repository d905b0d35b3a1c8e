/- What the listed variables hold when the law begins; a world that meets it; files that came in. -/
import Derived.Test.YtbcemenfklgnkaaGreatDoorTreeF
import Derived.Test.YtbcemenfklgnkaaGreatDoorLaidErr
import Derived.ChangeSame
import Derived.ChangeVars
import Derived.JoinedOf
import Derived.RowKit
import Derived.RowKitTokens
import Derived.LaidLaws
import Derived.Stop.Joined
import Derived.Stop.LaidErr
import Derived.MakeChecks
import Derived.Deep.DeepLaidRun
import Derived.Deep.Slices
namespace Go.Proofs.YtbcemenfklgnkaaGreatDoor
open Go.RowKit Go.Maps Go.ChangeShapes Go.WideShapes Go.Deep

def sixSn : List Sn := allSn.filter fun q => q.num == 1 || q.num == 2 || q.num == 4 || q.num == 8 || q.num == 9 || q.num == 10
theorem sixSn_ok : ∀ q ∈ sixSn, q.ok := fun q hq => allSn_ok q (List.mem_filter.1 hq).1
set_option maxRecDepth 100000 in
theorem sents6 {A : Nat → Addr} {W : World} {L : List Sn} (h : ∀ q ∈ L, SentAt A W q) (hL : L6 = (L.map fun q => (q.num, q.g)).filter fun x => L6.contains x) : Sents L6 A W := by
  intro x hx
  rw [hL] at hx
  obtain ⟨q, hq, rfl⟩ := List.mem_map.1 (List.mem_filter.1 hx).1
  exact (h q hq).1

set_option maxRecDepth 100000 in
theorem laidWorld6_met (os : Os) (args : Array Value) : laidMet Tryz.prog (sixSn.map Sn.laid) ((laidWorld sixSn os).forCall (fun _ _ => 0) ⟨#[], args, []⟩).memory :=
  laidMet_of_run3 8 (by kernel_rfl) (by kernel_rfl) (by kernel_rfl)
set_option maxRecDepth 100000 in
theorem laidWorld18_met (os : Os) (args : Array Value) : laidMet Tryz.prog (allSn.map Sn.laid) ((laidWorld allSn os).forCall (fun _ _ => 0) ⟨#[], args, []⟩).memory :=
  laidMet_of_run3 8 (by kernel_rfl) (by kernel_rfl) (by kernel_rfl)

/-! files that came in -/
section
variable {H : Type} {enc : TypeId × Value → H} {w : World} {base : Nat} {spare : Nat → Bool} {held : Bool}
theorem cellsFile : Tryz.prog.cellsOf 61 = 3 := by kernel_rfl
set_option maxRecDepth 100000 in
theorem file_of_trod {fuel : Nat} {cs : List Value} {x : DataW H × List MemPlace} (h : DataW.trod enc Tryz.prog w base spare held fuel 61 cs = some x) :
    ∃ f : Fl, cs = [.string f.n, .string f.c, .int .i64 f.t] ∧ f.n.size ≤ maxLen ∧ f.c.size ≤ maxLen := by
  obtain ⟨xs, n, _, _, hlen, hxs, hf⟩ := DataW.trod_struct Tryz.underlying61 h
  rw [cellsFile] at hlen
  match cs, hlen with
  | [c0, c1, c2], _ =>
    match xs, hxs with
    | [x0, x1, x2], _ =>
      have h0 : DataW.trod enc Tryz.prog w base spare held n 9 (([c0, c1, c2].drop 0).take (Tryz.prog.cellsOf 9)) = some x0 := hf 0 _ rfl
      have h1 : DataW.trod enc Tryz.prog w base spare held n 9 (([c0, c1, c2].drop 1).take (Tryz.prog.cellsOf 9)) = some x1 := hf 1 _ rfl
      have h2 : DataW.trod enc Tryz.prog w base spare held n 3 (([c0, c1, c2].drop 2).take (Tryz.prog.cellsOf 3)) = some x2 := hf 2 _ rfl
      rw [cellsStr] at h0 h1
      rw [cellsInt] at h2
      obtain ⟨s0, e0, _, z0⟩ := DataW.trod_string Tryz.underlying9 h0
      obtain ⟨s1, e1, _, z1⟩ := DataW.trod_string Tryz.underlying9 h1
      obtain ⟨n2, e2, _, _⟩ := DataW.trod_int Tryz.underlying3 h2
      have e0' : [c0] = [Value.string s0] := e0
      have e1' : [c1] = [Value.string s1] := e1
      have e2' : [c2] = [Value.int .i64 n2] := e2
      rw [List.cons.injEq] at e0' e1' e2'
      exact ⟨⟨s0, s1, n2⟩, by rw [e0'.1, e1'.1, e2'.1], z0, z1⟩
set_option maxRecDepth 100000 in
/-- a slice of files that came in, as the walk is told of it -/
theorem frow_open {a : Option Addr} {len cap : Nat} {d : DataW H} {p : List MemPlace}
    (hj : DataW.Trod enc Tryz.prog w 0 (fun _ => true) true 22 (.slice a len cap) d p) : ∃ l, FRow w (.slice a len cap) l := by
  obtain ⟨fuel, hf⟩ := hj
  rcases open_slice Tryz.underlying22 hf with ⟨hcs, _⟩ | ⟨ad, len', cap', m, n, D, Pl, hcs, _, hl, hm, hmm, _, hi⟩
  · simp [Value.cells] at hcs
    obtain ⟨rfl, rfl, rfl⟩ := hcs
    exact ⟨[], none, 0, rfl, by simp, by simp, fun h => absurd rfl h⟩
  · simp [Value.cells] at hcs
    obtain ⟨rfl, rfl, rfl⟩ := hcs
    rw [if_pos rfl] at hmm
    subst hmm
    rw [cellsFile] at hi
    unfold maxLen at hm
    have key : ∀ i, i < len → ∃ f : Fl, f.n.size ≤ maxLen ∧ f.c.size ≤ maxLen ∧ w.cell? (ad.add (i * 3 + 0)) = some (.string f.n) ∧ w.cell? (ad.add (i * 3 + 1)) = some (.string f.c) ∧ w.cell? (ad.add (i * 3 + 2)) = some (.int .i64 f.t) := by
      intro i him
      obtain ⟨cs', hc, ht⟩ := hi i (by omega)
      obtain ⟨f, rfl, z0, z1⟩ := file_of_trod ht
      obtain ⟨_, _, hat⟩ := World.cells?_some hc
      refine ⟨f, z0, z1, ?_, ?_, ?_⟩
      · rw [← Go.Deep.add_add, hat 0 (by omega)]; rfl
      · rw [← Go.Deep.add_add, hat 1 (by omega)]; rfl
      · rw [← Go.Deep.add_add, hat 2 (by omega)]; rfl
    have : ∀ k, k ≤ len → ∃ l : List Fl, l.length = k ∧ ∀ j f, l[j]? = some f → f.n.size ≤ maxLen ∧ f.c.size ≤ maxLen ∧ w.cell? (ad.add (j * 3 + 0)) = some (.string f.n) ∧ w.cell? (ad.add (j * 3 + 1)) = some (.string f.c) ∧ w.cell? (ad.add (j * 3 + 2)) = some (.int .i64 f.t) := by
      intro k
      induction k with
      | zero => exact fun _ => ⟨[], rfl, by simp⟩
      | succ k ih =>
        intro hk
        obtain ⟨l, hl1, hl2⟩ := ih (by omega)
        obtain ⟨f, hf⟩ := key k (by omega)
        refine ⟨l ++ [f], by simp [hl1], fun j g hj => ?_⟩
        rcases Nat.lt_or_ge j l.length with hjl | hjl
        · rw [List.getElem?_append_left hjl] at hj
          exact hl2 j g hj
        · rw [List.getElem?_append_right hjl] at hj
          have hj0 : j - l.length = 0 := by
            rcases Nat.eq_zero_or_pos (j - l.length) with h | h
            · exact h
            · rw [List.getElem?_eq_none (by simp; omega)] at hj; cases hj
          rw [hj0] at hj
          obtain rfl : f = g := by simpa using hj
          obtain rfl : j = k := by omega
          exact hf
    obtain ⟨l, hl1, hl2⟩ := this len (Nat.le_refl _)
    refine ⟨l, some ad, _, by rw [hl1], by omega, fun f hf => ?_, fun hne => ?_⟩
    · obtain ⟨j, hj⟩ := List.mem_iff_getElem?.1 hf
      obtain ⟨z0, z1, _⟩ := hl2 j f hj
      exact ⟨z0, z1⟩
    · obtain ⟨f0, hf0⟩ : ∃ f, l[0]? = some f := by
        cases l with
        | nil => exact absurd rfl hne
        | cons f r => exact ⟨f, rfl⟩
      obtain ⟨b, off, spot⟩ := ad
      obtain ⟨_, _, hc0, _⟩ := hl2 0 f0 hf0
      have hspot : spot = none := by simpa [Addr.add] using World.cell?_spot hc0
      subst hspot
      refine ⟨b, off, rfl, ?_, fun j f hj => ?_⟩
      · rw [Addr.add_lit] at hc0
        exact cell_block hc0
      · obtain ⟨_, _, h0, h1, h2⟩ := hl2 j f hj
        rw [Addr.add_lit] at h0 h1 h2
        exact ⟨h0, h1, h2⟩
end
end Go.Proofs.YtbcemenfklgnkaaGreatDoor

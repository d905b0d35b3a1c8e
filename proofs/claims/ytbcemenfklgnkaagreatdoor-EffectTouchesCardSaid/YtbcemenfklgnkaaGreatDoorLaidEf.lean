/- Effects that came in; worlds in which the listed variables of layer 5's laws hold what is listed. -/
import Derived.Test.YtbcemenfklgnkaaGreatDoorLaidAr
import Derived.Test.YtbcemenfklgnkaaGreatDoorEfPlain
namespace Go.Proofs.YtbcemenfklgnkaaGreatDoor
open Go.ChangeShapes Go.WideShapes Go.RowKit Go.Maps Go.Deep

section
variable {H : Type} {enc : TypeId × Value → H} {w : World} {base : Nat} {spare : Nat → Bool} {held : Bool}
theorem cellsEf : Tryz.prog.cellsOf 46 = 3 := by kernel_rfl
set_option maxRecDepth 100000 in
theorem ef_of_trod {fuel : Nat} {cs : List Value} {x : DataW H × List MemPlace} (h : DataW.trod enc Tryz.prog w base spare held fuel 46 cs = some x) :
    ∃ f : Ef, cs = [.int .i64 f.k, .string f.n, .string f.c] ∧ f.n.size ≤ maxLen ∧ f.c.size ≤ maxLen := by
  obtain ⟨xs, n, _, _, hlen, hxs, hf⟩ := DataW.trod_struct Tryz.underlying46 h
  rw [cellsEf] at hlen
  match cs, hlen with
  | [c0, c1, c2], _ =>
    match xs, hxs with
    | [x0, x1, x2], _ =>
      have h0 : DataW.trod enc Tryz.prog w base spare held n 3 (([c0, c1, c2].drop 0).take (Tryz.prog.cellsOf 3)) = some x0 := hf 0 _ rfl
      have h1 : DataW.trod enc Tryz.prog w base spare held n 9 (([c0, c1, c2].drop 1).take (Tryz.prog.cellsOf 9)) = some x1 := hf 1 _ rfl
      have h2 : DataW.trod enc Tryz.prog w base spare held n 9 (([c0, c1, c2].drop 2).take (Tryz.prog.cellsOf 9)) = some x2 := hf 2 _ rfl
      rw [cellsInt] at h0
      rw [cellsStr] at h1 h2
      obtain ⟨n0, e0, _, _⟩ := DataW.trod_int Tryz.underlying3 h0
      obtain ⟨s1, e1, _, z1⟩ := DataW.trod_string Tryz.underlying9 h1
      obtain ⟨s2, e2, _, z2⟩ := DataW.trod_string Tryz.underlying9 h2
      have e0' : [c0] = [Value.int .i64 n0] := e0
      have e1' : [c1] = [Value.string s1] := e1
      have e2' : [c2] = [Value.string s2] := e2
      rw [List.cons.injEq] at e0' e1' e2'
      exact ⟨⟨n0, s1, s2⟩, by rw [e0'.1, e1'.1, e2'.1], z1, z2⟩
set_option maxRecDepth 100000 in
/-- a slice of effects that came in, as the walk is told of it -/
theorem erow_open {a : Option Addr} {len cap : Nat} {d : DataW H} {p : List MemPlace}
    (hj : DataW.Trod enc Tryz.prog w 0 (fun _ => true) true 23 (.slice a len cap) d p) : ∃ l, ERow w (.slice a len cap) l := by
  obtain ⟨fuel, hf⟩ := hj
  rcases open_slice Tryz.underlying23 hf with ⟨hcs, _⟩ | ⟨ad, len', cap', m, n, D, Pl, hcs, _, hl, hm, hmm, _, hi⟩
  · simp [Value.cells] at hcs
    obtain ⟨rfl, rfl, rfl⟩ := hcs
    exact ⟨[], none, 0, rfl, by simp, by simp, fun h => absurd rfl h⟩
  · simp [Value.cells] at hcs
    obtain ⟨rfl, rfl, rfl⟩ := hcs
    rw [if_pos rfl] at hmm
    subst hmm
    rw [cellsEf] at hi
    unfold maxLen at hm
    have key : ∀ i, i < len → ∃ f : Ef, f.n.size ≤ maxLen ∧ f.c.size ≤ maxLen ∧ w.cell? (ad.add (i * 3 + 0)) = some (.int .i64 f.k) ∧ w.cell? (ad.add (i * 3 + 1)) = some (.string f.n) ∧ w.cell? (ad.add (i * 3 + 2)) = some (.string f.c) := by
      intro i him
      obtain ⟨cs', hc, ht⟩ := hi i (by omega)
      obtain ⟨f, rfl, z0, z1⟩ := ef_of_trod ht
      obtain ⟨_, _, hat⟩ := World.cells?_some hc
      refine ⟨f, z0, z1, ?_, ?_, ?_⟩
      · rw [← Go.Deep.add_add, hat 0 (by omega)]; rfl
      · rw [← Go.Deep.add_add, hat 1 (by omega)]; rfl
      · rw [← Go.Deep.add_add, hat 2 (by omega)]; rfl
    have : ∀ k, k ≤ len → ∃ l : List Ef, l.length = k ∧ ∀ (j : Nat) (f : Ef), l[j]? = some f → f.n.size ≤ maxLen ∧ f.c.size ≤ maxLen ∧ w.cell? (ad.add (j * 3 + 0)) = some (.int .i64 f.k) ∧ w.cell? (ad.add (j * 3 + 1)) = some (.string f.n) ∧ w.cell? (ad.add (j * 3 + 2)) = some (.string f.c) := by
      intro k
      induction k with
      | zero => exact fun _ => ⟨[], rfl, by simp⟩
      | succ k ih =>
        intro hk
        obtain ⟨l, hl1, hl2⟩ := ih (by omega)
        obtain ⟨f, hf⟩ := key k (by omega)
        refine ⟨l ++ [f], by simp [hl1], fun j g hj => ?_⟩
        rcases Nat.lt_or_ge j l.length with hjl | hjl
        · rw [List.getElem?_append_left hjl] at hj
          exact hl2 j g hj
        · rw [List.getElem?_append_right hjl] at hj
          have hj0 : j - l.length = 0 := by
            rcases Nat.eq_zero_or_pos (j - l.length) with h | h
            · exact h
            · rw [List.getElem?_eq_none (by simp; omega)] at hj; cases hj
          rw [hj0] at hj
          obtain rfl : f = g := by simpa using hj
          obtain rfl : j = k := by omega
          exact hf
    obtain ⟨l, hl1, hl2⟩ := this len (Nat.le_refl _)
    refine ⟨l, some ad, _, by rw [hl1], by omega, fun f hf => ?_, fun hne => ?_⟩
    · obtain ⟨j, hj⟩ := List.mem_iff_getElem?.1 hf
      obtain ⟨z0, z1, _⟩ := hl2 j f hj
      exact ⟨z0, z1⟩
    · obtain ⟨f0, hf0⟩ : ∃ f, l[0]? = some f := by
        cases l with
        | nil => exact absurd rfl hne
        | cons f r => exact ⟨f, rfl⟩
      obtain ⟨b, off, spot⟩ := ad
      obtain ⟨_, _, hc0, _⟩ := hl2 0 f0 hf0
      have hspot : spot = none := by simpa [Addr.add] using World.cell?_spot hc0
      subst hspot
      refine ⟨b, off, rfl, ?_, fun j f hj => ?_⟩
      · rw [Addr.add_lit] at hc0
        exact cell_block hc0
      · obtain ⟨_, _, h0, h1, h2⟩ := hl2 j f hj
        rw [Addr.add_lit] at h0 h1 h2
        exact ⟨h0, h1, h2⟩
end

theorem two_of {A : Nat → Addr} {W : World} {E : List Sn} (hA : ∀ q ∈ E, SentAt A W q) (h2 : LE2 = (E.map fun q => (q.num, q.g)).filter fun x => LE2.contains x) : Sents LE2 A W := fun x hx => by
  rw [h2] at hx
  obtain ⟨q, hq, rfl⟩ := List.mem_map.1 (List.mem_filter.1 hx).1
  exact (hA q hq).1
/-- what the law of all effects lists -/
def listV : List (String × DataW Unit) := Rows.effectAppliesRow.laid
theorem listV_plain (W : World) : laidMetH Tryz.prog listV W = laidMet Tryz.prog listV W := MakeChecks.laidMetH_plain _ _ _ (by kernel_rfl)
theorem listV_ex : listV.filter isEx = exSn.map Sn.laid := by kernel_rfl
theorem listV_pow : listV.filter isPow = [("internal/strconv.uint64pow10", Lib.tabData .u64 Lib.pow10Tab)] := by kernel_rfl
set_option maxRecDepth 100000 in
theorem listV_met (os : Os) (args : Array Value) : laidMet Tryz.prog listV ((laidWorldX listV os).forCall (fun _ _ => 0) ⟨#[], args, []⟩).memory :=
  laidMet_of_run3 8 (by kernel_rfl) (by kernel_rfl) (by kernel_rfl)
theorem envV {W : World} (h : laidMet Tryz.prog listV W) : ∃ A, EnvE A W ∧ ErrEnv A W := by
  obtain ⟨A, hE, hN⟩ := env_of_laid listV_ex listV_pow h
  exact ⟨A, ⟨hE, two_of hN.1 (by decide)⟩, hN⟩
/-- what the laws of own effects and of touches list: eight errors, and the library's two -/
def listW : List (String × DataW Unit) := Rows.effectOwnRow.laid
theorem listW_same : Rows.effectTouchesRow.laid = listW := rfl
def tenSn : List Sn := exSn.filter fun q => q.num == 1 || q.num == 2 || q.num == 3 || q.num == 4 || q.num == 8 || q.num == 9 || q.num == 10 || q.num == 17 || q.num == 19 || q.num == 20
theorem tenSn_ok : ∀ q ∈ tenSn, q.ok := fun q hq => exSn_ok q (List.mem_filter.1 hq).1
theorem listW_plain (W : World) : laidMetH Tryz.prog listW W = laidMet Tryz.prog listW W := MakeChecks.laidMetH_plain _ _ _ (by kernel_rfl)
theorem listW_ex : listW.filter (fun x => tenSn.any fun q => q.name == x.1) = tenSn.map Sn.laid := by kernel_rfl
theorem listW_pow : listW.filter isPow = [("internal/strconv.uint64pow10", Lib.tabData .u64 Lib.pow10Tab)] := by kernel_rfl
set_option maxRecDepth 100000 in
theorem listW_met (os : Os) (args : Array Value) : laidMet Tryz.prog listW ((laidWorldX listW os).forCall (fun _ _ => 0) ⟨#[], args, []⟩).memory :=
  laidMet_of_run3 8 (by kernel_rfl) (by kernel_rfl) (by kernel_rfl)
theorem envW {W : World} (h : laidMet Tryz.prog listW W) : ∃ A, EnvE A W := by
  obtain ⟨A, hE, hA, -⟩ := envs_of_laid tenSn (by decide) tenSn_ok (by decide) (by simp [tenSn, exSn, synSn]) listW_ex listW_pow h
  exact ⟨A, hE, two_of hA (by decide)⟩
end Go.Proofs.YtbcemenfklgnkaaGreatDoor

/- A slice of what is done to a tree, as it came in. -/
import Derived.Test.YtpedamncnimgpaaDoorLaidAct
import Derived.Test.YtpedamncnimgpaaDoorLaid
import Derived.ChangeSame
import Derived.ChangeVars
import Derived.JoinedOf
import Derived.RowKit
import Derived.RowKitTokens
import Derived.LaidLaws
import Derived.Stop.Joined
import Derived.Stop.LaidErr
import Derived.MakeChecks
import Derived.Deep.DeepLaidRun
import Derived.Deep.Slices
namespace Go.Proofs.YtpedamncnimgpaaDoor
open Go.RowKit Go.Maps Go.ChangeShapes Go.WideShapes Go.Deep

/-- what is done: its kind, its file -/
structure Ac where
  q : Int
  f : Fl
def ARow (w : World) (v : Value) (l : List Ac) : Prop :=
  ∃ a c, v = .slice a l.length c ∧ l.length ≤ 9223372036854775807 ∧ (∀ x ∈ l, x.f.n.size ≤ maxLen ∧ x.f.c.size ≤ maxLen) ∧
    (l ≠ [] → ∃ b off, a = some ⟨b, off, none⟩ ∧ b < w.heap.size ∧ ∀ (j : Nat) (x : Ac), l[j]? = some x →
      w.cell? ⟨b, off + j * 4, none⟩ = some (.int .i64 x.q) ∧ w.cell? ⟨b, off + j * 4 + 1, none⟩ = some (.string x.f.n) ∧ w.cell? ⟨b, off + j * 4 + 2, none⟩ = some (.string x.f.c) ∧ w.cell? ⟨b, off + j * 4 + 3, none⟩ = some (.int .i64 x.f.t))
theorem ARow.later {w w' : World} {v : Value} {l : List Ac} (h : ARow w v l) (hb : Below w.heap.size w w') : ARow w' v l := by
  obtain ⟨a, c, e, hn, hs, hc⟩ := h
  refine ⟨a, c, e, hn, hs, fun hne => ?_⟩
  obtain ⟨b, off, ea, hlt, hcc⟩ := hc hne
  refine ⟨b, off, ea, Nat.lt_of_lt_of_le hlt hb.size, fun j x hj => ?_⟩
  obtain ⟨h1, h2, h3, h4⟩ := hcc j x hj
  exact ⟨(hb.cell hlt).trans h1, (hb.cell hlt).trans h2, (hb.cell hlt).trans h3, (hb.cell hlt).trans h4⟩
theorem ARow.at {w : World} {v : Value} {l : List Ac} (h : ARow w v l) (k : Nat) (hk : k < l.length) :
    ∃ b off c x, v = .slice (some ⟨b, off, none⟩) l.length c ∧ l[k]? = some x ∧ x.f.n.size ≤ maxLen ∧ x.f.c.size ≤ maxLen ∧ b < w.heap.size ∧
      w.cell? ⟨b, off + k * 4, none⟩ = some (.int .i64 x.q) ∧ w.cell? ⟨b, off + k * 4 + 1, none⟩ = some (.string x.f.n) ∧ w.cell? ⟨b, off + k * 4 + 2, none⟩ = some (.string x.f.c) ∧ w.cell? ⟨b, off + k * 4 + 3, none⟩ = some (.int .i64 x.f.t) := by
  obtain ⟨a, c, e, hn, hs, hc⟩ := h
  have hne : l ≠ [] := by intro e; rw [e] at hk; simp at hk
  obtain ⟨b, off, rfl, hlt, hcc⟩ := hc hne
  have hf : l[k]? = some l[k] := List.getElem?_eq_getElem hk
  have hm : l[k] ∈ l := List.getElem_mem hk
  exact ⟨b, off, c, l[k], e, hf, (hs _ hm).1, (hs _ hm).2, hlt, hcc k _ hf⟩

section
variable {H : Type} {enc : TypeId × Value → H} {w : World}
set_option maxRecDepth 100000 in
theorem arow_open {a : Option Addr} {len cap : Nat} {d : DataW H} {p : List MemPlace}
    (hj : DataW.Trod enc Tryd.prog w 0 (fun _ => true) true 22 (.slice a len cap) d p) : ∃ l, ARow w (.slice a len cap) l := by
  obtain ⟨fuel, hf⟩ := hj
  rcases open_slice Tryd.underlying22 hf with ⟨hcs, _⟩ | ⟨ad, len', cap', m, n, D, Pl, hcs, _, hl, hm, hmm, _, hi⟩
  · simp [Value.cells] at hcs
    obtain ⟨rfl, rfl, rfl⟩ := hcs
    exact ⟨[], none, 0, rfl, by simp, by simp, fun h => absurd rfl h⟩
  · simp [Value.cells] at hcs
    obtain ⟨rfl, rfl, rfl⟩ := hcs
    rw [if_pos rfl] at hmm
    subst hmm
    rw [cellsAct] at hi
    unfold maxLen at hm
    have key : ∀ i, i < len → ∃ x : Ac, x.f.n.size ≤ maxLen ∧ x.f.c.size ≤ maxLen ∧ w.cell? (ad.add (i * 4 + 0)) = some (.int .i64 x.q) ∧ w.cell? (ad.add (i * 4 + 1)) = some (.string x.f.n) ∧ w.cell? (ad.add (i * 4 + 2)) = some (.string x.f.c) ∧ w.cell? (ad.add (i * 4 + 3)) = some (.int .i64 x.f.t) := by
      intro i him
      obtain ⟨cs', hc, ht⟩ := hi i (by omega)
      obtain ⟨q, f, rfl, z0, z1⟩ := act_of_trod ht
      obtain ⟨_, _, hat⟩ := World.cells?_some hc
      refine ⟨⟨q, f⟩, z0, z1, ?_, ?_, ?_, ?_⟩
      · rw [← Go.Deep.add_add, hat 0 (by omega)]; rfl
      · rw [← Go.Deep.add_add, hat 1 (by omega)]; rfl
      · rw [← Go.Deep.add_add, hat 2 (by omega)]; rfl
      · rw [← Go.Deep.add_add, hat 3 (by omega)]; rfl
    have : ∀ k, k ≤ len → ∃ l : List Ac, l.length = k ∧ ∀ (j : Nat) (x : Ac), l[j]? = some x → x.f.n.size ≤ maxLen ∧ x.f.c.size ≤ maxLen ∧ w.cell? (ad.add (j * 4 + 0)) = some (.int .i64 x.q) ∧ w.cell? (ad.add (j * 4 + 1)) = some (.string x.f.n) ∧ w.cell? (ad.add (j * 4 + 2)) = some (.string x.f.c) ∧ w.cell? (ad.add (j * 4 + 3)) = some (.int .i64 x.f.t) := by
      intro k
      induction k with
      | zero => exact fun _ => ⟨[], rfl, by simp⟩
      | succ k ih =>
        intro hk
        obtain ⟨l, hl1, hl2⟩ := ih (by omega)
        obtain ⟨x, hx⟩ := key k (by omega)
        refine ⟨l ++ [x], by simp [hl1], fun j g hj => ?_⟩
        rcases Nat.lt_or_ge j l.length with hjl | hjl
        · rw [List.getElem?_append_left hjl] at hj
          exact hl2 j g hj
        · rw [List.getElem?_append_right hjl] at hj
          have hj0 : j - l.length = 0 := by
            rcases Nat.eq_zero_or_pos (j - l.length) with h | h
            · exact h
            · rw [List.getElem?_eq_none (by simp; omega)] at hj; cases hj
          rw [hj0] at hj
          obtain rfl : x = g := by simpa using hj
          obtain rfl : j = k := by omega
          exact hx
    obtain ⟨l, hl1, hl2⟩ := this len (Nat.le_refl _)
    refine ⟨l, some ad, _, by rw [hl1], by omega, fun f hf => ?_, fun hne => ?_⟩
    · obtain ⟨j, hj⟩ := List.mem_iff_getElem?.1 hf
      obtain ⟨z0, z1, _⟩ := hl2 j f hj
      exact ⟨z0, z1⟩
    · obtain ⟨f0, hf0⟩ : ∃ f, l[0]? = some f := by
        cases l with
        | nil => exact absurd rfl hne
        | cons f r => exact ⟨f, rfl⟩
      obtain ⟨b, off, spot⟩ := ad
      obtain ⟨_, _, hc0, _⟩ := hl2 0 f0 hf0
      have hspot : spot = none := by simpa [Addr.add] using World.cell?_spot hc0
      subst hspot
      refine ⟨b, off, rfl, ?_, fun j f hj => ?_⟩
      · rw [Addr.add_lit] at hc0
        exact cell_block hc0
      · obtain ⟨_, _, h0, h1, h2, h3⟩ := hl2 j f hj
        rw [Addr.add_lit] at h0 h1 h2 h3
        exact ⟨h0, h1, h2, h3⟩
end
end Go.Proofs.YtpedamncnimgpaaDoor

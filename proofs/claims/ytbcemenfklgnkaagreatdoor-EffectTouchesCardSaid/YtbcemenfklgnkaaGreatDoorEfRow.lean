/- Effects; slices of effects, those that came in and those that a call makes. -/
import Derived.Test.YtbcemenfklgnkaaGreatDoorTreeF
import Derived.Test.YtbcemenfklgnkaaGreatDoorTreeE
namespace Go.Proofs.YtbcemenfklgnkaaGreatDoor
open Go.RowKit Go.Maps

/-- an effect: its kind, its name, its text -/
structure Ef where
  k : Int
  n : ByteArray
  c : ByteArray
def valE (e : Ef) : Value := .agg #[.int .i64 e.k, .string e.n, .string e.c]
/-- v is a slice that holds the effects l -/
def ERow (w : World) (v : Value) (l : List Ef) : Prop :=
  ∃ a c, v = .slice a l.length c ∧ l.length ≤ 9223372036854775807 ∧ (∀ f ∈ l, f.n.size ≤ maxLen ∧ f.c.size ≤ maxLen) ∧
    (l ≠ [] → ∃ b off, a = some ⟨b, off, none⟩ ∧ b < w.heap.size ∧ ∀ j f, l[j]? = some f →
      w.cell? ⟨b, off + j * 3, none⟩ = some (.int .i64 f.k) ∧ w.cell? ⟨b, off + j * 3 + 1, none⟩ = some (.string f.n) ∧ w.cell? ⟨b, off + j * 3 + 2, none⟩ = some (.string f.c))
theorem ERow.later {w w' : World} {v : Value} {l : List Ef} (h : ERow w v l) (hb : Below w.heap.size w w') : ERow w' v l := by
  obtain ⟨a, c, e, hn, hs, hc⟩ := h
  refine ⟨a, c, e, hn, hs, fun hne => ?_⟩
  obtain ⟨b, off, ea, hlt, hcc⟩ := hc hne
  refine ⟨b, off, ea, Nat.lt_of_lt_of_le hlt hb.size, fun j f hj => ?_⟩
  obtain ⟨h1, h2, h3⟩ := hcc j f hj
  exact ⟨(hb.cell hlt).trans h1, (hb.cell hlt).trans h2, (hb.cell hlt).trans h3⟩
theorem ERow.grown {w w' : World} {v : Value} {l : List Ef} (h : ERow w v l) (hg : w.grownBy w' none) : ERow w' v l := h.later (below_of_grown hg)
/-- it lies in another block than q -/
def Off (q : Nat) (v : Value) : Prop := ∀ b off n c, v = .slice (some ⟨b, off, none⟩) n c → b ≠ q
theorem ERow.kept {w w' : World} {v : Value} {l : List Ef} {q : Nat} (h : ERow w v l) (hg : w.grownBy w' (some q)) (ho : Off q v) : ERow w' v l := by
  obtain ⟨a, c, e, hn, hs, hc⟩ := h
  refine ⟨a, c, e, hn, hs, fun hne => ?_⟩
  obtain ⟨b0, off, ea, hlt, hcc⟩ := hc hne
  have hb : some b0 ≠ some q := fun h => ho b0 off l.length c (by rw [e, ea]) (Option.some.inj h)
  refine ⟨b0, off, ea, Nat.lt_of_lt_of_le hlt hg.size, fun j f hj => ?_⟩
  obtain ⟨h1, h2, h3⟩ := hcc j f hj
  exact ⟨hg.cell h1 hb, hg.cell h2 hb, hg.cell h3 hb⟩
theorem ERow.slice {w : World} {v : Value} {l : List Ef} (h : ERow w v l) : ∃ a c, v = .slice a l.length c := by
  obtain ⟨a, c, e, _⟩ := h; exact ⟨a, c, e⟩
theorem ERow.sizes {w : World} {v : Value} {l : List Ef} (h : ERow w v l) : ∀ f ∈ l, f.n.size ≤ maxLen ∧ f.c.size ≤ maxLen := by
  obtain ⟨_, _, _, _, hs, _⟩ := h; exact hs
theorem ERow.len {w : World} {v : Value} {l : List Ef} (h : ERow w v l) : l.length ≤ 9223372036854775807 := by
  obtain ⟨_, _, _, hn, _, _⟩ := h; exact hn
/-- the j-th effect of a slice, as the walk reads it -/
theorem ERow.at {w : World} {v : Value} {l : List Ef} (h : ERow w v l) (k : Nat) (hk : k < l.length) :
    ∃ b off c f, v = .slice (some ⟨b, off, none⟩) l.length c ∧ l[k]? = some f ∧ f.n.size ≤ maxLen ∧ f.c.size ≤ maxLen ∧ b < w.heap.size ∧
      w.cell? ⟨b, off + k * 3, none⟩ = some (.int .i64 f.k) ∧ w.cell? ⟨b, off + k * 3 + 1, none⟩ = some (.string f.n) ∧ w.cell? ⟨b, off + k * 3 + 2, none⟩ = some (.string f.c) := by
  obtain ⟨a, c, e, hn, hs, hc⟩ := h
  have hne : l ≠ [] := by intro e; rw [e] at hk; simp at hk
  obtain ⟨b, off, rfl, hlt, hcc⟩ := hc hne
  have hf : l[k]? = some l[k] := List.getElem?_eq_getElem hk
  have hm := hs l[k] (List.getElem_mem hk)
  exact ⟨b, off, c, l[k], e, hf, hm.1, hm.2, hlt, hcc k _ hf⟩

/-- the cells of effects -/
def cellsE (l : List Ef) : List Value := l.flatMap fun f => [.int .i64 f.k, .string f.n, .string f.c]
theorem cellsE_take {l : List Ef} {k : Nat} {f : Ef} (h : l[k]? = some f) : cellsE (l.take (k + 1)) = cellsE (l.take k) ++ [.int .i64 f.k, .string f.n, .string f.c] := by
  rw [List.take_add_one, h]; unfold cellsE; simp
theorem cellsE_snoc (l : List Ef) (f : Ef) : cellsE (l ++ [f]) = cellsE l ++ [.int .i64 f.k, .string f.n, .string f.c] := by unfold cellsE; simp
theorem cellsE_get : ∀ {l : List Ef} {j : Nat} {f : Ef}, l[j]? = some f → (cellsE l)[j * 3]? = some (.int .i64 f.k) ∧ (cellsE l)[j * 3 + 1]? = some (.string f.n) ∧ (cellsE l)[j * 3 + 2]? = some (.string f.c)
  | [], j, f, h => by simp at h
  | x :: r, 0, f, h => by
    obtain rfl : x = f := by simpa using h
    exact ⟨rfl, rfl, rfl⟩
  | x :: r, j + 1, f, h => by
    obtain ⟨h1, h2, h3⟩ := cellsE_get (l := r) (j := j) (f := f) (by simpa using h)
    have e : cellsE (x :: r) = .int .i64 x.k :: .string x.n :: .string x.c :: cellsE r := rfl
    rw [e]
    rw [show (j + 1) * 3 = j * 3 + 1 + 1 + 1 by omega]
    exact ⟨by simpa using h1, by simpa using h2, by simpa using h3⟩
theorem erow_of_owns {w : World} {base : Nat} {e : TypeId} {v : Value} {l : List Ef} (h : w.ownsRow base e 3 v l.length (cellsE l)) (hn : l.length ≤ 9223372036854775807) (hs : ∀ f ∈ l, f.n.size ≤ maxLen ∧ f.c.size ≤ maxLen) :
    ERow w v l ∧ ∀ b off n c, v = .slice (some ⟨b, off, none⟩) n c → base ≤ b := by
  rcases h.2 with ⟨rfl, h0⟩ | ⟨g, cap, cur, rfl, hb, hg, h1, h2, h3, h4⟩
  · refine ⟨⟨none, 0, by rw [h0], hn, hs, fun hne => absurd (List.eq_nil_of_length_eq_zero h0) hne⟩, fun b off n c e => by cases e⟩
  · refine ⟨⟨_, cap, rfl, hn, hs, fun _ => ⟨g, 0, rfl, (Array.getElem?_eq_some_iff.1 hg).1, fun j x hx => ?_⟩⟩, fun b off n c e => by cases e; exact hb⟩
    obtain ⟨c0, c1, c2⟩ := cellsE_get hx
    have d0 := h.cells (g := g) rfl _ _ c0
    have d1 := h.cells (g := g) rfl _ _ c1
    have d2 := h.cells (g := g) rfl _ _ c2
    rw [Addr.add_lit] at d0 d1 d2
    exact ⟨d0, d1, d2⟩
theorem newsE (w : World) (f : Ef) (t : TypeId) : ∀ j u, ([.int .i64 f.k, .string f.n, .string f.c] : List Value)[j]? = some u → (w.alloc (.cells #[.int .i64 f.k, .string f.n, .string f.c] t)).cell? ((⟨w.heap.size, 0, none⟩ : Addr).add j) = some u :=
  World.news_of_block (cs := #[.int .i64 f.k, .string f.n, .string f.c]) (t := t) (fr := (0, 0)) (heap_alloc_new w _)
theorem oneE (f : Ef) : ∀ u ∈ ([.int .i64 f.k, .string f.n, .string f.c] : List Value), u.oneCell' = true := by
  intro u hu; simp at hu; rcases hu with rfl | rfl | rfl <;> rfl
theorem take_snocE {l : List Ef} {k : Nat} {f : Ef} (h : l[k]? = some f) : l.take (k + 1) = l.take k ++ [f] := by rw [List.take_add_one, h]; rfl
theorem drop_atE {l : List Ef} {k : Nat} {f : Ef} (h : l[k]? = some f) : l.drop k = f :: l.drop (k + 1) := by
  obtain ⟨hk, e⟩ := List.getElem?_eq_some_iff.1 h
  rw [List.drop_eq_getElem_cons hk, e]

/-- more effects than are asked, or longer ones -/
def bigE (f : Ef) : Bool := decide (100 < f.n.size) || decide (1000 < f.c.size)
def longE (m : Nat) (l : List Ef) : Bool := decide (m < l.length) || l.any bigE
theorem longE_hit {m : Nat} {l : List Ef} {k : Nat} {f : Ef} (h : l[k]? = some f) (hb : bigE f = true) : longE m l = true := by
  unfold longE; rw [Bool.or_eq_true]; exact .inr (List.any_eq_true.2 ⟨f, List.mem_of_getElem? h, hb⟩)
theorem longE_not {m : Nat} {l : List Ef} (hm : l.length ≤ m) {k : Nat} (hk : l.length ≤ k) (h : (l.take k).any bigE = false) : longE m l = false := by
  rw [List.take_of_length_le hk] at h
  unfold longE; rw [h, decide_eq_false (by omega)]; rfl
theorem longE_len {m : Nat} {l : List Ef} (h : longE m l = false) : l.length ≤ m ∧ ∀ f ∈ l, f.n.size ≤ 100 ∧ f.c.size ≤ 1000 := by
  unfold longE at h
  rw [Bool.or_eq_false_iff] at h
  refine ⟨by have := of_decide_eq_false h.1; omega, fun f hf => ?_⟩
  have := List.any_eq_false.1 h.2 f hf
  unfold bigE at this
  simp at this
  omega
theorem take_any_snocE {l : List Ef} {k : Nat} {f : Ef} (h : l[k]? = some f) (p : Ef → Bool) (ha : (l.take k).any p = false) (hb : p f = false) : (l.take (k + 1)).any p = false := by
  rw [take_snocE h, List.any_append, ha]; simp [hb]
end Go.Proofs.YtbcemenfklgnkaaGreatDoor

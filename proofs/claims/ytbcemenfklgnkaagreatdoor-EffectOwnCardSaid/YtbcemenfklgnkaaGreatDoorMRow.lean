/- Slices of members: those that came in, and those that a call makes. -/
import Derived.Test.YtbcemenfklgnkaaGreatDoorBase
import Derived.Test.YtbcemenfklgnkaaGreatDoorPlain
import Derived.Deep.AppendLies
import Derived.Laws.OwnMore
namespace Go.Proofs.YtbcemenfklgnkaaGreatDoor
open Go.RowKit

def valM (m : Mb) : Value := .agg #[.string m.n, .int .i64 m.t, .string m.c]
/-- v is a slice that holds the members l -/
def MRow (w : World) (v : Value) (l : List Mb) : Prop :=
  ∃ a c, v = .slice a l.length c ∧ l.length ≤ 9223372036854775807 ∧ (∀ m ∈ l, m.n.size ≤ maxLen ∧ m.c.size ≤ maxLen) ∧
    (l ≠ [] → ∃ b off, a = some ⟨b, off, none⟩ ∧ b < w.heap.size ∧ ∀ (j : Nat) (m : Mb), l[j]? = some m →
      w.cell? ⟨b, off + j * 3, none⟩ = some (.string m.n) ∧ w.cell? ⟨b, off + j * 3 + 1, none⟩ = some (.int .i64 m.t) ∧ w.cell? ⟨b, off + j * 3 + 2, none⟩ = some (.string m.c))
theorem MRow.later {w w' : World} {v : Value} {l : List Mb} (h : MRow w v l) (hb : Below w.heap.size w w') : MRow w' v l := by
  obtain ⟨a, c, e, hn, hs, hc⟩ := h
  refine ⟨a, c, e, hn, hs, fun hne => ?_⟩
  obtain ⟨b, off, ea, hlt, hcc⟩ := hc hne
  refine ⟨b, off, ea, Nat.lt_of_lt_of_le hlt hb.size, fun j m hj => ?_⟩
  obtain ⟨h1, h2, h3⟩ := hcc j m hj
  exact ⟨(hb.cell hlt).trans h1, (hb.cell hlt).trans h2, (hb.cell hlt).trans h3⟩
theorem MRow.grown {w w' : World} {v : Value} {l : List Mb} (h : MRow w v l) (hg : w.grownBy w' none) : MRow w' v l := h.later (below_of_grown hg)
/-- the j-th member of a slice, as the walk reads it -/
theorem MRow.at {w : World} {v : Value} {l : List Mb} (h : MRow w v l) (k : Nat) (hk : k < l.length) :
    ∃ b off c m, v = .slice (some ⟨b, off, none⟩) l.length c ∧ l[k]? = some m ∧ m.n.size ≤ maxLen ∧ m.c.size ≤ maxLen ∧ b < w.heap.size ∧
      w.cell? ⟨b, off + k * 3, none⟩ = some (.string m.n) ∧ w.cell? ⟨b, off + k * 3 + 1, none⟩ = some (.int .i64 m.t) ∧ w.cell? ⟨b, off + k * 3 + 2, none⟩ = some (.string m.c) := by
  obtain ⟨a, c, e, hn, hs, hc⟩ := h
  have hne : l ≠ [] := by intro e; rw [e] at hk; simp at hk
  obtain ⟨b, off, rfl, hlt, hcc⟩ := hc hne
  have hf : l[k]? = some l[k] := List.getElem?_eq_getElem hk
  have hm := hs l[k] (List.getElem_mem hk)
  exact ⟨b, off, c, l[k], e, hf, hm.1, hm.2, hlt, hcc k _ hf⟩
theorem MRow.nil (w : World) : MRow w (.slice none 0 0) [] := ⟨none, 0, rfl, by simp, by simp, fun h => absurd rfl h⟩

/-- the cells of members, one behind the other -/
def cellsM (l : List Mb) : List Value := l.flatMap fun m => [.string m.n, .int .i64 m.t, .string m.c]
theorem cellsM_snoc (l : List Mb) (m : Mb) : cellsM (l ++ [m]) = cellsM l ++ [.string m.n, .int .i64 m.t, .string m.c] := by
  unfold cellsM; rw [List.flatMap_append]; rfl
theorem cellsM_take {l : List Mb} {k : Nat} {m : Mb} (h : l[k]? = some m) : cellsM (l.take (k + 1)) = cellsM (l.take k) ++ [.string m.n, .int .i64 m.t, .string m.c] := by
  rw [List.take_add_one, h]; exact cellsM_snoc _ _
theorem cellsM_get : ∀ {l : List Mb} {j : Nat} {m : Mb}, l[j]? = some m → (cellsM l)[j * 3]? = some (.string m.n) ∧ (cellsM l)[j * 3 + 1]? = some (.int .i64 m.t) ∧ (cellsM l)[j * 3 + 2]? = some (.string m.c)
  | [], j, m, h => by simp at h
  | a :: r, 0, m, h => by
    obtain rfl : a = m := by simpa using h
    exact ⟨rfl, rfl, rfl⟩
  | a :: r, j + 1, m, h => by
    have h' : r[j]? = some m := by simpa using h
    obtain ⟨h1, h2, h3⟩ := cellsM_get h'
    have e : cellsM (a :: r) = .string a.n :: .int .i64 a.t :: .string a.c :: cellsM r := rfl
    rw [e, show (j + 1) * 3 = j * 3 + 1 + 1 + 1 by omega]
    exact ⟨by simpa using h1, by simpa using h2, by simpa using h3⟩
theorem cellsM_len (l : List Mb) : (cellsM l).length = l.length * 3 := by
  unfold cellsM
  induction l with
  | nil => rfl
  | cons a r ih => rw [List.flatMap_cons, List.length_append, ih]; simp; omega
theorem cellsM_set : ∀ (l : List Mb) (i : Nat) (m : Mb), i < l.length → cellsM (l.set i m) = (((cellsM l).set (i * 3) (.string m.n)).set (i * 3 + 1) (.int .i64 m.t)).set (i * 3 + 2) (.string m.c)
  | [], i, m, h => by simp at h
  | a :: r, 0, m, h => rfl
  | a :: r, i + 1, m, h => by
    have ih := cellsM_set r i m (by simpa using h)
    have e : cellsM (a :: r) = .string a.n :: .int .i64 a.t :: .string a.c :: cellsM r := rfl
    have e2 : cellsM ((a :: r).set (i + 1) m) = .string a.n :: .int .i64 a.t :: .string a.c :: cellsM (r.set i m) := rfl
    rw [e2, ih, e, show (i + 1) * 3 = i * 3 + 1 + 1 + 1 by omega, show i * 3 + 1 + 1 + 1 + 1 = (i * 3 + 1) + 1 + 1 + 1 by omega, show i * 3 + 1 + 1 + 1 + 2 = (i * 3 + 2) + 1 + 1 + 1 by omega]
    simp
/-- a slice of members that is the call's own -/
def OwnM (w : World) (base : Nat) (e : TypeId) (v : Value) (l : List Mb) : Prop := w.ownsRow base e 3 v l.length (cellsM l) ∧ ∀ m ∈ l, m.n.size ≤ maxLen ∧ m.c.size ≤ maxLen
theorem OwnM.len {w : World} {base : Nat} {e : TypeId} {v : Value} {l : List Mb} (h : OwnM w base e v l) : l.length ≤ 9223372036854775807 := by
  rcases h.1.2 with ⟨rfl, h0⟩ | ⟨g, cap, cur, rfl, hb, hg, h1, h2, h3, h4⟩
  · omega
  · unfold maxLen at h2; omega
theorem OwnM.row {w : World} {base : Nat} {e : TypeId} {v : Value} {l : List Mb} (h : OwnM w base e v l) : MRow w v l := by
  have hn := h.len
  rcases h.1.2 with ⟨rfl, h0⟩ | ⟨g, cap, cur, rfl, hb, hg, h1, h2, h3, h4⟩
  · exact ⟨none, 0, by rw [h0], hn, h.2, fun hne => absurd (List.eq_nil_of_length_eq_zero h0) hne⟩
  · refine ⟨_, cap, rfl, hn, h.2, fun _ => ⟨g, 0, rfl, (Array.getElem?_eq_some_iff.1 hg).1, fun j m hm => ?_⟩⟩
    obtain ⟨g1, g2, g3⟩ := cellsM_get hm
    have k1 := h.1.cells (g := g) rfl _ _ g1
    have k2 := h.1.cells (g := g) rfl _ _ g2
    have k3 := h.1.cells (g := g) rfl _ _ g3
    rw [Addr.add_lit] at k1 k2 k3
    exact ⟨k1, k2, k3⟩
theorem OwnM.form {w : World} {base : Nat} {e : TypeId} {v : Value} {l : List Mb} (h : OwnM w base e v l) (hne : l ≠ []) : ∃ g cap, v = .slice (some ⟨g, 0, none⟩) l.length cap ∧ base ≤ g ∧ g < w.heap.size ∧ cap ≤ maxLen ∧ l.length ≤ cap := by
  rcases h.1.2 with ⟨rfl, h0⟩ | ⟨g, cap, cur, rfl, hb, hg, h1, h2, h3, h4⟩
  · exact absurd (List.eq_nil_of_length_eq_zero h0) hne
  · exact ⟨g, cap, rfl, hb, (Array.getElem?_eq_some_iff.1 hg).1, h2, h1⟩
theorem OwnM.kept {w w' : World} {base : Nat} {e : TypeId} {v : Value} {l : List Mb} (h : OwnM w base e v l) (hg : w.grownBy w' none) : OwnM w' base e v l :=
  ⟨h.1.kept hg (by rcases h.1.2 with ⟨rfl, _⟩ | ⟨g, cap, cur, rfl, _⟩ <;> simp [Value.ownBlock]), h.2⟩
theorem OwnM.nil (w : World) (base : Nat) (e : TypeId) : OwnM w base e (.slice none 0 0) [] := ⟨World.ownsRow_nil _ _ _ _, by simp⟩
theorem newsM (w : World) (m : Mb) (t : TypeId) : ∀ j u, ([.string m.n, .int .i64 m.t, .string m.c] : List Value)[j]? = some u → (w.alloc (.cells #[.string m.n, .int .i64 m.t, .string m.c] t)).cell? ((⟨w.heap.size, 0, none⟩ : Addr).add j) = some u :=
  World.news_of_block (cs := #[.string m.n, .int .i64 m.t, .string m.c]) (t := t) (fr := (0, 0)) (heap_alloc_new w _)
theorem oneM (m : Mb) : ∀ u ∈ ([.string m.n, .int .i64 m.t, .string m.c] : List Value), u.oneCell' = true := by
  intro u hu; simp at hu; rcases hu with rfl | rfl | rfl <;> rfl
theorem take_snocM {l : List Mb} {k : Nat} {m : Mb} (h : l[k]? = some m) : l.take (k + 1) = l.take k ++ [m] := by rw [List.take_add_one, h]; rfl
theorem all_snocM {l : List Mb} {k : Nat} {m : Mb} (h : l[k]? = some m) (p : Mb → Bool) (ha : (l.take k).all p = true) (hb : p m = true) : (l.take (k + 1)).all p = true := by
  rw [take_snocM h, List.all_append, ha]; simp [hb]
theorem all_badM {l : List Mb} {k : Nat} {m : Mb} (h : l[k]? = some m) (p : Mb → Bool) (hb : p m = false) : l.all p = false := by
  rw [List.all_eq_false]; exact ⟨m, List.mem_of_getElem? h, by simp [hb]⟩
theorem all_endM {l : List Mb} {k : Nat} (hk : l.length ≤ k) (p : Mb → Bool) (ha : (l.take k).all p = true) : l.all p = true := by
  rwa [List.take_of_length_le hk] at ha
end Go.Proofs.YtbcemenfklgnkaaGreatDoor

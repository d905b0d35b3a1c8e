/- The walk of layer 9 in memory: rows of ways, kept places, the walk's variable; what a store or an append leaves of it. -/
import Derived.Test.YtlkjejmmoalliaaGreatDoorPkPlain
import Derived.Test.YtlkjejmmoalliaaGreatDoorPgWr
namespace Go.Proofs.YtlkjejmmoalliaaGreatDoor
open Go.RowKit

/-- a way in memory: its instruction, the block of its kept places, these -/
structure Wx where
  a : Int
  b : Nat
  k : List Int
def intsV (k : List Int) : List Value := k.map (Value.int .i64)
theorem intsV_len (k : List Int) : (intsV k).length = k.length := by unfold intsV; simp
theorem intsV_get {k : List Int} {j : Nat} {v : Int} (h : k[j]? = some v) : (intsV k)[j]? = some (.int .i64 v) := by unfold intsV; simp [h]
theorem intsV_set (k : List Int) (j : Nat) (v : Int) : (intsV k).set j (.int .i64 v) = intsV (k.set j v) := by unfold intsV; rw [List.map_set]
def wayC (x : Wx) : List Value := [.int .i64 x.a, .pointer (some ⟨x.b, 0, none⟩)]
abbrev wayV (a : Int) (b : Nat) : Value := .agg #[.int .i64 a, .pointer (some ⟨b, 0, none⟩)]
def flatW (l : List Wx) : List Value := l.flatMap wayC
theorem flatW_append (L R : List Wx) : flatW (L ++ R) = flatW L ++ flatW R := by unfold flatW; simp
theorem flatW_cons (c : Wx) (L : List Wx) : flatW (c :: L) = wayC c ++ flatW L := by unfold flatW; simp
theorem flatW_one (c : Wx) : flatW [c] = wayC c := by unfold flatW; simp
theorem flatW_len (L : List Wx) : (flatW L).length = L.length * 2 := by
  induction L with
  | nil => rfl
  | cons c L ih => rw [flatW_cons, List.length_append, ih, List.length_cons]; show 2 + _ = _; omega
theorem flatW_get : ∀ (L : List Wx) (k : Nat) (c : Wx), L[k]? = some c → (flatW L)[k * 2]? = some (.int .i64 c.a) ∧ (flatW L)[k * 2 + 1]? = some (.pointer (some ⟨c.b, 0, none⟩)) := by
  intro L
  induction L with
  | nil => intro k c hx; simp at hx
  | cons y L ih =>
    intro k c hx
    have hl : (wayC y).length = 2 := rfl
    rw [flatW_cons]
    cases k with
    | zero => simp at hx; subst hx; exact ⟨rfl, rfl⟩
    | succ k =>
      have := ih k c (by simpa using hx)
      rw [List.getElem?_append, List.getElem?_append, if_neg (by rw [hl]; omega), if_neg (by rw [hl]; omega), hl, show (k + 1) * 2 - 2 = k * 2 by omega, show (k + 1) * 2 + 1 - 2 = k * 2 + 1 by omega]
      exact this
theorem way_one (c : Wx) : ∀ u ∈ wayC c, u.oneCell' = true := by unfold wayC; intro u hu; simp at hu; rcases hu with rfl | rfl <;> rfl
/-- a block of twenty kept places -/
structure Kep (w0 : World) (b : Nat) (k : List Int) (w : World) : Prop where
  H : w.heap[b]? = some (.cells (intsV k).toArray 83 (0, 0))
  hb : w0.heap.size ≤ b
  hk : k.length = 20
theorem Kep.lt {w0 w : World} {b : Nat} {k : List Int} (h : Kep w0 b k w) : b < w.heap.size := (Array.getElem?_eq_some_iff.1 h.H).1
theorem Kep.kept {w0 w w' : World} {b : Nat} {k : List Int} {r : Option Nat} (h : Kep w0 b k w) (g : w.grownBy w' r) (hr : some b ≠ r) : Kep w0 b k w' := ⟨(g.block b h.lt hr).trans h.H, h.hb, h.hk⟩
theorem Kep.grown {w0 w w' : World} {b : Nat} {k : List Int} (h : Kep w0 b k w) (g : w.grownBy w' none) : Kep w0 b k w' := h.kept g (by simp)
/-- the walk's variable in block p, and all that it leads to; w0: the world of the call's begin -/
structure Wk (w0 : World) (p : Nat) (cv : Value) (s : ByteArray) (q : Nat) (bv : Value) (B : List Int) (sv : Value) (S : List Wx) (nv : Value) (N : List Wx) (w : World) : Prop where
  G : w0.grownBy w none
  hp : w0.heap.size ≤ p
  P : w.heap[p]? = some (.cells #[cv, .string s, .int .i64 q, bv, sv, nv] 60 (0, 0))
  oB : w.ownsRow w0.heap.size 3 1 bv B.length (intsV B)
  oS : w.ownsRow w0.heap.size 57 2 sv S.length (flatW S)
  oN : w.ownsRow w0.heap.size 57 2 nv N.length (flatW N)
  ap : ∀ g, sv.ownBlock = some g → nv.ownBlock ≠ some g
  KS : ∀ x ∈ S, Kep w0 x.b x.k w
  KN : ∀ x ∈ N, Kep w0 x.b x.k w
section
variable {w0 w w' : World} {p q : Nat} {cv bv sv nv : Value} {s : ByteArray} {B : List Int} {S N : List Wx}
theorem Wk.lt (h : Wk w0 p cv s q bv B sv S nv N w) : p < w.heap.size := (Array.getElem?_eq_some_iff.1 h.P).1
/-- writes to a block that the walk doesn't lead to, and new blocks -/
theorem Wk.kept {r : Option Nat} (h : Wk w0 p cv s q bv B sv S nv N w) (g : w.grownBy w' r) (h0 : ∀ k, r = some k → w0.heap.size ≤ k ∧ k ≠ p ∧ bv.ownBlock ≠ some k ∧ sv.ownBlock ≠ some k ∧ nv.ownBlock ≠ some k ∧ (∀ x ∈ S, x.b ≠ k) ∧ (∀ x ∈ N, x.b ≠ k)) : Wk w0 p cv s q bv B sv S nv N w' := by
  have hn : ∀ v : Value, (∀ k, r = some k → v.ownBlock ≠ some k) → v.ownBlock = none ∨ v.ownBlock ≠ r := fun v hv => by
    cases r with
    | none => cases hv' : v.ownBlock <;> simp
    | some k => exact .inr (hv k rfl)
  refine ⟨h.G.andThen g (fun j hj => .inl (h0 j hj).1), h.hp, (g.block p h.lt (fun e => (h0 p e.symm).2.1 rfl)).trans h.P, h.oB.kept g (hn _ fun k e => (h0 k e).2.2.1), h.oS.kept g (hn _ fun k e => (h0 k e).2.2.2.1),
    h.oN.kept g (hn _ fun k e => (h0 k e).2.2.2.2.1), h.ap, fun x hx => (h.KS x hx).kept g (fun e => (h0 _ e.symm).2.2.2.2.2.1 x hx rfl), fun x hx => (h.KN x hx).kept g (fun e => (h0 _ e.symm).2.2.2.2.2.2 x hx rfl)⟩
theorem Wk.grown (h : Wk w0 p cv s q bv B sv S nv N w) (g : w.grownBy w' none) : Wk w0 p cv s q bv B sv S nv N w' := h.kept g (fun k e => by cases e)
theorem Kep.ne {b g : Nat} {k : List Int} {cs : Array Value} {t : TypeId} (h : Kep w0 b k w) (hr : w.heap[g]? = some (.cells cs t (0, 0))) (ht : t ≠ 83) : b ≠ g := fun e => by
  subst e; rw [h.H] at hr; simp at hr; exact ht hr.2.symm
theorem Kep.own {b n sz base : Nat} {k : List Int} {e : TypeId} {v : Value} {xs : List Value} (h : Kep w0 b k w) (o : w.ownsRow base e sz v n xs) (ht : e ≠ 83) : v.ownBlock ≠ some b := own_type o h.H ht
/-- a block of the call's own that is of another type than all the walk's -/
structure Far (w0 : World) (p : Nat) (bv sv nv : Value) (S N : List Wx) (r : Nat) : Prop where
  hb : w0.heap.size ≤ r
  ne : r ≠ p
  nb : bv.ownBlock ≠ some r
  ns : sv.ownBlock ≠ some r
  nn : nv.ownBlock ≠ some r
  ks : ∀ x ∈ S, x.b ≠ r
  kn : ∀ x ∈ N, x.b ≠ r
theorem Wk.far {r : Nat} (h : Wk w0 p cv s q bv B sv S nv N w) (f : Far w0 p bv sv nv S N r) (g : w.grownBy w' (some r)) : Wk w0 p cv s q bv B sv S nv N w' :=
  h.kept g (fun k e => by cases e; exact ⟨f.hb, f.ne, f.nb, f.ns, f.nn, f.ks, f.kn⟩)
theorem Wk.farNew {r : Nat} (h : Wk w0 p cv s q bv B sv S nv N w) (hr : w.heap.size ≤ r) : Far w0 p bv sv nv S N r :=
  ⟨Nat.le_trans h.G.size hr, by have := h.lt; omega, fun e => by have := (h.oB.lt r e).2; omega, fun e => by have := (h.oS.lt r e).2; omega, fun e => by have := (h.oN.lt r e).2; omega, fun x hx e => by have := (h.KS x hx).lt; omega, fun x hx e => by have := (h.KN x hx).lt; omega⟩
/-- a number of the walk's variable is stored -/
theorem wk_poke {a4 a5 sv' nv' : Value} {S' N' : List Wx} {q' : Nat} (hG : w0.grownBy w none) (hp : w0.heap.size ≤ p) (hP : w.heap[p]? = some (.cells #[cv, .string s, .int .i64 q, bv, a4, a5] 60 (0, 0)))
    (hB : w.ownsRow w0.heap.size 3 1 bv B.length (intsV B)) (g : w.grownBy w' (some p))
    (hP' : w'.heap[p]? = some (.cells #[cv, .string s, .int .i64 q', bv, sv', nv'] 60 (0, 0)))
    (hS : w.ownsRow w0.heap.size 57 2 sv' S'.length (flatW S')) (hN : w.ownsRow w0.heap.size 57 2 nv' N'.length (flatW N'))
    (ap : ∀ g, sv'.ownBlock = some g → nv'.ownBlock ≠ some g) (KS : ∀ x ∈ S', Kep w0 x.b x.k w) (KN : ∀ x ∈ N', Kep w0 x.b x.k w) : Wk w0 p cv s q' bv B sv' S' nv' N' w' := by
  have hn : ∀ {e : TypeId} {sz n : Nat} {v : Value} {xs : List Value}, w.ownsRow w0.heap.size e sz v n xs → e ≠ 60 → v.ownBlock = none ∨ v.ownBlock ≠ some p := fun o he => .inr (own_type o hP he)
  have hk : ∀ {x : Wx}, Kep w0 x.b x.k w → some x.b ≠ some p := fun kx e => by cases e; have := kx.H; rw [hP] at this; simp at this
  exact ⟨hG.andThen g (fun j hj => .inl (by cases hj; exact hp)), hp, hP', hB.kept g (hn hB (by decide)), hS.kept g (hn hS (by decide)), hN.kept g (hn hN (by decide)), ap, fun x hx => (KS x hx).kept g (hk (KS x hx)), fun x hx => (KN x hx).kept g (hk (KN x hx))⟩
theorem Wk.poke (h : Wk w0 p cv s q bv B sv S nv N w) (g : w.grownBy w' (some p)) {q' : Nat} {sv' nv' : Value} {S' N' : List Wx}
    (hP : w'.heap[p]? = some (.cells #[cv, .string s, .int .i64 q', bv, sv', nv'] 60 (0, 0)))
    (hS : w.ownsRow w0.heap.size 57 2 sv' S'.length (flatW S')) (hN : w.ownsRow w0.heap.size 57 2 nv' N'.length (flatW N'))
    (ap : ∀ g, sv'.ownBlock = some g → nv'.ownBlock ≠ some g) (KS : ∀ x ∈ S', Kep w0 x.b x.k w) (KN : ∀ x ∈ N', Kep w0 x.b x.k w) : Wk w0 p cv s q' bv B sv' S' nv' N' w' :=
  wk_poke h.G h.hp h.P h.oB g hP hS hN ap KS KN
theorem flatW_take (l : List Wx) (m : Nat) : (flatW l).take (m * 2) = flatW (l.take m) := by
  induction l generalizing m with
  | nil => simp [flatW]
  | cons x l ih =>
    cases m with
    | zero => simp [flatW]
    | succ m =>
      rw [flatW_cons, List.take_succ_cons, flatW_cons, ← ih m, List.take_append]
      have : (wayC x).length = 2 := rfl
      rw [this, List.take_of_length_le (by rw [this]; omega), show (m + 1) * 2 - 2 = m * 2 by omega]
/-- the walk, its stack grown by one -/
theorem Wk.pushS (h : Wk w0 p cv s q bv B sv S nv N w) {x : Wx} (hx : Kep w0 x.b x.k w) {gg cap : Nat} {w7 : World}
    (o : w7.ownsRow w0.heap.size 57 2 (.slice (some ⟨gg, 0, none⟩) (S.length + 1) cap) (S.length + 1) (flatW S ++ wayC x)) (g : w.grownBy w7 sv.ownBlock) (hat : sv.ownBlock = some gg ∨ w.heap.size ≤ gg) :
    Wk w0 p cv s q bv B (.slice (some ⟨gg, 0, none⟩) (S.length + 1) cap) (S ++ [x]) nv N (w7.setCell ⟨p, 4, none⟩ (.slice (some ⟨gg, 0, none⟩) (S.length + 1) cap)) := by
  have hnp : sv.ownBlock ≠ some p := own_type h.oS h.P (by decide)
  have P7 := (g.block p h.lt (fun e => hnp e.symm)).trans h.P
  have G7 : w0.grownBy w7 none := h.G.andThen g (fun j hj => .inl (h.oS.lt j hj).1)
  have hnn : nv.ownBlock = none ∨ nv.ownBlock ≠ sv.ownBlock := by
    cases hs : sv.ownBlock with
    | none => cases nv.ownBlock <;> simp
    | some k => exact .inr (h.ap k hs)
  have hk : ∀ {y : Wx}, Kep w0 y.b y.k w → Kep w0 y.b y.k w7 := fun ky => ky.kept g (fun e => (ky.own h.oS (by decide)) e.symm)
  refine wk_poke G7 h.hp P7 (h.oB.kept g (own_row h.oB h.oS (by decide))) (grown_cell w7 p 4 _) (heap_setCell_same w7 p 4 _ _ _ P7) ?_ (h.oN.kept g hnn) ?_ ?_ fun y hy => hk (h.KN y hy)
  · rw [List.length_append, flatW_append, flatW_one]; exact o
  · intro k e hn
    have e1 : gg = k := by simpa [Value.ownBlock] using e
    subst e1
    rcases hat with hat | hat
    · exact h.ap gg hat hn
    · have := (h.oN.lt gg hn).2; omega
  · intro y hy
    rcases List.mem_append.1 hy with hy | hy
    · exact hk (h.KS y hy)
    · simp at hy; subst hy; exact hk hx
/-- the walk, its ways at the next place grown by one -/
theorem Wk.pushN (h : Wk w0 p cv s q bv B sv S nv N w) {x : Wx} (hx : Kep w0 x.b x.k w) {gg cap : Nat} {w7 : World}
    (o : w7.ownsRow w0.heap.size 57 2 (.slice (some ⟨gg, 0, none⟩) (N.length + 1) cap) (N.length + 1) (flatW N ++ wayC x)) (g : w.grownBy w7 nv.ownBlock) (hat : nv.ownBlock = some gg ∨ w.heap.size ≤ gg) :
    Wk w0 p cv s q bv B sv S (.slice (some ⟨gg, 0, none⟩) (N.length + 1) cap) (N ++ [x]) (w7.setCell ⟨p, 5, none⟩ (.slice (some ⟨gg, 0, none⟩) (N.length + 1) cap)) := by
  have hnp : nv.ownBlock ≠ some p := own_type h.oN h.P (by decide)
  have P7 := (g.block p h.lt (fun e => hnp e.symm)).trans h.P
  have G7 : w0.grownBy w7 none := h.G.andThen g (fun j hj => .inl (h.oN.lt j hj).1)
  have hnn : sv.ownBlock = none ∨ sv.ownBlock ≠ nv.ownBlock := by
    cases hs : sv.ownBlock with
    | none => exact .inl rfl
    | some k => exact .inr (fun e => h.ap k hs e.symm)
  have hk : ∀ {y : Wx}, Kep w0 y.b y.k w → Kep w0 y.b y.k w7 := fun ky => ky.kept g (fun e => (ky.own h.oN (by decide)) e.symm)
  refine wk_poke G7 h.hp P7 (h.oB.kept g (own_row h.oB h.oN (by decide))) (grown_cell w7 p 5 _) (heap_setCell_same w7 p 5 _ _ _ P7) (h.oS.kept g hnn) ?_ ?_ (fun y hy => hk (h.KS y hy)) ?_
  · rw [List.length_append, flatW_append, flatW_one]; exact o
  · intro k e hn
    have e1 : gg = k := by simpa [Value.ownBlock] using hn
    subst e1
    rcases hat with hat | hat
    · exact h.ap gg e hat
    · have := (h.oS.lt gg e).2; omega
  · intro y hy
    rcases List.mem_append.1 hy with hy | hy
    · exact hk (h.KN y hy)
    · simp at hy; subst hy; exact hk hx
/-- the walk, its stack's last way taken off -/
theorem Wk.pop {a : Option Addr} {cap m : Nat} {x : Wx} (h : Wk w0 p cv s q bv B (.slice a (m + 1) cap) (S ++ [x]) nv N w) (hm : S.length = m) :
    ∃ g, a = some ⟨g, 0, none⟩ ∧ m + 1 ≤ cap ∧ w.cell? ⟨g, m * 2, none⟩ = some (.int .i64 x.a) ∧ w.cell? ⟨g, m * 2 + 1, none⟩ = some (.pointer (some ⟨x.b, 0, none⟩)) ∧
      Wk w0 p cv s q bv B (.slice a m cap) S nv N (w.setCell ⟨p, 4, none⟩ (.slice a m cap)) := by
  have hS := h.oS
  have hl : (S ++ [x]).length = m + 1 := by simp [hm]
  rw [hl] at hS
  rcases hS.2 with ⟨-, e⟩ | ⟨g, cap', cur, e, hg, hh, hn, hc, hs, ht⟩
  · omega
  · cases e
    have hx : (S ++ [x])[m]? = some x := by rw [← hm]; simp
    obtain ⟨h1, h2⟩ := flatW_get _ _ _ hx
    have c1 := hS.cells (g := g) rfl _ _ h1
    have c2 := hS.cells (g := g) rfl _ _ h2
    rw [Addr.add_lit, Nat.zero_add] at c1 c2
    refine ⟨g, rfl, hn, c1, c2, h.poke (grown_cell w p 4 _) (heap_setCell_same w p 4 _ _ _ h.P) ?_ h.oN h.ap (fun y hy => h.KS y (by simp [hy])) h.KN⟩
    have := own_take hS (m := m) (by omega) (by simp)
    rw [flatW_take, List.take_append_of_le_length (by omega), List.take_of_length_le (by omega)] at this
    rw [hm]; exact this
/-- the walk at a place is marked -/
theorem Wk.mark (h : Wk w0 p cv s q bv B sv S nv N w) {g n cap a : Nat} (e : bv = .slice (some ⟨g, 0, none⟩) n cap) (hn : n = B.length) (v : Int) : Wk w0 p cv s q bv (B.set a v) sv S nv N (w.setCell ⟨g, a, none⟩ (.int .i64 v)) := by
  subst e hn
  obtain ⟨h1, h2⟩ := h.oB.stored a (.int .i64 v)
  have hnp : (Value.slice (some ⟨g, 0, none⟩) B.length cap).ownBlock ≠ some p := own_type h.oB h.P (by decide)
  have hn : ∀ {sz n : Nat} {v : Value} {xs : List Value}, w.ownsRow w0.heap.size 57 sz v n xs → v.ownBlock = none ∨ v.ownBlock ≠ some g := fun o => own_row o h.oB (by decide)
  have hk : ∀ {y : Wx}, Kep w0 y.b y.k w → some y.b ≠ some g := fun ky e => (ky.own h.oB (by decide)) (by cases e; rfl)
  refine ⟨h.G.andThen h2 (fun j hj => .inl (by cases hj; exact (h.oB.lt g rfl).1)), h.hp, (h2.block p h.lt (fun e => hnp (by cases e; rfl))).trans h.P, ?_, h.oS.kept h2 (hn h.oS), h.oN.kept h2 (hn h.oN), h.ap, fun x hx => (h.KS x hx).kept h2 (hk (h.KS x hx)), fun x hx => (h.KN x hx).kept h2 (hk (h.KN x hx))⟩
  rw [List.length_set, ← intsV_set]; exact h1
end
end Go.Proofs.YtlkjejmmoalliaaGreatDoor

/- Instructions in memory; whether all leads on; whether two programs are the same. The writer of programs: what its variable holds, what a call leaves of the world; put. The writer's Splits and Jumps: what they are given later on. The writer's Jumps; an instruction is given where it leads. -/
import Derived.Test.YtlkjejmmoalliaaDoorPgMem
import Derived.Deep.RegionLaw
import Derived.Deep.CutBlock
namespace Go.Proofs.YtlkjejmmoalliaaDoor
open Go.RowKit

def cellsC (c : Ins) : List Value := [.int .i64 c.o, .int .i64 c.x, .int .i64 c.y, .int .u64 (wd c.s 0), .int .u64 (wd c.s 1), .int .u64 (wd c.s 2), .int .u64 (wd c.s 3)]
abbrev insV (c : Ins) : Value := .agg #[.int .i64 c.o, .int .i64 c.x, .int .i64 c.y, .int .u64 (wd c.s 0), .int .u64 (wd c.s 1), .int .u64 (wd c.s 2), .int .u64 (wd c.s 3)]
def flatC (L : List Ins) : List Value := L.flatMap cellsC
theorem flatC_append (L R : List Ins) : flatC (L ++ R) = flatC L ++ flatC R := by unfold flatC; simp
theorem flatC_cons (c : Ins) (L : List Ins) : flatC (c :: L) = cellsC c ++ flatC L := by unfold flatC; simp
theorem flatC_one (c : Ins) : flatC [c] = cellsC c := by unfold flatC; simp
theorem flatC_len (L : List Ins) : (flatC L).length = L.length * 7 := by
  induction L with
  | nil => rfl
  | cons c L ih => rw [flatC_cons, List.length_append, ih, List.length_cons]; show 7 + _ = _; omega
theorem flatC_get : ∀ (L : List Ins) (k : Nat) (c : Ins), L[k]? = some c → ∀ j u, (cellsC c)[j]? = some u → (flatC L)[k * 7 + j]? = some u := by
  intro L
  induction L with
  | nil => intro k c hx; simp at hx
  | cons y L ih =>
    intro k c hx j u hu
    have hl : (cellsC y).length = 7 := rfl
    have hj : j < 7 := (List.getElem?_eq_some_iff.1 hu).1
    rw [flatC_cons, List.getElem?_append]
    cases k with
    | zero =>
      simp at hx; subst hx
      rw [if_pos (by rw [hl]; omega)]
      simpa using hu
    | succ k =>
      rw [if_neg (by rw [hl]; omega), hl, show (k + 1) * 7 + j - 7 = k * 7 + j by omega]
      exact ih k c (by simpa using hx) j u hu
theorem flatC_set : ∀ (L : List Ins) (k : Nat) (c c' : Ins) (j : Nat) (v : Value), L[k]? = some c → j < 7 → (cellsC c).set j v = cellsC c' → (flatC L).set (k * 7 + j) v = flatC (L.set k c') := by
  intro L
  induction L with
  | nil => intro k c c' j v hx; simp at hx
  | cons y L ih =>
    intro k c c' j v hx hj hs
    have hl : (cellsC y).length = 7 := rfl
    cases k with
    | zero =>
      simp at hx; subst hx
      rw [List.set_cons_zero, flatC_cons, flatC_cons, List.set_append, if_pos (by rw [hl]; omega), Nat.zero_mul, Nat.zero_add, hs]
    | succ k =>
      rw [List.set_cons_succ, flatC_cons, flatC_cons, List.set_append, if_neg (by rw [hl]; omega), hl, show (k + 1) * 7 + j - 7 = k * 7 + j by omega]
      rw [ih k c c' j v (by simpa using hx) hj hs]
theorem flatC_oneCell (L : List Ins) : ∀ u ∈ flatC L, u.oneCell' = true := by
  intro u hu
  obtain ⟨c, -, hc⟩ := List.mem_flatMap.1 hu
  unfold cellsC at hc; simp at hc; rcases hc with rfl | rfl | rfl | rfl | rfl | rfl | rfl <;> rfl
/-- v is a slice that holds the instructions l -/
def CRow (w : World) (v : Value) (l : List Ins) : Prop :=
  ∃ a c, v = .slice a l.length c ∧ ∀ k x, l[k]? = some x → ∃ b off, a = some ⟨b, off, none⟩ ∧ ∀ j u, (cellsC x)[j]? = some u → w.cell? ⟨b, off + k * 7 + j, none⟩ = some u
theorem CRow.grown {w w' : World} {v : Value} {l : List Ins} (h : CRow w v l) (g : w.grownBy w' none) : CRow w' v l := by
  obtain ⟨a, c, e, hc⟩ := h
  refine ⟨a, c, e, fun k x hx => ?_⟩
  obtain ⟨b, off, ea, hh⟩ := hc k x hx
  exact ⟨b, off, ea, fun j u hu => g.cell (hh j u hu) (by simp)⟩
theorem CRow.shape {w : World} {v : Value} {l : List Ins} (h : CRow w v l) : ∃ a c, v = .slice a l.length c := by obtain ⟨a, c, e, -⟩ := h; exact ⟨a, c, e⟩
theorem CRow.at {w : World} {a : Option Addr} {m c k : Nat} {x : Ins} {l : List Ins} (h : CRow w (.slice a m c) l) (hk : l[k]? = some x) :
    ∃ b off, a = some ⟨b, off, none⟩ ∧ ∀ j u, (cellsC x)[j]? = some u → w.cell? ⟨b, off + k * 7 + j, none⟩ = some u := by
  obtain ⟨a', c', e, hc⟩ := h
  cases e
  exact hc k x hk
theorem crow_of_owns {w : World} {base : Nat} {T : TypeId} {v : Value} {l : List Ins} (h : w.ownsRow base T 7 v l.length (flatC l)) : CRow w v l := by
  rcases h.2 with ⟨rfl, h0⟩ | ⟨g, cap, cur, rfl, hbg, hg, _⟩
  · have : l = [] := List.eq_nil_of_length_eq_zero h0
    subst this
    exact ⟨none, 0, rfl, fun k x hx => by simp at hx⟩
  · refine ⟨_, cap, rfl, fun k x hx => ⟨g, 0, rfl, fun j u hu => ?_⟩⟩
    have := h.cells (g := g) rfl _ _ (flatC_get l k x hx j u hu)
    rw [Addr.add_lit] at this
    rw [show 0 + k * 7 + j = 0 + (k * 7 + j) by omega]
    exact this

/-! rows of a call's own, told apart -/
/-- the block of a row whose elements are of type e -/
theorem own_type {w : World} {base s n r : Nat} {e t : TypeId} {v : Value} {xs : List Value} {cs : Array Value} (h : w.ownsRow base e s v n xs) (hr : w.heap[r]? = some (.cells cs t (0, 0))) (he : e ≠ t) : v.ownBlock ≠ some r := by
  rcases h.2 with ⟨rfl, -⟩ | ⟨g, cap, cur, rfl, -, hg, -⟩
  · simp [Value.ownBlock]
  · intro e1
    have e2 : g = r := by simpa [Value.ownBlock] using e1
    subst e2
    rw [hg] at hr
    simp at hr
    exact he hr.2
theorem grown_cell (w : World) (r o : Nat) (v : Value) : w.grownBy (w.setCell ⟨r, o, none⟩ v) (some r) :=
  ⟨rfl, rfl, rfl, by simp, fun k _ hk => heap_setCell_other w _ k v (fun e => hk (by rw [e]))⟩
theorem own_row {w : World} {b b' n n' sz sz' : Nat} {e e' : TypeId} {v v' : Value} {xs xs' : List Value} (h : w.ownsRow b e sz v n xs) (h2 : w.ownsRow b' e' sz' v' n' xs') (he : e ≠ e') : v.ownBlock = none ∨ v.ownBlock ≠ v'.ownBlock := by
  rcases h2.2 with ⟨rfl, -⟩ | ⟨g, cap, cur, rfl, -, hg, -⟩
  · cases hv : v.ownBlock <;> simp [Value.ownBlock]
  · exact .inr (own_type h hg he)
theorem six_cells {w : World} {v0 v1 v2 v3 v4 v5 : Value} {t : TypeId} {b : Nat} (h : w.heap[b]? = some (.cells #[v0, v1, v2, v3, v4, v5] t (0, 0))) :
    w.cell? ⟨b, 0, none⟩ = some v0 ∧ w.cell? ⟨b, 1, none⟩ = some v1 ∧ w.cell? ⟨b, 2, none⟩ = some v2 ∧ w.cell? ⟨b, 3, none⟩ = some v3 ∧ w.cell? ⟨b, 4, none⟩ = some v4 ∧ w.cell? ⟨b, 5, none⟩ = some v5 := by
  unfold World.cell?; rw [h]; exact ⟨rfl, rfl, rfl, rfl, rfl, rfl⟩
theorem two_cell9 {w : World} {v0 v1 : Value} {t : TypeId} {b : Nat} (h : w.heap[b]? = some (.cells #[v0, v1] t (0, 0))) : w.cell? ⟨b, 0, none⟩ = some v0 ∧ w.cell? ⟨b, 1, none⟩ = some v1 := by
  unfold World.cell?; rw [h]; exact ⟨rfl, rfl⟩
/-- the first elements of a row alone -/
theorem own_take {w : World} {base n m cap : Nat} {e : TypeId} {sz : Nat} {a : Option Addr} {xs : List Value} (h : w.ownsRow base e sz (.slice a n cap) n xs) (hm : m ≤ n) (ha : a ≠ none) : w.ownsRow base e sz (.slice a m cap) m (xs.take (m * sz)) := by
  rcases h with ⟨hl, ⟨e1, -⟩ | ⟨g, cap', cur, e1, hg, hh, hn, hc, hs, ht⟩⟩
  · cases e1; exact (ha rfl).elim
  · cases e1
    have hmn : m * sz ≤ n * sz := Nat.mul_le_mul_right _ hm
    exact ⟨by rw [List.length_take, hl]; omega, .inr ⟨g, cap, cur, rfl, hg, hh, by omega, hc, hs, by rw [← ht, List.take_take]; congr 1; omega⟩⟩
end Go.Proofs.YtlkjejmmoalliaaDoor

namespace Go.Proofs.YtlkjejmmoalliaaDoor
open Go.RowKit

/-- what a call leaves of the world: all but the writer's variable and its row -/
structure Kp (p : Nat) (v : Value) (w : World) (v' : Value) (w' : World) : Prop where
  os : w'.os = w.os
  tape : w'.tape = w.tape
  output : w'.output = w.output
  size : w.heap.size ≤ w'.heap.size
  block : ∀ b, b < w.heap.size → b ≠ p → some b ≠ v.ownBlock → w'.heap[b]? = w.heap[b]?
  own : v'.ownBlock = v.ownBlock ∨ ∃ g, v'.ownBlock = some g ∧ w.heap.size ≤ g
theorem Kp.refl (p : Nat) (v : Value) (w : World) : Kp p v w v w := ⟨rfl, rfl, rfl, Nat.le_refl _, fun _ _ _ _ => rfl, .inl rfl⟩
theorem Kp.trans {p : Nat} {v v1 v2 : Value} {w w1 w2 : World} (h : Kp p v w v1 w1) (h2 : Kp p v1 w1 v2 w2) : Kp p v w v2 w2 := by
  refine ⟨h2.os.trans h.os, h2.tape.trans h.tape, h2.output.trans h.output, Nat.le_trans h.size h2.size, fun b hb hp hv => ?_, ?_⟩
  · refine (h2.block b (Nat.lt_of_lt_of_le hb h.size) hp fun e => ?_).trans (h.block b hb hp hv)
    rcases h.own with e1 | ⟨g, e1, hg⟩
    · exact hv (e.trans e1)
    · rw [e1] at e; cases e; omega
  · rcases h2.own with e2 | ⟨g, e2, hg⟩
    · rcases h.own with e1 | ⟨g, e1, hg⟩
      · exact .inl (e2.trans e1)
      · exact .inr ⟨g, e2.trans e1, hg⟩
    · exact .inr ⟨g, e2, Nat.le_trans h.size hg⟩
theorem Kp.ofGrown {p : Nat} {v : Value} {w w' : World} (g : w.grownBy w' none) : Kp p v w v w' := ⟨g.os, g.tape, g.output, g.size, fun b hb _ _ => g.block b hb (by simp), .inl rfl⟩
/-- a block that a call of the writer's leaves as it is -/
structure Safe (p : Nat) (v : Value) (b : Nat) (w : World) : Prop where
  lt : b < w.heap.size
  ne : b ≠ p
  no : some b ≠ v.ownBlock
theorem Kp.safe {p b : Nat} {v v' : Value} {w w' : World} (h : Kp p v w v' w') (s : Safe p v b w) : Safe p v' b w' := by
  refine ⟨Nat.lt_of_lt_of_le s.lt h.size, s.ne, fun e => ?_⟩
  rcases h.own with e1 | ⟨g, e1, hg⟩
  · exact s.no (e.trans e1)
  · rw [e1] at e; cases e; have := s.lt; omega
theorem Kp.at {p b : Nat} {v v' : Value} {w w' : World} {o : Obj} (h : Kp p v w v' w') (s : Safe p v b w) (hb : w.heap[b]? = some o) : w'.heap[b]? = some o := (h.block b s.lt s.ne s.no).trans hb
theorem Kp.cell {p b off : Nat} {v v' u : Value} {w w' : World} (h : Kp p v w v' w') (s : Safe p v b w) (hu : w.cell? ⟨b, off, none⟩ = some u) : w'.cell? ⟨b, off, none⟩ = some u := by
  unfold World.cell? at hu ⊢
  rw [h.block b s.lt s.ne s.no]; exact hu
/-- a slice that grew, and the variable that was given it -/
theorem Kp.append {p gg : Nat} {v : Value} {w w7 : World} (g : w.grownBy w7 v.ownBlock) (hat : v.ownBlock = some gg ∨ w.heap.size ≤ gg) (u : Value) (hu : u.ownBlock = some gg) : Kp p v w u (w7.setCell ⟨p, 0, none⟩ u) := by
  refine ⟨g.os, g.tape, g.output, by rw [World.size_setCell]; exact g.size, fun b hb hp hv => ?_, ?_⟩
  · rw [heap_setCell_other w7 ⟨p, 0, none⟩ b _ (by exact hp)]; exact g.block b hb hv
  · rcases hat with e | e
    · exact .inl (hu.trans e.symm)
    · exact .inr ⟨gg, hu, e⟩
theorem new_ins (w : World) (c : Ins) (t : TypeId) (m : Nat) (hm : m = w.heap.size) : ∀ j u, (cellsC c)[j]? = some u → (w.alloc (.cells #[.int .i64 c.o, .int .i64 c.x, .int .i64 c.y, .int .u64 (wd c.s 0), .int .u64 (wd c.s 1), .int .u64 (wd c.s 2), .int .u64 (wd c.s 3)] t)).cell? ((⟨m, 0, none⟩ : Addr).add j) = some u := by
  subst hm
  exact World.news_of_block (cs := #[.int .i64 c.o, .int .i64 c.x, .int .i64 c.y, .int .u64 (wd c.s 0), .int .u64 (wd c.s 1), .int .u64 (wd c.s 2), .int .u64 (wd c.s 3)]) (t := t) (fr := (0, 0)) (heap_alloc_new w _)
theorem ins_one (c : Ins) : ∀ u ∈ cellsC c, u.oneCell' = true := by have := flatC_oneCell [c]; rwa [flatC_one] at this
theorem one_cell {w : World} {b : Nat} {v : Value} {t : TypeId} (h : w.heap[b]? = some (.cells #[v] t (0, 0))) : w.cell? ⟨b, 0, none⟩ = some v := by unfold World.cell?; rw [h]; rfl

theorem grown_st (w : World) (r o : Nat) (v : Value) : w.grownBy (w.setCell ⟨r, o, none⟩ v) (some r) :=
  ⟨rfl, rfl, rfl, by simp, fun k _ hk => heap_setCell_other w _ k v (fun e => hk (by rw [e]))⟩
theorem grown_rowP {w w1 w2 : World} {row : Option Nat} (h : w.grownBy w1 none) (g : w1.grownBy w2 row) : w.grownBy w2 row :=
  (World.grownBy.mk h.os h.tape h.output h.size (fun k hk _ => h.block k hk (by simp)) : w.grownBy w1 row).trans g

end Go.Proofs.YtlkjejmmoalliaaDoor

namespace Go.Proofs.YtlkjejmmoalliaaDoor
open Go.RowKit

/-- a call by its contract, as one step of a statement whose order is open -/
theorem step_callP {ops : Array Oper} {o : Oper} {a : Act} {w : World} {K : Act → World → Prop} {Q : Exit → Act → World → Prop} {E : Prop} {R : Ending → World → Prop}
    (hg : o.guard = none) (f : FuncId) (args : Array Value) (hrun : (execOp a.eval o).run Tryd.prog w = .ok (.enter f args) w) (hc : Calls Tryd.prog f args w R)
    (h : ∀ e w', R e w' → ∃ v, e = .returned v ∧ K (a.put o.dst v) w') : if Region.wanted o (yielded ops a.tmps) = true then Oper.wp Tryd.prog o a w K Q else E := by
  have hw : Region.wanted o (yielded ops a.tmps) = true := by simp [Region.wanted, hg]
  rw [if_pos hw]
  unfold Oper.wp
  rw [hrun, Oper.upon_enter]
  exact hc.mono fun e w' hr => by obtain ⟨v, rfl, hk⟩ := h e w' hr; exact hk
theorem Kp.poke {p r o : Nat} {v v' u : Value} {w w' : World} (h : Kp p v w v' w') (hr : w.heap.size ≤ r) : Kp p v w v' (w'.setCell ⟨r, o, none⟩ u) :=
  ⟨h.os, h.tape, h.output, by rw [World.size_setCell]; exact h.size, fun b hb hp hv => (heap_setCell_other w' ⟨r, o, none⟩ b _ (fun e => by have e' : b = r := e; omega)).trans (h.block b hb hp hv), h.own⟩
theorem Safe.poke {p b r o : Nat} {v u : Value} {w : World} (s : Safe p v b w) : Safe p v b (w.setCell ⟨r, o, none⟩ u) := ⟨by rw [World.size_setCell]; exact s.lt, s.ne, s.no⟩
end Go.Proofs.YtlkjejmmoalliaaDoor

namespace Go.Proofs.YtlkjejmmoalliaaDoor
open Go.RowKit

end Go.Proofs.YtlkjejmmoalliaaDoor

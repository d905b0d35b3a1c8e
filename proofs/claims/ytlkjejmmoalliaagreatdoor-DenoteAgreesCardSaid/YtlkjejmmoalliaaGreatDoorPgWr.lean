/- Instructions in memory; whether all leads on; whether two programs are the same. The writer of programs: what its variable holds, what a call leaves of the world; put. The writer's Splits and Jumps: what they are given later on. The writer's Jumps; an instruction is given where it leads. -/
import Derived.Test.YtlkjejmmoalliaaGreatDoorPgMem
import Derived.Deep.RegionLaw
import Derived.Deep.CutBlock
namespace Go.Proofs.YtlkjejmmoalliaaGreatDoor
open Go.RowKit

def cellsC (c : Ins) : List Value := [.int .i64 c.o, .int .i64 c.x, .int .i64 c.y, .int .u64 (wd c.s 0), .int .u64 (wd c.s 1), .int .u64 (wd c.s 2), .int .u64 (wd c.s 3)]
abbrev insV (c : Ins) : Value := .agg #[.int .i64 c.o, .int .i64 c.x, .int .i64 c.y, .int .u64 (wd c.s 0), .int .u64 (wd c.s 1), .int .u64 (wd c.s 2), .int .u64 (wd c.s 3)]
def flatC (L : List Ins) : List Value := L.flatMap cellsC
theorem flatC_append (L R : List Ins) : flatC (L ++ R) = flatC L ++ flatC R := by unfold flatC; simp
theorem flatC_cons (c : Ins) (L : List Ins) : flatC (c :: L) = cellsC c ++ flatC L := by unfold flatC; simp
theorem flatC_one (c : Ins) : flatC [c] = cellsC c := by unfold flatC; simp
theorem flatC_len (L : List Ins) : (flatC L).length = L.length * 7 := by
  induction L with
  | nil => rfl
  | cons c L ih => rw [flatC_cons, List.length_append, ih, List.length_cons]; show 7 + _ = _; omega
theorem flatC_get : ∀ (L : List Ins) (k : Nat) (c : Ins), L[k]? = some c → ∀ j u, (cellsC c)[j]? = some u → (flatC L)[k * 7 + j]? = some u := by
  intro L
  induction L with
  | nil => intro k c hx; simp at hx
  | cons y L ih =>
    intro k c hx j u hu
    have hl : (cellsC y).length = 7 := rfl
    have hj : j < 7 := (List.getElem?_eq_some_iff.1 hu).1
    rw [flatC_cons, List.getElem?_append]
    cases k with
    | zero =>
      simp at hx; subst hx
      rw [if_pos (by rw [hl]; omega)]
      simpa using hu
    | succ k =>
      rw [if_neg (by rw [hl]; omega), hl, show (k + 1) * 7 + j - 7 = k * 7 + j by omega]
      exact ih k c (by simpa using hx) j u hu
theorem flatC_set : ∀ (L : List Ins) (k : Nat) (c c' : Ins) (j : Nat) (v : Value), L[k]? = some c → j < 7 → (cellsC c).set j v = cellsC c' → (flatC L).set (k * 7 + j) v = flatC (L.set k c') := by
  intro L
  induction L with
  | nil => intro k c c' j v hx; simp at hx
  | cons y L ih =>
    intro k c c' j v hx hj hs
    have hl : (cellsC y).length = 7 := rfl
    cases k with
    | zero =>
      simp at hx; subst hx
      rw [List.set_cons_zero, flatC_cons, flatC_cons, List.set_append, if_pos (by rw [hl]; omega), Nat.zero_mul, Nat.zero_add, hs]
    | succ k =>
      rw [List.set_cons_succ, flatC_cons, flatC_cons, List.set_append, if_neg (by rw [hl]; omega), hl, show (k + 1) * 7 + j - 7 = k * 7 + j by omega]
      rw [ih k c c' j v (by simpa using hx) hj hs]
theorem flatC_oneCell (L : List Ins) : ∀ u ∈ flatC L, u.oneCell' = true := by
  intro u hu
  obtain ⟨c, -, hc⟩ := List.mem_flatMap.1 hu
  unfold cellsC at hc; simp at hc; rcases hc with rfl | rfl | rfl | rfl | rfl | rfl | rfl <;> rfl
/-- v is a slice that holds the instructions l -/
def CRow (w : World) (v : Value) (l : List Ins) : Prop :=
  ∃ a c, v = .slice a l.length c ∧ ∀ k x, l[k]? = some x → ∃ b off, a = some ⟨b, off, none⟩ ∧ ∀ j u, (cellsC x)[j]? = some u → w.cell? ⟨b, off + k * 7 + j, none⟩ = some u
theorem CRow.grown {w w' : World} {v : Value} {l : List Ins} (h : CRow w v l) (g : w.grownBy w' none) : CRow w' v l := by
  obtain ⟨a, c, e, hc⟩ := h
  refine ⟨a, c, e, fun k x hx => ?_⟩
  obtain ⟨b, off, ea, hh⟩ := hc k x hx
  exact ⟨b, off, ea, fun j u hu => g.cell (hh j u hu) (by simp)⟩
theorem CRow.shape {w : World} {v : Value} {l : List Ins} (h : CRow w v l) : ∃ a c, v = .slice a l.length c := by obtain ⟨a, c, e, -⟩ := h; exact ⟨a, c, e⟩
theorem CRow.at {w : World} {a : Option Addr} {m c k : Nat} {x : Ins} {l : List Ins} (h : CRow w (.slice a m c) l) (hk : l[k]? = some x) :
    ∃ b off, a = some ⟨b, off, none⟩ ∧ ∀ j u, (cellsC x)[j]? = some u → w.cell? ⟨b, off + k * 7 + j, none⟩ = some u := by
  obtain ⟨a', c', e, hc⟩ := h
  cases e
  exact hc k x hk
theorem crow_of_owns {w : World} {base : Nat} {T : TypeId} {v : Value} {l : List Ins} (h : w.ownsRow base T 7 v l.length (flatC l)) : CRow w v l := by
  rcases h.2 with ⟨rfl, h0⟩ | ⟨g, cap, cur, rfl, hbg, hg, _⟩
  · have : l = [] := List.eq_nil_of_length_eq_zero h0
    subst this
    exact ⟨none, 0, rfl, fun k x hx => by simp at hx⟩
  · refine ⟨_, cap, rfl, fun k x hx => ⟨g, 0, rfl, fun j u hu => ?_⟩⟩
    have := h.cells (g := g) rfl _ _ (flatC_get l k x hx j u hu)
    rw [Addr.add_lit] at this
    rw [show 0 + k * 7 + j = 0 + (k * 7 + j) by omega]
    exact this

/-! rows of a call's own, told apart -/
/-- the block of a row whose elements are of type e -/
theorem own_type {w : World} {base s n r : Nat} {e t : TypeId} {v : Value} {xs : List Value} {cs : Array Value} (h : w.ownsRow base e s v n xs) (hr : w.heap[r]? = some (.cells cs t (0, 0))) (he : e ≠ t) : v.ownBlock ≠ some r := by
  rcases h.2 with ⟨rfl, -⟩ | ⟨g, cap, cur, rfl, -, hg, -⟩
  · simp [Value.ownBlock]
  · intro e1
    have e2 : g = r := by simpa [Value.ownBlock] using e1
    subst e2
    rw [hg] at hr
    simp at hr
    exact he hr.2
theorem grown_cell (w : World) (r o : Nat) (v : Value) : w.grownBy (w.setCell ⟨r, o, none⟩ v) (some r) :=
  ⟨rfl, rfl, rfl, by simp, fun k _ hk => heap_setCell_other w _ k v (fun e => hk (by rw [e]))⟩
theorem own_row {w : World} {b b' n n' sz sz' : Nat} {e e' : TypeId} {v v' : Value} {xs xs' : List Value} (h : w.ownsRow b e sz v n xs) (h2 : w.ownsRow b' e' sz' v' n' xs') (he : e ≠ e') : v.ownBlock = none ∨ v.ownBlock ≠ v'.ownBlock := by
  rcases h2.2 with ⟨rfl, -⟩ | ⟨g, cap, cur, rfl, -, hg, -⟩
  · cases hv : v.ownBlock <;> simp [Value.ownBlock]
  · exact .inr (own_type h hg he)
theorem six_cells {w : World} {v0 v1 v2 v3 v4 v5 : Value} {t : TypeId} {b : Nat} (h : w.heap[b]? = some (.cells #[v0, v1, v2, v3, v4, v5] t (0, 0))) :
    w.cell? ⟨b, 0, none⟩ = some v0 ∧ w.cell? ⟨b, 1, none⟩ = some v1 ∧ w.cell? ⟨b, 2, none⟩ = some v2 ∧ w.cell? ⟨b, 3, none⟩ = some v3 ∧ w.cell? ⟨b, 4, none⟩ = some v4 ∧ w.cell? ⟨b, 5, none⟩ = some v5 := by
  unfold World.cell?; rw [h]; exact ⟨rfl, rfl, rfl, rfl, rfl, rfl⟩
theorem two_cell9 {w : World} {v0 v1 : Value} {t : TypeId} {b : Nat} (h : w.heap[b]? = some (.cells #[v0, v1] t (0, 0))) : w.cell? ⟨b, 0, none⟩ = some v0 ∧ w.cell? ⟨b, 1, none⟩ = some v1 := by
  unfold World.cell?; rw [h]; exact ⟨rfl, rfl⟩
/-- the first elements of a row alone -/
theorem own_take {w : World} {base n m cap : Nat} {e : TypeId} {sz : Nat} {a : Option Addr} {xs : List Value} (h : w.ownsRow base e sz (.slice a n cap) n xs) (hm : m ≤ n) (ha : a ≠ none) : w.ownsRow base e sz (.slice a m cap) m (xs.take (m * sz)) := by
  rcases h with ⟨hl, ⟨e1, -⟩ | ⟨g, cap', cur, e1, hg, hh, hn, hc, hs, ht⟩⟩
  · cases e1; exact (ha rfl).elim
  · cases e1
    have hmn : m * sz ≤ n * sz := Nat.mul_le_mul_right _ hm
    exact ⟨by rw [List.length_take, hl]; omega, .inr ⟨g, cap, cur, rfl, hg, hh, by omega, hc, hs, by rw [← ht, List.take_take]; congr 1; omega⟩⟩
end Go.Proofs.YtlkjejmmoalliaaGreatDoor

namespace Go.Proofs.YtlkjejmmoalliaaGreatDoor
open Go.RowKit

/-- the writer's variable in block p: its slice v, the code l -/
structure Wr (p : Nat) (v : Value) (l : List Ins) (w : World) : Prop where
  P : w.heap[p]? = some (.cells #[v] 70 (0, 0))
  O : w.ownsRow (p + 1) 74 7 v l.length (flatC l)
/-- what a call leaves of the world: all but the writer's variable and its row -/
structure Kp (p : Nat) (v : Value) (w : World) (v' : Value) (w' : World) : Prop where
  os : w'.os = w.os
  tape : w'.tape = w.tape
  output : w'.output = w.output
  size : w.heap.size ≤ w'.heap.size
  block : ∀ b, b < w.heap.size → b ≠ p → some b ≠ v.ownBlock → w'.heap[b]? = w.heap[b]?
  own : v'.ownBlock = v.ownBlock ∨ ∃ g, v'.ownBlock = some g ∧ w.heap.size ≤ g
theorem Kp.refl (p : Nat) (v : Value) (w : World) : Kp p v w v w := ⟨rfl, rfl, rfl, Nat.le_refl _, fun _ _ _ _ => rfl, .inl rfl⟩
theorem Kp.trans {p : Nat} {v v1 v2 : Value} {w w1 w2 : World} (h : Kp p v w v1 w1) (h2 : Kp p v1 w1 v2 w2) : Kp p v w v2 w2 := by
  refine ⟨h2.os.trans h.os, h2.tape.trans h.tape, h2.output.trans h.output, Nat.le_trans h.size h2.size, fun b hb hp hv => ?_, ?_⟩
  · refine (h2.block b (Nat.lt_of_lt_of_le hb h.size) hp fun e => ?_).trans (h.block b hb hp hv)
    rcases h.own with e1 | ⟨g, e1, hg⟩
    · exact hv (e.trans e1)
    · rw [e1] at e; cases e; omega
  · rcases h2.own with e2 | ⟨g, e2, hg⟩
    · rcases h.own with e1 | ⟨g, e1, hg⟩
      · exact .inl (e2.trans e1)
      · exact .inr ⟨g, e2.trans e1, hg⟩
    · exact .inr ⟨g, e2, Nat.le_trans h.size hg⟩
theorem Kp.ofGrown {p : Nat} {v : Value} {w w' : World} (g : w.grownBy w' none) : Kp p v w v w' := ⟨g.os, g.tape, g.output, g.size, fun b hb _ _ => g.block b hb (by simp), .inl rfl⟩
/-- a block that a call of the writer's leaves as it is -/
structure Safe (p : Nat) (v : Value) (b : Nat) (w : World) : Prop where
  lt : b < w.heap.size
  ne : b ≠ p
  no : some b ≠ v.ownBlock
theorem Kp.safe {p b : Nat} {v v' : Value} {w w' : World} (h : Kp p v w v' w') (s : Safe p v b w) : Safe p v' b w' := by
  refine ⟨Nat.lt_of_lt_of_le s.lt h.size, s.ne, fun e => ?_⟩
  rcases h.own with e1 | ⟨g, e1, hg⟩
  · exact s.no (e.trans e1)
  · rw [e1] at e; cases e; have := s.lt; omega
theorem Kp.at {p b : Nat} {v v' : Value} {w w' : World} {o : Obj} (h : Kp p v w v' w') (s : Safe p v b w) (hb : w.heap[b]? = some o) : w'.heap[b]? = some o := (h.block b s.lt s.ne s.no).trans hb
theorem Wr.lt {p : Nat} {v : Value} {l : List Ins} {w : World} (h : Wr p v l w) : p < w.heap.size := (Array.getElem?_eq_some_iff.1 h.P).1
theorem Wr.kept {p : Nat} {v : Value} {l : List Ins} {w w' : World} (h : Wr p v l w) (g : w.grownBy w' none) : Wr p v l w' := ⟨heap_grown g h.P, h.O.kept g (by cases v.ownBlock <;> simp)⟩
theorem Wr.new {p b : Nat} {v : Value} {l : List Ins} {w : World} (h : Wr p v l w) (hb : w.heap.size ≤ b) : b ≠ p ∧ some b ≠ v.ownBlock :=
  ⟨by have := h.lt; omega, fun e => by have := h.O.lt b e.symm; omega⟩
theorem Wr.safe {p b : Nat} {v : Value} {l : List Ins} {w w' : World} (h : Wr p v l w) (hb : w.heap.size ≤ b) (h2 : b < w'.heap.size) : Safe p v b w' := ⟨h2, (h.new hb).1, (h.new hb).2⟩
/-- what lies below the writer's variable stays -/
theorem Wr.below {p b : Nat} {v : Value} {l : List Ins} {w : World} (hw : Wr p v l w) (hb : b < p) : Safe p v b w :=
  ⟨by have := hw.lt; omega, by omega, fun e => by have := hw.O.lt b e.symm; omega⟩
theorem Kp.cell {p b off : Nat} {v v' u : Value} {w w' : World} (h : Kp p v w v' w') (s : Safe p v b w) (hu : w.cell? ⟨b, off, none⟩ = some u) : w'.cell? ⟨b, off, none⟩ = some u := by
  unfold World.cell? at hu ⊢
  rw [h.block b s.lt s.ne s.no]; exact hu
theorem KidsI.wr {p : Nat} {v v' kv : Value} {l : List Ins} {n : List Ni} {w w' : World} (h : KidsI w (fun b => b < p) kv n) (hw : Wr p v l w) (k : Kp p v w v' w') : KidsI w' (fun b => b < p) kv n :=
  h.kept fun _ _ _ hb hu => k.cell (hw.below hb) hu
/-- of the world before the writer was made -/
theorem Kp.grown {p : Nat} {v v' : Value} {l : List Ins} {w0 w w' : World} (h : Kp p v w v' w') (hw : Wr p v l w) (g : w0.grownBy w none) (hp : w0.heap.size ≤ p) : w0.grownBy w' none :=
  ⟨h.os.trans g.os, h.tape.trans g.tape, h.output.trans g.output, Nat.le_trans g.size h.size, fun b hb _ => by
    have s := hw.below (b := b) (by omega)
    exact (h.block b s.lt s.ne s.no).trans (g.block b hb (by simp))⟩
/-- a slice that grew, and the variable that was given it -/
theorem Kp.append {p gg : Nat} {v : Value} {w w7 : World} (g : w.grownBy w7 v.ownBlock) (hat : v.ownBlock = some gg ∨ w.heap.size ≤ gg) (u : Value) (hu : u.ownBlock = some gg) : Kp p v w u (w7.setCell ⟨p, 0, none⟩ u) := by
  refine ⟨g.os, g.tape, g.output, by rw [World.size_setCell]; exact g.size, fun b hb hp hv => ?_, ?_⟩
  · rw [heap_setCell_other w7 ⟨p, 0, none⟩ b _ (by exact hp)]; exact g.block b hb hv
  · rcases hat with e | e
    · exact .inl (hu.trans e.symm)
    · exact .inr ⟨gg, hu, e⟩
theorem infoIns : (Tryz.prog.info? 74).map (fun i => (i.zero, i.size, i.bytes)) = some (some (.agg #[.int .i64 0, .int .i64 0, .int .i64 0, .int .u64 0, .int .u64 0, .int .u64 0, .int .u64 0]), 7, 56) := by kernel_rfl
theorem new_ins (w : World) (c : Ins) (t : TypeId) (m : Nat) (hm : m = w.heap.size) : ∀ j u, (cellsC c)[j]? = some u → (w.alloc (.cells #[.int .i64 c.o, .int .i64 c.x, .int .i64 c.y, .int .u64 (wd c.s 0), .int .u64 (wd c.s 1), .int .u64 (wd c.s 2), .int .u64 (wd c.s 3)] t)).cell? ((⟨m, 0, none⟩ : Addr).add j) = some u := by
  subst hm
  exact World.news_of_block (cs := #[.int .i64 c.o, .int .i64 c.x, .int .i64 c.y, .int .u64 (wd c.s 0), .int .u64 (wd c.s 1), .int .u64 (wd c.s 2), .int .u64 (wd c.s 3)]) (t := t) (fr := (0, 0)) (heap_alloc_new w _)
theorem ins_one (c : Ins) : ∀ u ∈ cellsC c, u.oneCell' = true := by have := flatC_oneCell [c]; rwa [flatC_one] at this
theorem one_cell {w : World} {b : Nat} {v : Value} {t : TypeId} (h : w.heap[b]? = some (.cells #[v] t (0, 0))) : w.cell? ⟨b, 0, none⟩ = some v := by unfold World.cell?; rw [h]; rfl

theorem grown_st (w : World) (r o : Nat) (v : Value) : w.grownBy (w.setCell ⟨r, o, none⟩ v) (some r) :=
  ⟨rfl, rfl, rfl, by simp, fun k _ hk => heap_setCell_other w _ k v (fun e => hk (by rw [e]))⟩
theorem grown_rowP {w w1 w2 : World} {row : Option Nat} (h : w.grownBy w1 none) (g : w1.grownBy w2 row) : w.grownBy w2 row :=
  (World.grownBy.mk h.os h.tape h.output h.size (fun k hk _ => h.block k hk (by simp)) : w.grownBy w1 row).trans g

set_option maxRecDepth 100000 in
set_option maxHeartbeats 4000000 in
theorem cPut (p : Nat) (v : Value) (l : List Ins) (c : Ins) (w : World) (h : Wr p v l w) (hl : l.length ≤ 100000) :
    Calls Tryz.prog 31 #[.pointer (some ⟨p, 0, none⟩), insV c] w fun e w' => e = .returned (.int .i64 l.length) ∧ ∃ v', Wr p v' (l ++ [c]) w' ∧ Kp p v w v' w' := by
  obtain ⟨va, vc, rfl⟩ := owns_shape h.O
  have ga := World.grownBy_alloc w (.cells #[.int .i64 c.o, .int .i64 c.x, .int .i64 c.y, .int .u64 (wd c.s 0), .int .u64 (wd c.s 1), .int .u64 (wd c.s 2), .int .u64 (wd c.s 3)] 74) none
  have B1 := Lib.hid (heap_alloc_new w (.cells #[.int .i64 c.o, .int .i64 c.x, .int .i64 c.y, .int .u64 (wd c.s 0), .int .u64 (wd c.s 1), .int .u64 (wd c.s 2), .int .u64 (wd c.s 3)] 74))
  have W1 := Lib.hid (h.kept ga)
  have G1 := Lib.hid ga
  have W0 := Lib.hid h
  have hq := (h.new (Nat.le_refl _)).1
  have HQ := Lib.hid hq
  clear ga h hq
  obtain ⟨iu, hiu, hu0, hu1, hu2⟩ := info_parts infoIns
  have IU := Lib.hid hiu; have ZU0 := Lib.hid hu0; have ZU1 := Lib.hid hu1; have ZU2 := Lib.hid hu2
  clear hiu hu0 hu1 hu2
  go_enter Tryz.func31, Tryz.ntmps31
  go_upto_region 1 with fail
  generalize w.alloc _ = w1 at B1 G1 W1 ⊢
  generalize w.heap.size = q at B1 HQ ⊢
  obtain ⟨c0, c1, c2, c3, c4, c5, c6⟩ := seven_cells B1.out
  have p0 := one_cell W1.out.P
  have p1 := fun ob => (World.grownBy_alloc w1 ob none).cell p0 (by simp)
  have HNO := Lib.hid (show some p ≠ (Value.slice va l.length vc).ownBlock from fun e => by have := W0.out.O.lt p e.symm; omega)
  have HB := Lib.hid (fun b e => (W1.out.O.lt b e).2)
  go_region_law (refine step_append_lies _ (by rfl) _ _ 33 (by rfl) (p + 1) 74 iu _ 7 56 Tryz.underlying33 IU.out ZU0.out ZU1.out ZU2.out rfl (by decide) (.slice va l.length vc) l.length (flatC l) (by rfl) (W1.out.kept ((grown_drew (World.grownBy.refl _ _)).trans (World.grownBy_alloc _ _ _))).O ⟨_, 0, none⟩ 1 1 (cellsC c) (by rfl) rfl (new_ins _ _ _ _ (by simp)) (ins_one c) (by decide) (by unfold maxLen; omega) (by omega) (by have h1 := W1.out.lt; simp; omega) _ rfl ?_; intro gg cap w7 hown2 hgrow2 hat hlt2; have O7 := Lib.hid ((hgrow2.block p (by have h1 := W1.out.lt; simp; omega) HNO.out).trans (heap_grown (World.grownBy_alloc _ _ _) (show (World.drew _).heap[p]? = _ from W1.out.P))); have f7 := four_free O7.out 0; have q7 := one_cell O7.out)
  all_goals
    have gA : w1.grownBy (w1.alloc (.cells #[.int .i64 c.o, .int .i64 c.x, .int .i64 c.y, .int .u64 (wd c.s 0), .int .u64 (wd c.s 1), .int .u64 (wd c.s 2), .int .u64 (wd c.s 3)] 74)).drew none := grown_drew (World.grownBy_alloc w1 _ none)
    have gT := grown_rowP (G1.out.trans gA) hgrow2
    have HA := hat.imp_right (fun e => show w.heap.size ≤ gg by rw [e]; have := (G1.out.trans gA).size; exact this)
    have hgg := (hown2.lt gg rfl).1
    have W8 := Lib.hid (show Wr p (.slice (some ⟨gg, 0, none⟩) (l.length + 1) cap) (l ++ [c]) (w7.setCell ⟨p, 0, none⟩ (.slice (some ⟨gg, 0, none⟩) (l.length + 1) cap)) from
      ⟨heap_setCell_same w7 p 0 _ _ _ O7.out, by rw [List.length_append, flatC_append, flatC_one]; exact hown2.kept (grown_st w7 p 0 _) (.inr (fun e => by have e' : gg = p := Option.some.inj e; omega))⟩)
    have K8 := Lib.hid (Kp.append (p := p) gT HA (.slice (some ⟨gg, 0, none⟩) (l.length + 1) cap) rfl)
    clear gA gT HA hgg hown2 hgrow2 hat hlt2 f7 q7 p0 p1 c0 c1 c2 c3 c4 c5 c6 O7 B1
    generalize w7.setCell _ _ = w8 at W8 K8 ⊢
    have p0 := one_cell W8.out.P
    go_wp2
    go_ret
    exact ⟨ret_int (by omega), _, W8.out, K8.out⟩
end Go.Proofs.YtlkjejmmoalliaaGreatDoor

namespace Go.Proofs.YtlkjejmmoalliaaGreatDoor
open Go.RowKit

/-- a call by its contract, as one step of a statement whose order is open -/
theorem step_callP {ops : Array Oper} {o : Oper} {a : Act} {w : World} {K : Act → World → Prop} {Q : Exit → Act → World → Prop} {E : Prop} {R : Ending → World → Prop}
    (hg : o.guard = none) (f : FuncId) (args : Array Value) (hrun : (execOp a.eval o).run Tryz.prog w = .ok (.enter f args) w) (hc : Calls Tryz.prog f args w R)
    (h : ∀ e w', R e w' → ∃ v, e = .returned v ∧ K (a.put o.dst v) w') : if Region.wanted o (yielded ops a.tmps) = true then Oper.wp Tryz.prog o a w K Q else E := by
  have hw : Region.wanted o (yielded ops a.tmps) = true := by simp [Region.wanted, hg]
  rw [if_pos hw]
  unfold Oper.wp
  rw [hrun, Oper.upon_enter]
  exact hc.mono fun e w' hr => by obtain ⟨v, rfl, hk⟩ := h e w' hr; exact hk
/-- an instruction without a set -/
theorem cPut0 (p : Nat) (v : Value) (l : List Ins) (o x y : Int) (w : World) (h : Wr p v l w) (hl : l.length ≤ 100000) :
    Calls Tryz.prog 31 #[.pointer (some ⟨p, 0, none⟩), .agg #[.int .i64 o, .int .i64 x, .int .i64 y, .int .u64 0, .int .u64 0, .int .u64 0, .int .u64 0]] w fun e w' => e = .returned (.int .i64 l.length) ∧ ∃ v', Wr p v' (l ++ [⟨o, x, y, emp⟩]) w' ∧ Kp p v w v' w' := by
  have := cPut p v l ⟨o, x, y, emp⟩ w h hl
  simpa only [insV, wd_emp] using this
/-- what is called where a Split or a Jump leads else: its place is k -/
structure Clo (p : Nat) (v : Value) (k b1 b2 : Nat) (w : World) : Prop where
  A : w.heap[b1]? = some (.cells #[.pointer (some ⟨p, 0, none⟩)] 99 (0, 0))
  B : w.heap[b2]? = some (.cells #[.int .i64 k] 3 (0, 0))
  S1 : Safe p v b1 w
  S2 : Safe p v b2 w
theorem Clo.kept {p : Nat} {v v' : Value} {k b1 b2 : Nat} {w w' : World} (h : Clo p v k b1 b2 w) (g : Kp p v w v' w') : Clo p v' k b1 b2 w' := ⟨g.at h.S1 h.A, g.at h.S2 h.B, g.safe h.S1, g.safe h.S2⟩
theorem Clo.grown {p : Nat} {v : Value} {k b1 b2 : Nat} {w w' : World} (h : Clo p v k b1 b2 w) (g : w.grownBy w' none) : Clo p v k b1 b2 w' := h.kept (Kp.ofGrown g)

theorem Wr.poke {p r o : Nat} {v u : Value} {l : List Ins} {w : World} (h : Wr p v l w) (s : Safe p v r w) : Wr p v l (w.setCell ⟨r, o, none⟩ u) :=
  ⟨(heap_setCell_other w ⟨r, o, none⟩ p _ (fun e => s.ne e.symm)).trans h.P, h.O.kept (grown_st w r o u) (by
    cases ho : v.ownBlock with
    | none => exact .inl rfl
    | some b => exact .inr (fun e => s.no (e.symm.trans ho.symm)))⟩
theorem Kp.poke {p r o : Nat} {v v' u : Value} {w w' : World} (h : Kp p v w v' w') (hr : w.heap.size ≤ r) : Kp p v w v' (w'.setCell ⟨r, o, none⟩ u) :=
  ⟨h.os, h.tape, h.output, by rw [World.size_setCell]; exact h.size, fun b hb hp hv => (heap_setCell_other w' ⟨r, o, none⟩ b _ (fun e => by have e' : b = r := e; omega)).trans (h.block b hb hp hv), h.own⟩
theorem Safe.poke {p b r o : Nat} {v u : Value} {w : World} (s : Safe p v b w) : Safe p v b (w.setCell ⟨r, o, none⟩ u) := ⟨by rw [World.size_setCell]; exact s.lt, s.ne, s.no⟩
/-- the closure that a Split makes, its place's variable made ahead of the instruction -/
theorem Clo.early {p q r k : Nat} {v v' : Value} {w0 w1 w5 : World} (K0 : Kp p v w0 v w1) (hq0 : w0.heap.size ≤ r) (B : w1.heap[q]? = some (.cells #[.pointer (some ⟨p, 0, none⟩)] 99 (0, 0))) (S : Safe p v q w1) (K5 : Kp p v w1 v' w5) (hqr : q ≠ r)
    (R : w5.heap[r]? = some (.cells #[.int .i64 0] 3 (0, 0))) (SR : Safe p v' r w5) : Kp p v w0 v' (w5.setCell ⟨r, 0, none⟩ (.int .i64 k)) ∧ Clo p v' k q r (w5.setCell ⟨r, 0, none⟩ (.int .i64 k)) :=
  ⟨(K0.trans K5).poke hq0, ⟨(heap_setCell_other w5 ⟨r, 0, none⟩ q _ (fun e => hqr e)).trans (K5.at S B), heap_setCell_same w5 r 0 _ _ _ R, (K5.safe S).poke, SR.poke⟩⟩
/-- the same, made behind it -/
theorem Clo.late {p q k : Nat} {v v' : Value} {l : List Ins} {w0 w1 w5 : World} (K0 : Kp p v w0 v w1) (B : w1.heap[q]? = some (.cells #[.pointer (some ⟨p, 0, none⟩)] 99 (0, 0))) (S : Safe p v q w1) (K5 : Kp p v w1 v' w5) (W5 : Wr p v' l w5) :
    Kp p v w0 v' (w5.alloc (.cells #[.int .i64 k] 3)) ∧ Clo p v' k q w5.heap.size (w5.alloc (.cells #[.int .i64 k] 3)) := by
  have ga := World.grownBy_alloc w5 (.cells #[.int .i64 k] 3) none
  have K6 := Kp.ofGrown (p := p) (v := v') ga
  exact ⟨(K0.trans K5).trans K6, ⟨heap_grown ga (K5.at S B), heap_alloc_new w5 _, K6.safe (K5.safe S), W5.safe (Nat.le_refl _) (by rw [World.size_alloc]; omega)⟩⟩

set_option maxRecDepth 100000 in
set_option maxHeartbeats 4000000 in
theorem cSplit (p : Nat) (v : Value) (l : List Ins) (w : World) (h : Wr p v l w) (hl : l.length ≤ 10000) :
    Calls Tryz.prog 86 #[.pointer (some ⟨p, 0, none⟩)] w fun e w' =>
      ∃ b1 b2 v', e = .returned (.func (.func 94) #[] #[.pointer (some ⟨b1, 0, none⟩), .pointer (some ⟨b2, 0, none⟩)]) ∧ Wr p v' (l ++ [⟨1, (l.length + 1 : Nat), 0, emp⟩]) w' ∧ Kp p v w v' w' ∧ Clo p v' l.length b1 b2 w' := by
  have ga := World.grownBy_alloc w (.cells #[.pointer (some ⟨p, 0, none⟩)] 99) none
  have B1 := Lib.hid (heap_alloc_new w (.cells #[.pointer (some ⟨p, 0, none⟩)] 99))
  have W1 := Lib.hid (h.kept ga)
  have K1 := Lib.hid (Kp.ofGrown (p := p) (v := v) ga)
  have S1 := Lib.hid (h.safe (w' := w.alloc (.cells #[.pointer (some ⟨p, 0, none⟩)] 99)) (Nat.le_refl _) (by rw [World.size_alloc]; omega))
  clear ga h
  have hwr : IntKind.i64.wrap ((l.length : Int) + 1) = (l.length : Int) + 1 := by rw [IntKind.wrap_i64]; omega
  go_enter Tryz.func86, Tryz.ntmps86
  go_upto_region 1 with fail
  generalize w.alloc _ = w1 at B1 K1 W1 S1 ⊢
  generalize w.heap.size = q at B1 S1 ⊢
  obtain ⟨va, vc, rfl⟩ := owns_shape W1.out.O
  have c0 := one_cell B1.out
  have p0 := one_cell W1.out.P
  have c1 := fun ob => (World.grownBy_alloc w1 ob none).cell c0 (by simp)
  have p1 := fun ob => (World.grownBy_alloc w1 ob none).cell p0 (by simp)
  have HP := Lib.hid (fun W (g : w1.grownBy W none) => cPut0 p (.slice va l.length vc) l 1 ((l.length : Int) + 1) 0 W (W1.out.kept g) (by omega))
  have BR := Lib.hid (heap_alloc_new w1 (.cells #[.int .i64 0] 3))
  have SR := Lib.hid (W1.out.safe (w' := w1.alloc (.cells #[.int .i64 0] 3)) (Nat.le_refl _) (by rw [World.size_alloc]; omega))
  have HWS := Lib.hid (show w1.grownBy (w1.alloc (.cells #[.int .i64 0] 3)).drew none from grown_drew (World.grownBy_alloc _ _ _))
  have HDS := Lib.hid (show w1.grownBy w1.drew none from grown_drew (World.grownBy.refl _ _))
  go_region_law (refine step_callP (by rfl) 31 #[.pointer (some ⟨p, 0, none⟩), .agg #[.int .i64 1, .int .i64 ((l.length : Int) + 1), .int .i64 0, .int .u64 0, .int .u64 0, .int .u64 0, .int .u64 0]] (by go_simp) (by first | exact HP.out _ (grown_drew (World.grownBy.refl _ _)) | exact HP.out _ (grown_drew (World.grownBy_alloc _ _ _))) ?_; rintro e w5 ⟨rfl, v', W5, K5⟩; refine ⟨_, rfl, ?_⟩; first | (have S5 := Lib.hid (Kp.safe K5 ⟨SR.out.lt, SR.out.ne, SR.out.no⟩); have R5 := Lib.hid (Kp.at K5 ⟨SR.out.lt, SR.out.ne, SR.out.no⟩ BR.out); have r5 := one_cell R5.out; have f5 := four_free R5.out 0) | skip)
  all_goals
    first
      | (obtain ⟨K6, C6⟩ := Clo.early (k := l.length) K1.out (r := w1.heap.size) K1.out.size B1.out S1.out ((Kp.ofGrown HWS.out).trans K5) (by have := S1.out.lt; omega) R5.out S5.out
         have K6 := Lib.hid K6; have C6 := Lib.hid C6
         have W6 := Lib.hid (W5.poke (o := 0) (u := .int .i64 l.length) S5.out)
         clear K5 W5 S5 R5 r5 f5 B1 HP BR SR p0 p1 c0 c1
         generalize w5.setCell _ _ = w6 at K6 C6 W6 ⊢
         go_wp2
         go_ret
         exact ⟨q, _, v', rfl, by push_cast; exact W6.out, K6.out, C6.out⟩)
      | (obtain ⟨K6, C6⟩ := Clo.late (k := l.length) K1.out B1.out S1.out ((Kp.ofGrown HDS.out).trans K5) W5
         have K6 := Lib.hid K6; have C6 := Lib.hid C6
         have W6 := Lib.hid (W5.kept (World.grownBy_alloc w5 (.cells #[.int .i64 l.length] 3) none))
         clear K5 W5 B1 HP BR SR p0 p1 c0 c1
         generalize w5.alloc _ = w6 at K6 C6 W6 ⊢
         go_wp2
         go_ret
         exact ⟨q, _, v', rfl, by push_cast; exact W6.out, K6.out, C6.out⟩)
end Go.Proofs.YtlkjejmmoalliaaGreatDoor

namespace Go.Proofs.YtlkjejmmoalliaaGreatDoor
open Go.RowKit

/-- a number of an instruction is stored -/
theorem Wr.patch {p k j : Nat} {v u u0 : Value} {l : List Ins} {c c' : Ins} {w : World} (h : Wr p v l w) (hk : l[k]? = some c) (hj : j < 7) (h0 : (cellsC c)[j]? = some u0) (hs : (cellsC c).set j u = cellsC c') :
    ∃ g cap, v = .slice (some ⟨g, 0, none⟩) l.length cap ∧ w.cell? ⟨g, k * 7 + j, none⟩ = some u0 ∧ w.frozen? ⟨g, k * 7 + j, none⟩ = false ∧
      Wr p v (l.set k c') (w.setCell ⟨g, k * 7 + j, none⟩ u) ∧ Kp p v w v (w.setCell ⟨g, k * 7 + j, none⟩ u) := by
  obtain ⟨hP, hO⟩ := h
  rcases hO.2 with ⟨rfl, h0⟩ | ⟨g, cap, cur, rfl, hbg, hg, h4⟩
  · have : l = [] := List.eq_nil_of_length_eq_zero h0
    subst this; simp at hk
  · have hc := hO.cells (g := g) rfl _ _ (flatC_get l k c hk j u0 h0)
    rw [Addr.add_lit, Nat.zero_add] at hc
    obtain ⟨s1, g1⟩ := hO.stored (k * 7 + j) u
    refine ⟨g, cap, rfl, hc, four_free hg _, ⟨(heap_setCell_other w ⟨g, k * 7 + j, none⟩ p _ (fun e => by have e' : p = g := e; omega)).trans hP, ?_⟩, ⟨g1.os, g1.tape, g1.output, g1.size, fun b hb _ hv => g1.block b hb hv, .inl rfl⟩⟩
    rw [List.length_set, ← flatC_set l k c c' j u hk hj hs]
    exact s1

set_option maxRecDepth 100000 in
set_option maxHeartbeats 4000000 in
theorem cJump (p : Nat) (v : Value) (l : List Ins) (w : World) (h : Wr p v l w) (hl : l.length ≤ 10000) :
    Calls Tryz.prog 87 #[.pointer (some ⟨p, 0, none⟩)] w fun e w' =>
      ∃ b1 b2 v', e = .returned (.func (.func 95) #[] #[.pointer (some ⟨b1, 0, none⟩), .pointer (some ⟨b2, 0, none⟩)]) ∧ Wr p v' (l ++ [⟨2, 0, 0, emp⟩]) w' ∧ Kp p v w v' w' ∧ Clo p v' l.length b1 b2 w' := by
  have ga := World.grownBy_alloc w (.cells #[.pointer (some ⟨p, 0, none⟩)] 99) none
  have B1 := Lib.hid (heap_alloc_new w (.cells #[.pointer (some ⟨p, 0, none⟩)] 99))
  have W1 := Lib.hid (h.kept ga)
  have K1 := Lib.hid (Kp.ofGrown (p := p) (v := v) ga)
  have S1 := Lib.hid (h.safe (w' := w.alloc (.cells #[.pointer (some ⟨p, 0, none⟩)] 99)) (Nat.le_refl _) (by rw [World.size_alloc]; omega))
  clear ga h
  go_enter Tryz.func87, Tryz.ntmps87
  go_upto_region 1 with fail
  generalize w.alloc _ = w1 at B1 K1 W1 S1 ⊢
  generalize w.heap.size = q at B1 S1 ⊢
  have c0 := one_cell B1.out
  have HP := Lib.hid (cPut0 p v l 2 0 0 w1 W1.out (by omega))
  go_upto_region 2 with (go_at_call 31; (with_reducible refine (HP.out).mono ?_); rintro e w5 ⟨rfl, v', W5, K5⟩)
  obtain ⟨K6, C6⟩ := Clo.late (k := l.length) K1.out B1.out S1.out K5 W5
  have K6 := Lib.hid K6; have C6 := Lib.hid C6
  have W6 := Lib.hid (W5.kept (World.grownBy_alloc w5 (.cells #[.int .i64 l.length] 3) none))
  clear K5 W5 B1 HP c0
  generalize w5.alloc _ = w6 at K6 C6 W6 ⊢
  go_wp2
  go_ret
  exact ⟨q, _, v', rfl, W6.out, K6.out, C6.out⟩

set_option maxRecDepth 100000 in
set_option maxHeartbeats 4000000 in
theorem cElse (p b1 b2 k : Nat) (v : Value) (l : List Ins) (c : Ins) (w : World) (h : Wr p v l w) (hk : l[k]? = some c) (C : Clo p v k b1 b2 w) :
    Calls Tryz.prog 94 #[.pointer (some ⟨b1, 0, none⟩), .pointer (some ⟨b2, 0, none⟩)] w fun e w' =>
      e = .returned (.tuple #[]) ∧ Wr p v (l.set k ⟨c.o, c.x, l.length, c.s⟩) w' ∧ Kp p v w v w' := by
  have hlt : k < l.length := (List.getElem?_eq_some_iff.1 hk).1
  obtain ⟨g, cap, rfl, c3, f3, W3, K3⟩ := h.patch hk (j := 2) (u := .int .i64 l.length) (c' := ⟨c.o, c.x, l.length, c.s⟩) (by omega) rfl rfl
  have W3 := Lib.hid W3; have K3 := Lib.hid K3
  have p0 := one_cell h.P
  have c1 := one_cell C.A
  have c2 := one_cell C.B
  have hki : ((k : Int) < l.length) := by omega
  clear h C hk
  go_enter Tryz.func94, Tryz.ntmps94
  go_wp2_with fail
  go_region
  all_goals
    go_end0
    exact ⟨rfl, W3.out.kept (grown_drew (World.grownBy.refl _ _)), K3.out.trans (Kp.ofGrown (grown_drew (World.grownBy.refl _ _)))⟩

set_option maxRecDepth 100000 in
set_option maxHeartbeats 4000000 in
theorem cHere (p b1 b2 k : Nat) (v : Value) (l : List Ins) (c : Ins) (w : World) (h : Wr p v l w) (hk : l[k]? = some c) (C : Clo p v k b1 b2 w) :
    Calls Tryz.prog 95 #[.pointer (some ⟨b1, 0, none⟩), .pointer (some ⟨b2, 0, none⟩)] w fun e w' =>
      e = .returned (.tuple #[]) ∧ Wr p v (l.set k ⟨c.o, l.length, c.y, c.s⟩) w' ∧ Kp p v w v w' := by
  have hlt : k < l.length := (List.getElem?_eq_some_iff.1 hk).1
  obtain ⟨g, cap, rfl, c3, f3, W3, K3⟩ := h.patch hk (j := 1) (u := .int .i64 l.length) (c' := ⟨c.o, l.length, c.y, c.s⟩) (by omega) rfl rfl
  have W3 := Lib.hid W3; have K3 := Lib.hid K3
  have p0 := one_cell h.P
  have c1 := one_cell C.A
  have c2 := one_cell C.B
  have hki : ((k : Int) < l.length) := by omega
  clear h C hk
  go_enter Tryz.func95, Tryz.ntmps95
  go_wp2_with fail
  go_region
  all_goals
    go_end0
    exact ⟨rfl, W3.out.kept (grown_drew (World.grownBy.refl _ _)), K3.out.trans (Kp.ofGrown (grown_drew (World.grownBy.refl _ _)))⟩
end Go.Proofs.YtlkjejmmoalliaaGreatDoor

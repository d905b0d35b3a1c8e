/- The writer of programs: what its variable holds, what a call leaves of the world; put. -/
import Derived.Test.YtliefnjhobdphaaDoorPgRow
import Derived.Deep.RegionLaw
import Derived.Deep.CutBlock
namespace Go.Proofs.YtliefnjhobdphaaDoor
open Go.RowKit

/-- the writer's variable in block p: its slice v, the code l -/
structure Wr (p : Nat) (v : Value) (l : List Ins) (w : World) : Prop where
  P : w.heap[p]? = some (.cells #[v] 72 (0, 0))
  O : w.ownsRow (p + 1) 53 7 v l.length (flatC l)
/-- what a call leaves of the world: all but the writer's variable and its row -/
structure Kp (p : Nat) (v : Value) (w : World) (v' : Value) (w' : World) : Prop where
  os : w'.os = w.os
  tape : w'.tape = w.tape
  output : w'.output = w.output
  size : w.heap.size ≤ w'.heap.size
  block : ∀ b, b < w.heap.size → b ≠ p → some b ≠ v.ownBlock → w'.heap[b]? = w.heap[b]?
  own : v'.ownBlock = v.ownBlock ∨ ∃ g, v'.ownBlock = some g ∧ w.heap.size ≤ g
theorem Kp.refl (p : Nat) (v : Value) (w : World) : Kp p v w v w := ⟨rfl, rfl, rfl, Nat.le_refl _, fun _ _ _ _ => rfl, .inl rfl⟩
theorem Kp.trans {p : Nat} {v v1 v2 : Value} {w w1 w2 : World} (h : Kp p v w v1 w1) (h2 : Kp p v1 w1 v2 w2) : Kp p v w v2 w2 := by
  refine ⟨h2.os.trans h.os, h2.tape.trans h.tape, h2.output.trans h.output, Nat.le_trans h.size h2.size, fun b hb hp hv => ?_, ?_⟩
  · refine (h2.block b (Nat.lt_of_lt_of_le hb h.size) hp fun e => ?_).trans (h.block b hb hp hv)
    rcases h.own with e1 | ⟨g, e1, hg⟩
    · exact hv (e.trans e1)
    · rw [e1] at e; cases e; omega
  · rcases h2.own with e2 | ⟨g, e2, hg⟩
    · rcases h.own with e1 | ⟨g, e1, hg⟩
      · exact .inl (e2.trans e1)
      · exact .inr ⟨g, e2.trans e1, hg⟩
    · exact .inr ⟨g, e2, Nat.le_trans h.size hg⟩
theorem Kp.ofGrown {p : Nat} {v : Value} {w w' : World} (g : w.grownBy w' none) : Kp p v w v w' := ⟨g.os, g.tape, g.output, g.size, fun b hb _ _ => g.block b hb (by simp), .inl rfl⟩
/-- a block that a call of the writer's leaves as it is -/
structure Safe (p : Nat) (v : Value) (b : Nat) (w : World) : Prop where
  lt : b < w.heap.size
  ne : b ≠ p
  no : some b ≠ v.ownBlock
theorem Kp.safe {p b : Nat} {v v' : Value} {w w' : World} (h : Kp p v w v' w') (s : Safe p v b w) : Safe p v' b w' := by
  refine ⟨Nat.lt_of_lt_of_le s.lt h.size, s.ne, fun e => ?_⟩
  rcases h.own with e1 | ⟨g, e1, hg⟩
  · exact s.no (e.trans e1)
  · rw [e1] at e; cases e; have := s.lt; omega
theorem Kp.at {p b : Nat} {v v' : Value} {w w' : World} {o : Obj} (h : Kp p v w v' w') (s : Safe p v b w) (hb : w.heap[b]? = some o) : w'.heap[b]? = some o := (h.block b s.lt s.ne s.no).trans hb
theorem Wr.lt {p : Nat} {v : Value} {l : List Ins} {w : World} (h : Wr p v l w) : p < w.heap.size := (Array.getElem?_eq_some_iff.1 h.P).1
theorem Wr.kept {p : Nat} {v : Value} {l : List Ins} {w w' : World} (h : Wr p v l w) (g : w.grownBy w' none) : Wr p v l w' := ⟨heap_grown g h.P, h.O.kept g (by cases v.ownBlock <;> simp)⟩
theorem Wr.new {p b : Nat} {v : Value} {l : List Ins} {w : World} (h : Wr p v l w) (hb : w.heap.size ≤ b) : b ≠ p ∧ some b ≠ v.ownBlock :=
  ⟨by have := h.lt; omega, fun e => by have := h.O.lt b e.symm; omega⟩
theorem Wr.safe {p b : Nat} {v : Value} {l : List Ins} {w w' : World} (h : Wr p v l w) (hb : w.heap.size ≤ b) (h2 : b < w'.heap.size) : Safe p v b w' := ⟨h2, (h.new hb).1, (h.new hb).2⟩
/-- what lies below the writer's variable stays -/
theorem Wr.below {p b : Nat} {v : Value} {l : List Ins} {w : World} (hw : Wr p v l w) (hb : b < p) : Safe p v b w :=
  ⟨by have := hw.lt; omega, by omega, fun e => by have := hw.O.lt b e.symm; omega⟩
theorem Kp.cell {p b off : Nat} {v v' u : Value} {w w' : World} (h : Kp p v w v' w') (s : Safe p v b w) (hu : w.cell? ⟨b, off, none⟩ = some u) : w'.cell? ⟨b, off, none⟩ = some u := by
  unfold World.cell? at hu ⊢
  rw [h.block b s.lt s.ne s.no]; exact hu
theorem KidsI.wr {p : Nat} {v v' kv : Value} {l : List Ins} {n : List Ni} {w w' : World} (h : KidsI w (fun b => b < p) kv n) (hw : Wr p v l w) (k : Kp p v w v' w') : KidsI w' (fun b => b < p) kv n :=
  h.kept fun _ _ _ hb hu => k.cell (hw.below hb) hu
/-- of the world before the writer was made -/
theorem Kp.grown {p : Nat} {v v' : Value} {l : List Ins} {w0 w w' : World} (h : Kp p v w v' w') (hw : Wr p v l w) (g : w0.grownBy w none) (hp : w0.heap.size ≤ p) : w0.grownBy w' none :=
  ⟨h.os.trans g.os, h.tape.trans g.tape, h.output.trans g.output, Nat.le_trans g.size h.size, fun b hb _ => by
    have s := hw.below (b := b) (by omega)
    exact (h.block b s.lt s.ne s.no).trans (g.block b hb (by simp))⟩
/-- a slice that grew, and the variable that was given it -/
theorem Kp.append {p gg : Nat} {v : Value} {w w7 : World} (g : w.grownBy w7 v.ownBlock) (hat : v.ownBlock = some gg ∨ w.heap.size ≤ gg) (u : Value) (hu : u.ownBlock = some gg) : Kp p v w u (w7.setCell ⟨p, 0, none⟩ u) := by
  refine ⟨g.os, g.tape, g.output, by rw [World.size_setCell]; exact g.size, fun b hb hp hv => ?_, ?_⟩
  · rw [heap_setCell_other w7 ⟨p, 0, none⟩ b _ (by exact hp)]; exact g.block b hb hv
  · rcases hat with e | e
    · exact .inl (hu.trans e.symm)
    · exact .inr ⟨gg, hu, e⟩
theorem infoIns : (Tryd.prog.info? 53).map (fun i => (i.zero, i.size, i.bytes)) = some (some (.agg #[.int .i64 0, .int .i64 0, .int .i64 0, .int .u64 0, .int .u64 0, .int .u64 0, .int .u64 0]), 7, 56) := by kernel_rfl
theorem new_ins (w : World) (c : Ins) (t : TypeId) (m : Nat) (hm : m = w.heap.size) : ∀ j u, (cellsC c)[j]? = some u → (w.alloc (.cells #[.int .i64 c.o, .int .i64 c.x, .int .i64 c.y, .int .u64 (wd c.s 0), .int .u64 (wd c.s 1), .int .u64 (wd c.s 2), .int .u64 (wd c.s 3)] t)).cell? ((⟨m, 0, none⟩ : Addr).add j) = some u := by
  subst hm
  exact World.news_of_block (cs := #[.int .i64 c.o, .int .i64 c.x, .int .i64 c.y, .int .u64 (wd c.s 0), .int .u64 (wd c.s 1), .int .u64 (wd c.s 2), .int .u64 (wd c.s 3)]) (t := t) (fr := (0, 0)) (heap_alloc_new w _)
theorem ins_one (c : Ins) : ∀ u ∈ cellsC c, u.oneCell' = true := by have := flatC_oneCell [c]; rwa [flatC_one] at this
theorem one_cell {w : World} {b : Nat} {v : Value} {t : TypeId} (h : w.heap[b]? = some (.cells #[v] t (0, 0))) : w.cell? ⟨b, 0, none⟩ = some v := by unfold World.cell?; rw [h]; rfl

theorem grown_st (w : World) (r o : Nat) (v : Value) : w.grownBy (w.setCell ⟨r, o, none⟩ v) (some r) :=
  ⟨rfl, rfl, rfl, by simp, fun k _ hk => heap_setCell_other w _ k v (fun e => hk (by rw [e]))⟩
theorem grown_rowP {w w1 w2 : World} {row : Option Nat} (h : w.grownBy w1 none) (g : w1.grownBy w2 row) : w.grownBy w2 row :=
  (World.grownBy.mk h.os h.tape h.output h.size (fun k hk _ => h.block k hk (by simp)) : w.grownBy w1 row).trans g

set_option maxRecDepth 100000 in
set_option maxHeartbeats 4000000 in
theorem cPut (p : Nat) (v : Value) (l : List Ins) (c : Ins) (w : World) (h : Wr p v l w) (hl : l.length ≤ 100000) :
    Calls Tryd.prog 32 #[.pointer (some ⟨p, 0, none⟩), insV c] w fun e w' => e = .returned (.int .i64 l.length) ∧ ∃ v', Wr p v' (l ++ [c]) w' ∧ Kp p v w v' w' := by
  obtain ⟨va, vc, rfl⟩ := owns_shape h.O
  have ga := World.grownBy_alloc w (.cells #[.int .i64 c.o, .int .i64 c.x, .int .i64 c.y, .int .u64 (wd c.s 0), .int .u64 (wd c.s 1), .int .u64 (wd c.s 2), .int .u64 (wd c.s 3)] 53) none
  have B1 := Lib.hid (heap_alloc_new w (.cells #[.int .i64 c.o, .int .i64 c.x, .int .i64 c.y, .int .u64 (wd c.s 0), .int .u64 (wd c.s 1), .int .u64 (wd c.s 2), .int .u64 (wd c.s 3)] 53))
  have W1 := Lib.hid (h.kept ga)
  have G1 := Lib.hid ga
  have W0 := Lib.hid h
  have hq := (h.new (Nat.le_refl _)).1
  have HQ := Lib.hid hq
  clear ga h hq
  obtain ⟨iu, hiu, hu0, hu1, hu2⟩ := info_parts infoIns
  have IU := Lib.hid hiu; have ZU0 := Lib.hid hu0; have ZU1 := Lib.hid hu1; have ZU2 := Lib.hid hu2
  clear hiu hu0 hu1 hu2
  go_enter Tryd.func32, Tryd.ntmps32
  go_upto_region 1 with fail
  generalize w.alloc _ = w1 at B1 G1 W1 ⊢
  generalize w.heap.size = q at B1 HQ ⊢
  obtain ⟨c0, c1, c2, c3, c4, c5, c6⟩ := seven_cells B1.out
  have p0 := one_cell W1.out.P
  have p1 := fun ob => (World.grownBy_alloc w1 ob none).cell p0 (by simp)
  have HNO := Lib.hid (show some p ≠ (Value.slice va l.length vc).ownBlock from fun e => by have := W0.out.O.lt p e.symm; omega)
  have HB := Lib.hid (fun b e => (W1.out.O.lt b e).2)
  go_region_law (refine step_append_lies _ (by rfl) _ _ 23 (by rfl) (p + 1) 53 iu _ 7 56 Tryd.underlying23 IU.out ZU0.out ZU1.out ZU2.out rfl (by decide) (.slice va l.length vc) l.length (flatC l) (by rfl) (W1.out.kept ((grown_drew (World.grownBy.refl _ _)).trans (World.grownBy_alloc _ _ _))).O ⟨_, 0, none⟩ 1 1 (cellsC c) (by rfl) rfl (new_ins _ _ _ _ (by simp)) (ins_one c) (by decide) (by unfold maxLen; omega) (by omega) (by have h1 := W1.out.lt; simp; omega) _ rfl ?_; intro gg cap w7 hown2 hgrow2 hat hlt2; have O7 := Lib.hid ((hgrow2.block p (by have h1 := W1.out.lt; simp; omega) HNO.out).trans (heap_grown (World.grownBy_alloc _ _ _) (show (World.drew _).heap[p]? = _ from W1.out.P))); have f7 := four_free O7.out 0; have q7 := one_cell O7.out)
  all_goals
    have gA : w1.grownBy (w1.alloc (.cells #[.int .i64 c.o, .int .i64 c.x, .int .i64 c.y, .int .u64 (wd c.s 0), .int .u64 (wd c.s 1), .int .u64 (wd c.s 2), .int .u64 (wd c.s 3)] 53)).drew none := grown_drew (World.grownBy_alloc w1 _ none)
    have gT := grown_rowP (G1.out.trans gA) hgrow2
    have HA := hat.imp_right (fun e => show w.heap.size ≤ gg by rw [e]; have := (G1.out.trans gA).size; exact this)
    have hgg := (hown2.lt gg rfl).1
    have W8 := Lib.hid (show Wr p (.slice (some ⟨gg, 0, none⟩) (l.length + 1) cap) (l ++ [c]) (w7.setCell ⟨p, 0, none⟩ (.slice (some ⟨gg, 0, none⟩) (l.length + 1) cap)) from
      ⟨heap_setCell_same w7 p 0 _ _ _ O7.out, by rw [List.length_append, flatC_append, flatC_one]; exact hown2.kept (grown_st w7 p 0 _) (.inr (fun e => by have e' : gg = p := Option.some.inj e; omega))⟩)
    have K8 := Lib.hid (Kp.append (p := p) gT HA (.slice (some ⟨gg, 0, none⟩) (l.length + 1) cap) rfl)
    clear gA gT HA hgg hown2 hgrow2 hat hlt2 f7 q7 p0 p1 c0 c1 c2 c3 c4 c5 c6 O7 B1
    generalize w7.setCell _ _ = w8 at W8 K8 ⊢
    have p0 := one_cell W8.out.P
    go_wp2
    go_ret
    exact ⟨ret_int (by omega), _, W8.out, K8.out⟩
end Go.Proofs.YtliefnjhobdphaaDoor

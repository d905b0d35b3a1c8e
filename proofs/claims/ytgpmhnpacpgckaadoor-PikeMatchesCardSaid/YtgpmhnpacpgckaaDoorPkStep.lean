/- All ways at one place, plainly: the marks, how many are left, how the first way goes on. The way that is gone on with, in memory. -/
import Derived.Test.YtgpmhnpacpgckaaDoorPkSmall
import Derived.Test.YtgpmhnpacpgckaaDoorPgWr
import Derived.StillTailTactics
namespace Go.Proofs.YtgpmhnpacpgckaaDoor
open Go.RowKit

def toY (q : Nat) (x : Wx) : Wy := ⟨x.a, q, x.k⟩
/-- how many instructions are not gone through at a place -/
def unm (B : List Int) (q : Int) : Nat := B.countP (· != q)
theorem unm_le (B : List Int) (q : Int) : unm B q ≤ B.length := List.countP_le_length
theorem unm_set : ∀ (B : List Int) (q : Int) (n : Nat) (v : Int), B[n]? = some v → v ≠ q → unm (B.set n q) q + 1 = unm B q := by
  intro B q
  induction B with
  | nil => intro n v h; simp at h
  | cons b B ih =>
    intro n v h hq
    cases n with
    | zero => simp at h; subst h; unfold unm; simp [hq]
    | succ n =>
      have := ih n v (by simpa using h) hq
      unfold unm at this ⊢
      rw [List.set_cons_succ, List.countP_cons, List.countP_cons]
      omega
/-- the marks of a place are those of the ways; further on there is none -/
structure Mk9 (L : List Ins) (q : Nat) (B : List Int) (V : Vis) : Prop where
  len : B.length = L.length
  is : ∀ (a : Nat) (v : Int), B[a]? = some v → v ≤ q ∧ (V a q = true ↔ v = q)
  no : ∀ a q' : Nat, q < q' → V a q' = false
theorem Mk9.set {L : List Ins} {q : Nat} {B : List Int} {V : Vis} (h : Mk9 L q B V) (n : Nat) : Mk9 L q (B.set n q) (mrk V n q) := by
  refine ⟨by simp [h.len], fun a v hv => ?_, fun a q' hq => ?_⟩
  · rw [List.getElem?_set] at hv
    by_cases e : n = a
    · subst e
      rw [if_pos rfl] at hv
      split at hv
      · cases hv; exact ⟨Int.le_refl _, by simp [mrk]⟩
      · cases hv
    · rw [if_neg e] at hv
      have := h.is a v hv
      refine ⟨this.1, ?_⟩
      unfold mrk
      rw [show (a == n) = false by simpa using fun e' => e e'.symm]
      simpa using this.2
  · unfold mrk
    rw [show (q' == q) = false by simp; omega, h.no a q' hq]; simp
theorem Mk9.next {L : List Ins} {q : Nat} {B : List Int} {V : Vis} (h : Mk9 L q B V) : Mk9 L (q + 1) B V :=
  ⟨h.len, fun a v hv => by have := (h.is a v hv).1; exact ⟨by omega, by rw [h.no a (q + 1) (by omega)]; simp; omega⟩, fun a q' hq => h.no a q' (by omega)⟩
theorem Mk9.start (L : List Ins) : Mk9 L 0 (List.replicate L.length (-1)) (fun _ _ => false) := by
  refine ⟨by simp, fun a v hv => ?_, fun _ _ _ => rfl⟩
  rw [List.getElem?_replicate] at hv
  split at hv
  · cases hv; simp
  · cases hv
/-- what can't be entered ends -/
theorem Mk9.blk {L : List Ins} {q : Nat} {B : List Int} {V : Vis} (h : Mk9 L q B V) {x : Wx} (hb : x.a < 0 ∨ (L.length : Int) ≤ x.a ∨ (0 ≤ x.a ∧ x.a < L.length ∧ B[x.a.toNat]? = some (q : Int))) : blk9 L V (toY q x) := by
  rcases hb with hb | hb | ⟨_, _, hb⟩
  · exact .inl hb
  · exact .inr (.inl (by show L.length ≤ x.a.toNat; omega))
  · exact .inr (.inr ((h.is _ _ hb).2.2 rfl))
theorem Mk9.opn {L : List Ins} {q n : Nat} {B : List Int} {V : Vis} (h : Mk9 L q B V) {x : Wx} {i : Ins} {v : Int} (hx : x.a = n) (hi : L[n]? = some i) (hv : B[n]? = some v) (hq : v ≠ q) : opn9 L V (toY q x) i := by
  refine ⟨by show 0 ≤ x.a; omega, ?_, ?_⟩
  · show L[x.a.toNat]? = _; rw [hx]; exact hi
  · show V x.a.toNat q = false
    rw [hx]
    have := (h.is n v hv).2
    cases hV : V n q
    · simpa using hV
    · exact (hq (this.1 hV)).elim
/-- the ways at the next place, ahead of those at this one -/
abbrev ways9 (q : Nat) (N S : List Wx) : List Wy := N.map (toY (q + 1)) ++ S.reverse.map (toY q)
abbrev ways9o (q : Nat) (N : List Wx) (x : Wx) (S : List Wx) : List Wy := N.map (toY (q + 1)) ++ toY q x :: S.reverse.map (toY q)
theorem ways_pop (q : Nat) (N S : List Wx) (x : Wx) : ways9 q N (S ++ [x]) = ways9o q N x S := by simp [ways9, ways9o]
theorem far9 {q : Nat} {N : List Wx} {x : Wx} : ∀ t ∈ N.map (toY (q + 1)), (toY q x).pl < t.pl := by
  intro t ht
  obtain ⟨y, -, rfl⟩ := List.mem_map.1 ht
  show q < q + 1
  omega
section
variable {L : List Ins} {s : ByteArray} {q : Nat} {N S : List Wx} {x : Wx} {V : Vis} {r : Option (List Int)} {i : Ins}
theorem run9_skip (h : Run9 L s (ways9o q N x S) V r) (hb : blk9 L V (toY q x)) : Run9 L s (ways9 q N S) V r := run_skip h _ _ _ rfl hb far9
theorem run9_go {X : List Wy} (h : Run9 L s (ways9o q N x S) V r) (ho : opn9 L V (toY q x) i) (hs : stp9 s i (toY q x) = some X) : Run9 L s (N.map (toY (q + 1)) ++ (X ++ S.reverse.map (toY q))) (mrk V x.a.toNat q) r := run_go h _ _ _ _ _ rfl ho hs far9
theorem run9_end (h : Run9 L s (ways9o q N x S) V r) (ho : opn9 L V (toY q x) i) (hs : stp9 s i (toY q x) = some []) : Run9 L s (ways9 q N S) (mrk V x.a.toNat q) r := run9_go h ho hs
theorem run9_on {a : Int} {k : List Int} {b : Nat} (h : Run9 L s (ways9o q N x S) V r) (ho : opn9 L V (toY q x) i) (hs : stp9 s i (toY q x) = some [⟨a, q, k⟩]) : Run9 L s (ways9o q N ⟨a, b, k⟩ S) (mrk V x.a.toNat q) r := run9_go h ho hs
theorem run9_split (h : Run9 L s (ways9o q N x S) V r) (ho : opn9 L V (toY q x) i) (hi : i.o = 1) : Run9 L s (ways9o q N ⟨i.x, x.b, x.k⟩ (S ++ [⟨i.y, x.b, x.k⟩])) (mrk V x.a.toNat q) r := by
  have := run9_go h ho (X := [⟨i.x, q, x.k⟩, ⟨i.y, q, x.k⟩]) (by unfold stp9; rw [if_neg (by omega), if_pos hi]; rfl)
  simpa [ways9o, toY] using this
theorem run9_byte (h : Run9 L s (ways9o q N x S) V r) (ho : opn9 L V (toY q x) i) (hi : i.o = 0) (hb : byt9 s q i.s = true) : Run9 L s (ways9 q (N ++ [⟨x.a + 1, x.b, x.k⟩]) S) (mrk V x.a.toNat q) r := by
  have := run9_go h ho (X := [⟨x.a + 1, q + 1, x.k⟩]) (by unfold stp9; rw [if_pos hi]; show some (if byt9 s q i.s = true then _ else _) = _; rw [if_pos hb]; rfl)
  simpa [ways9, toY] using this
theorem run9_win (h : Run9 L s (ways9o q [] x S) V r) (ho : opn9 L V (toY q x) i) (hi : i.o = 6) (hq : q = s.size) : r = some x.k :=
  run_win h ho (by unfold stp9; rw [if_neg (by omega), if_neg (by omega), if_neg (by omega), if_neg (by omega), if_neg (by omega), if_neg (by omega), if_pos hi]; exact if_pos hq)
end

/-- the way that is gone on with, its variable in block o -/
structure Hx (w0 : World) (p : Nat) (cv : Value) (s : ByteArray) (q : Nat) (bv : Value) (B : List Int) (sv : Value) (S : List Wx) (nv : Value) (N : List Wx) (o : Nat) (x : Wx) (w : World) : Prop where
  W : Wk w0 p cv s q bv B sv S nv N w
  F : Far w0 p bv sv nv S N o
  O : w.heap[o]? = some (.cells #[.int .i64 x.a, .pointer (some ⟨x.b, 0, none⟩)] 45 (0, 0))
  K : Kep w0 x.b x.k w
section
variable {w0 w w' : World} {p q o : Nat} {cv bv sv nv : Value} {s : ByteArray} {B : List Int} {S N : List Wx} {x : Wx}
theorem Hx.lt (h : Hx w0 p cv s q bv B sv S nv N o x w) : o < w.heap.size := (Array.getElem?_eq_some_iff.1 h.O).1
theorem Hx.grown (h : Hx w0 p cv s q bv B sv S nv N o x w) (g : w.grownBy w' none) : Hx w0 p cv s q bv B sv S nv N o x w' := ⟨h.W.grown g, h.F, heap_grown g h.O, h.K.grown g⟩
theorem Hx.xo (h : Hx w0 p cv s q bv B sv S nv N o x w) : x.b ≠ o := h.K.ne h.O (by decide)
theorem Hx.setA (h : Hx w0 p cv s q bv B sv S nv N o x w) (a : Int) : Hx w0 p cv s q bv B sv S nv N o ⟨a, x.b, x.k⟩ (w.setCell ⟨o, 0, none⟩ (.int .i64 a)) :=
  ⟨h.W.far h.F (grown_cell w o 0 _), h.F, by have := heap_setCell_same w o 0 _ _ (.int .i64 a) h.O; simpa using this, h.K.kept (grown_cell w o 0 _) (fun e => by cases e; exact h.xo rfl)⟩
theorem Hx.setB (h : Hx w0 p cv s q bv B sv S nv N o x w) {b : Nat} {k : List Int} (hk : Kep w0 b k w) : Hx w0 p cv s q bv B sv S nv N o ⟨x.a, b, k⟩ (w.setCell ⟨o, 1, none⟩ (.pointer (some ⟨b, 0, none⟩))) :=
  ⟨h.W.far h.F (grown_cell w o 1 _), h.F, by have := heap_setCell_same w o 1 _ _ (.pointer (some ⟨b, 0, none⟩)) h.O; simpa using this, hk.kept (grown_cell w o 1 _) (fun e => by cases e; exact hk.ne h.O (by decide) rfl)⟩
theorem Hx.marked (h : Hx w0 p cv s q bv B sv S nv N o x w) {B' : List Int} (g : w.grownBy w' bv.ownBlock) (hw : Wk w0 p cv s q bv B' sv S nv N w') : Hx w0 p cv s q bv B' sv S nv N o x w' :=
  ⟨hw, h.F, (g.block o h.lt (fun e => h.F.nb e.symm)).trans h.O, h.K.kept g (fun e => (h.K.own h.W.oB (by decide)) e.symm)⟩
theorem Hx.pushS (h : Hx w0 p cv s q bv B sv S nv N o x w) (a : Int) {gg cap : Nat} {w7 : World}
    (ow : w7.ownsRow w0.heap.size 45 2 (.slice (some ⟨gg, 0, none⟩) (S.length + 1) cap) (S.length + 1) (flatW S ++ wayC ⟨a, x.b, x.k⟩)) (g : w.grownBy w7 sv.ownBlock) (hat : sv.ownBlock = some gg ∨ w.heap.size ≤ gg) :
    Hx w0 p cv s q bv B (.slice (some ⟨gg, 0, none⟩) (S.length + 1) cap) (S ++ [⟨a, x.b, x.k⟩]) nv N o x (w7.setCell ⟨p, 4, none⟩ (.slice (some ⟨gg, 0, none⟩) (S.length + 1) cap)) := by
  have hK7 := h.K.kept g (fun e => (h.K.own h.W.oS (by decide)) e.symm)
  have hO7 := (g.block o h.lt (fun e => h.F.ns e.symm)).trans h.O
  have hP7 := (g.block p h.W.lt (fun e => (own_type h.W.oS h.W.P (by decide)) e.symm)).trans h.W.P
  have hxp : x.b ≠ p := hK7.ne hP7 (by decide)
  refine ⟨h.W.pushS (x := ⟨a, x.b, x.k⟩) h.K ow g hat, ⟨h.F.hb, h.F.ne, h.F.nb, fun e => ?_, h.F.nn, fun y hy => ?_, h.F.kn⟩, (heap_setCell_other w7 _ o _ h.F.ne).trans hO7, hK7.kept (grown_cell w7 p 4 _) (fun e => by cases e; exact hxp rfl)⟩
  · have e1 : gg = o := by simpa [Value.ownBlock] using e
    subst e1
    rcases hat with hat | hat
    · exact h.F.ns hat
    · have := h.lt; omega
  · rcases List.mem_append.1 hy with hy | hy
    · exact h.F.ks y hy
    · simp at hy; subst hy; exact h.xo
/-- the walk's variable behind an append to its stack, to its ways at the next place -/
theorem Hx.appP (h : Hx w0 p cv s q bv B sv S nv N o x w) (g : w.grownBy w' sv.ownBlock) : w'.heap[p]? = some (.cells #[cv, .string s, .int .i64 q, bv, sv, nv] 48 (0, 0)) :=
  (g.block p h.W.lt (fun e => (own_type h.W.oS h.W.P (by decide)) e.symm)).trans h.W.P
theorem Hx.appN (h : Hx w0 p cv s q bv B sv S nv N o x w) (g : w.grownBy w' nv.ownBlock) : w'.heap[p]? = some (.cells #[cv, .string s, .int .i64 q, bv, sv, nv] 48 (0, 0)) :=
  (g.block p h.W.lt (fun e => (own_type h.W.oN h.W.P (by decide)) e.symm)).trans h.W.P
/-- the ways at the next place, turned about -/
theorem Wk.turnN {g n cap : Nat} {N' : List Wx} (h : Wk w0 p cv s q bv B sv S (.slice (some ⟨g, 0, none⟩) n cap) N w) (hl : N'.length = N.length) (hm : ∀ y ∈ N', y ∈ N)
    (ow : w'.ownsRow w0.heap.size 45 2 (.slice (some ⟨g, 0, none⟩) n cap) n (flatW N')) (gr : w.grownBy w' (some g)) (hn : N.length = n) : Wk w0 p cv s q bv B sv S (.slice (some ⟨g, 0, none⟩) n cap) N' w' := by
  have hb : (Value.slice (some ⟨g, 0, none⟩) n cap).ownBlock = some g := rfl
  have hk : ∀ {y : Wx}, Kep w0 y.b y.k w → Kep w0 y.b y.k w' := fun ky => ky.kept gr (fun e => (ky.own h.oN (by decide)) (by rw [hb]; exact e.symm))
  refine ⟨h.G.andThen gr (fun j hj => .inl (by cases hj; exact (h.oN.lt g rfl).1)), h.hp, (gr.block p h.lt (fun e => (own_type h.oN h.P (by decide)) (by rw [hb]; exact e.symm))).trans h.P,
    h.oB.kept gr (own_row h.oB h.oN (by decide)), h.oS.kept gr ?_, by rw [hl, hn]; exact ow, h.ap, fun y hy => hk (h.KS y hy), fun y hy => hk (h.KN y (hm y hy))⟩
  cases hs : sv.ownBlock with
  | none => exact .inl rfl
  | some k => exact .inr (fun e => h.ap k hs (by rw [hb]; exact e.symm))
theorem infoWay : (Tryd.prog.info? 45).map (fun i => (i.zero, i.size, i.bytes)) = some (some (.agg #[.int .i64 0, .pointer none]), 2, 16) := by kernel_rfl
theorem new_way (w : World) (c : Wx) (t : TypeId) (m : Nat) (hm : m = w.heap.size) : ∀ j u, (wayC c)[j]? = some u → (w.alloc (.cells #[.int .i64 c.a, .pointer (some ⟨c.b, 0, none⟩)] t)).cell? ((⟨m, 0, none⟩ : Addr).add j) = some u := by
  subst hm
  exact World.news_of_block (cs := #[.int .i64 c.a, .pointer (some ⟨c.b, 0, none⟩)]) (t := t) (fr := (0, 0)) (heap_alloc_new w _)
/-- a whole row read out of a variable, as one step of a statement whose order is open -/
theorem step_load_row9 {ops : Array Oper} {o : Oper} {a : Act} {w : World} {K : Act → World → Prop} {Q : Exit → Act → World → Prop} {E : Prop} (hg : o.guard = none) (ty : TypeId) (x : Operand) (ho : o.op = .load ty x)
    (g : Nat) (hx : a.eval x = .pointer (some ⟨g, 0, none⟩)) (t : TypeId) (cs : Array Value) (fr : Nat × Nat) (n : Nat) (el : TypeId) (hb : w.heap[g]? = some (.cells cs t fr))
    (hu : Tryd.prog.underlying ty = some (.array n el)) (hi : (Tryd.prog.info? ty).map (·.size) = some cs.size)
    (h : K (a.put o.dst (.agg cs)) w) : if Region.wanted o (yielded ops a.tmps) = true then Oper.wp Tryd.prog o a w K Q else E := by
  have hw : Region.wanted o (yielded ops a.tmps) = true := by simp [Region.wanted, hg]
  rw [if_pos hw]
  exact wp_load_row ty x ho g hx t cs fr _ hb hu rfl hi h
/-- the same in a statement whose reads come ahead of all -/
theorem wpStill_load_row9 {ops : Array Oper} {Q : Act → Prop} {o : Oper} {rest : List Oper} {a : Act} {w : World} (hg : o.guard = none) (ty : TypeId) (x : Operand) (ho : o.op = .load ty x)
    (g : Nat) (hx : a.eval x = .pointer (some ⟨g, 0, none⟩)) (t : TypeId) (cs : Array Value) (fr : Nat × Nat) (n : Nat) (el : TypeId) (hb : w.heap[g]? = some (.cells cs t fr))
    (hu : Tryd.prog.underlying ty = some (.array n el)) (hi : (Tryd.prog.info? ty).map (·.size) = some cs.size)
    (h : wpStill Tryd.prog ops w Q rest (a.put o.dst (.agg cs))) : wpStill Tryd.prog ops w Q (o :: rest) a := by
  refine wpStill_step fun K hK => ?_
  have hw : Region.wanted o (yielded ops a.tmps) = true := by simp [Region.wanted, hg]
  rw [if_pos hw]
  unfold Oper.still execOp
  simp only [ho, hx, Instr.loadAt, Instr.sureAddr, Sem.run_bind, Sem.run_pure, Result.andThen_ok, run_loadVar_row w g t ty cs fr _ hb hu rfl hi]
  exact ⟨rfl, hK _ h⟩
theorem sizePl (k : List Int) (h : k.length = 20) : (Tryd.prog.info? 66).map (·.size) = some (intsV k).toArray.size := by
  rw [List.size_toArray, intsV_len, h]; kernel_rfl
/-- what is so at the head of the loop over the stack -/
def Ho (L : List Ins) (s : ByteArray) (w0 : World) (p : Nat) (cv : Value) (q : Nat) (bv : Value) (r : Option (List Int)) (kk : Nat) (w : World) : Prop :=
  ∃ sv S nv N B V, Wk w0 p cv s q bv B sv S nv N w ∧ Mk9 L q B V ∧ Run9 L s (ways9 q N S) V r ∧ S.length + 2 * unm B q ≤ kk ∧ N.length + unm B q ≤ L.length ∧ (q = s.size → N = []) ∧ kk ≤ 3 * L.length + 1
/-- what is so at the head of the loop over one way -/
def Hn (L : List Ins) (s : ByteArray) (w0 : World) (p : Nat) (cv : Value) (q : Nat) (bv : Value) (r : Option (List Int)) (kk o g : Nat) (w : World) : Prop :=
  ∃ sv S nv N B V x, Hx w0 p cv s q bv B sv S nv N o x w ∧ Mk9 L q B V ∧ Run9 L s (ways9o q N x S) V r ∧ S.length + 2 * unm B q + 1 ≤ kk ∧ unm B q ≤ g ∧ N.length + unm B q ≤ L.length ∧ (q = s.size → N = []) ∧ kk ≤ 3 * L.length + 1
end
end Go.Proofs.YtgpmhnpacpgckaaDoor

/- Rows of instructions that a call makes: one, none, two; a row behind a row. -/
import Derived.Test.YtgpmhnpacpgckaaDoorPgRow
import Derived.Laws.AppendOwnNone
namespace Go.Proofs.YtgpmhnpacpgckaaDoor
open Go.RowKit

theorem infoIr : (Tryd.prog.info? 60).map (fun i => (i.zero, i.size, i.bytes)) = some (some (.agg #[.int .i64 0, .int .i64 0, .int .i64 0, .int .u64 0, .int .u64 0, .int .u64 0, .int .u64 0]), 7, 56) := by kernel_rfl
theorem own_one (w : World) (c : Ins) (T : TypeId) (base : Nat) (hb : base ≤ w.heap.size) : (w.alloc (.cells #[.int .i64 c.o, .int .i64 c.x, .int .i64 c.y, .int .u64 (wd c.s 0), .int .u64 (wd c.s 1), .int .u64 (wd c.s 2), .int .u64 (wd c.s 3)] T)).ownsRow base T 7 (.slice (some ⟨w.heap.size, 0, none⟩) 1 1) 1 (flatC [c]) :=
  ⟨rfl, .inr ⟨w.heap.size, 1, _, rfl, hb, heap_alloc_new w _, Nat.le_refl _, by decide, rfl, rfl⟩⟩
theorem own_zero (w : World) (T : TypeId) (base : Nat) (hb : base ≤ w.heap.size) : (w.alloc (.cells #[] T)).ownsRow base T 7 (.slice (some ⟨w.heap.size, 0, none⟩) 0 0) 0 (flatC []) :=
  ⟨rfl, .inr ⟨w.heap.size, 0, _, rfl, hb, heap_alloc_new w _, Nat.le_refl _, by decide, rfl, rfl⟩⟩
theorem own_set (w : World) (s : BitVec 256) (T : TypeId) (base : Nat) (hb : base ≤ w.heap.size) : (w.alloc (.cells #[.int .i64 0, .int .i64 0, .int .i64 0, .int .u64 (wd s 0), .int .u64 (wd s 1), .int .u64 (wd s 2), .int .u64 (wd s 3)] T)).ownsRow base T 7 (.slice (some ⟨w.heap.size, 0, none⟩) 1 1) 1 (flatC [⟨0, 0, 0, s⟩]) :=
  own_one w ⟨0, 0, 0, s⟩ T base hb
theorem flat_plain (o x y : Int) : flatC [⟨o, x, y, emp⟩] = [.int .i64 o, .int .i64 x, .int .i64 y, .int .u64 0, .int .u64 0, .int .u64 0, .int .u64 0] := by
  rw [flatC_one]; unfold cellsC; simp [wd_emp]
theorem own_plain (w : World) (o x y : Int) (T : TypeId) (base : Nat) (hb : base ≤ w.heap.size) : (w.alloc (.cells #[.int .i64 o, .int .i64 x, .int .i64 y, .int .u64 0, .int .u64 0, .int .u64 0, .int .u64 0] T)).ownsRow base T 7 (.slice (some ⟨w.heap.size, 0, none⟩) 1 1) 1 (flatC [⟨o, x, y, emp⟩]) := by
  rw [flat_plain]
  exact ⟨rfl, .inr ⟨w.heap.size, 1, _, rfl, hb, heap_alloc_new w _, Nat.le_refl _, by decide, rfl, rfl⟩⟩
theorem own_two (w : World) (o x o' x' : Int) (T : TypeId) (base : Nat) (hb : base ≤ w.heap.size) : (w.alloc (.cells #[.int .i64 o, .int .i64 x, .int .i64 0, .int .u64 0, .int .u64 0, .int .u64 0, .int .u64 0, .int .i64 o', .int .i64 x', .int .i64 0, .int .u64 0, .int .u64 0, .int .u64 0, .int .u64 0] T)).ownsRow base T 7 (.slice (some ⟨w.heap.size, 0, none⟩) 2 2) 2 (flatC [⟨o, x, 0, emp⟩, ⟨o', x', 0, emp⟩]) := by
  rw [flatC_cons, ← flatC_one, flat_plain, flat_plain]
  exact ⟨rfl, .inr ⟨w.heap.size, 2, _, rfl, hb, heap_alloc_new w _, Nat.le_refl _, by decide, rfl, rfl⟩⟩
/-- a row of the document's instructions behind another one -/
theorem wp_app2 {o : Oper} {a : Act} {Q : Exit → Act → World → Prop} (w : World) (s x : Operand) (ho : o.op = .call { callee := .builtin .append, args := #[s, x], argTypes := #[30, 30] })
    (hgd : o.guard = none) (base b2 n m : Nat) (v u : Value) (L R : List Ins) (hs : a.eval s = v) (hx : a.eval x = u) (hown : w.ownsRow base 60 7 v n (flatC L)) (hsrc : w.ownsRow b2 60 7 u m (flatC R)) (hb : n + m ≤ 20000) (hbase : base ≤ w.heap.size)
    {ops : Array Oper} {rest : List Oper} (h : ∀ v' w', w'.ownsRow base 60 7 v' (n + m) (flatC (L ++ R)) → w.grownBy w' v.ownBlock → wpList Tryd.prog ops Q rest (a.put o.dst v') w') : wpList Tryd.prog ops Q (o :: rest) a w := by
  obtain ⟨i, hi, hz, hsz, hby⟩ := info_parts infoIr
  have hsrc' := hsrc
  rcases hsrc.2 with ⟨rfl, h0⟩ | ⟨g, cap, cur, rfl, -, -, -⟩
  · subst h0
    have hR : R = [] := by
      have := hsrc.1
      rw [flatC_len] at this
      exact List.eq_nil_of_length_eq_zero (by omega)
    subst hR
    exact wpList_append_own_none hgd s x _ ho base _ i 7 Tryd.underlying30 hi v n _ hs hown hx (h v w (by rw [List.append_nil]; exact hown) (World.grownBy.refl _ _))
  · refine wpList_append_own w hgd s x _ ho base _ i _ 7 56 Tryd.underlying30 hi hz hsz hby rfl (by decide) v n _ hs hown ⟨g, 0, none⟩ m cap (flatC R) hx hsrc.1 (fun j u hu => ?_) (flatC_oneCell R) (by unfold maxLen; omega) (by omega) hbase fun v' w' h2 h3 _ => h v' w' (by rw [flatC_append]; exact h2) h3
    exact hsrc'.cells (g := g) rfl j u hu
/-- the same as a step of a statement whose order is open -/
theorem step_app2 {o : Oper} {a : Act} {K : Act → World → Prop} {Q : Exit → Act → World → Prop} {E : Prop} (w : World) (s x : Operand) (ho : o.op = .call { callee := .builtin .append, args := #[s, x], argTypes := #[30, 30] })
    (hgd : o.guard = none) (base b2 n m : Nat) (v u : Value) (L R : List Ins) (hs : a.eval s = v) (hx : a.eval x = u) (hown : w.ownsRow base 60 7 v n (flatC L)) (hsrc : w.ownsRow b2 60 7 u m (flatC R)) (hb : n + m ≤ 20000) (hbase : base ≤ w.heap.size)
    {ops : Array Oper} (h : ∀ v' w', w'.ownsRow base 60 7 v' (n + m) (flatC (L ++ R)) → w.grownBy w' v.ownBlock → K (a.put o.dst v') w') : if Region.wanted o (yielded ops a.tmps) = true then Oper.wp Tryd.prog o a w K Q else E := by
  obtain ⟨i, hi, hz, hsz, hby⟩ := info_parts infoIr
  have hw : Region.wanted o (yielded ops a.tmps) = true := by simp [Region.wanted, hgd]
  rw [if_pos hw]
  have hsrc' := hsrc
  rcases hsrc.2 with ⟨rfl, h0⟩ | ⟨g, cap, cur, rfl, -, -, -⟩
  · subst h0
    have hR : R = [] := by
      have := hsrc.1
      rw [flatC_len] at this
      exact List.eq_nil_of_length_eq_zero (by omega)
    subst hR
    have hrun := run_append_owned_none (P := Tryd.prog) (w := w) base 30 o.type 60 i 7 Tryd.underlying30 hi v n _ hown
    unfold Oper.wp
    simp [execOp, ho, resolve, invoke, builtin, hs, hx, hrun, Result.andThen]
    exact h v w (by rw [List.append_nil]; exact hown) (World.grownBy.refl _ _)
  · refine wp_append_own w s x _ ho base _ i _ 7 56 Tryd.underlying30 hi hz hsz hby rfl (by decide) v n _ hs hown ⟨g, 0, none⟩ m cap (flatC R) hx hsrc.1 (fun j u hu => ?_) (flatC_oneCell R) (by unfold maxLen; omega) (by omega) hbase fun v' w' h2 h3 _ => h v' w' (by rw [flatC_append]; exact h2) h3
    exact hsrc'.cells (g := g) rfl j u hu
/-- a row that grew lies where nothing lay before the call -/
theorem grown_own {w0 w w' : World} {base : Nat} {T : TypeId} {s n : Nat} {v : Value} {xs : List Value} (h : w0.grownBy w none) (g : w.grownBy w' v.ownBlock) (o : w.ownsRow base T s v n xs) (hb : w0.heap.size ≤ base) : w0.grownBy w' none :=
  h.andThen g (fun j e => .inl (by have := (o.lt j e).1; omega))
end Go.Proofs.YtgpmhnpacpgckaaDoor

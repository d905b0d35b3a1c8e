/- A region that draws its order and only makes memory, of any length: what holds of each operation's answer, in any world that has grown; operations that are not wanted answer nothing. -/
import Derived.Test.YtaihpgjimhifcaaDoorRegOwn
namespace Go.Proofs.YtaihpgjimhifcaaDoor
open Go.RowKit

/-- some operations are done: each has given its slot what its answer is to be -/
structure MA (ops : Array Oper) (kO : Nat → Nat) (H : Nat → World → Value → Prop) (w0 : World) (a0 : Act) (L : Nat → Bool) (a : Act) (w : World) : Prop where
  d : a.defers = a0.defers
  z : a.tmps.size = a0.tmps.size
  o : ∀ k, (∀ i, i < ops.size → kO i ≠ k) → a.tmps[k]? = a0.tmps[k]?
  g : w0.grownBy w none
  E : ∀ i, i < ops.size → L i = true → H i w (sl a (kO i))
/-- what is asked of each operation: its slot is its own; what its answer is stays so -/
structure FitA (ops : Array Oper) (kO : Nat → Nat) (H : Nat → World → Value → Prop) (a0 : Act) : Prop where
  inj : ∀ i j, i < ops.size → j < ops.size → kO j = kO i → j = i
  lt : ∀ i, i < ops.size → kO i < a0.tmps.size
  dst : ∀ i o, ops[i]? = some o → o.dst = some (kO i)
  up : ∀ i w w' v, H i w v → w.grownBy w' none → H i w' v
theorem fitA_of {ops : Array Oper} {kO : Nat → Nat} {H : Nat → World → Value → Prop} {a0 : Act} (h1 : ∀ i j, i < ops.size → j < ops.size → kO j = kO i → j = i) (h2 : ∀ i, i < ops.size → kO i < a0.tmps.size)
    (h3 : ((List.range ops.size).all fun i => match ops[i]? with | some o => o.dst == some (kO i) | none => true) = true) (h4 : ∀ i w w' v, H i w v → w.grownBy w' none → H i w' v) : FitA ops kO H a0 :=
  ⟨h1, h2, fun i o ho => by
    have := List.all_eq_true.1 h3 i (by simpa using (Array.getElem?_eq_some_iff.1 ho).1)
    rw [ho] at this
    simpa using this, h4⟩
section
variable {P : Program} {ops : Array Oper} {kO : Nat → Nat} {H : Nat → World → Value → Prop} {w0 : World} {a0 : Act} {L : Nat → Bool} {a : Act} {w : World} {Q : Exit → Act → World → Prop} {i j1 : Nat} {o : Oper}
theorem MA.start (w : World) (a0 : Act) : MA ops kO H w a0 (fun _ => false) a0 w.drew :=
  ⟨rfl, rfl, fun _ _ => rfl, grown_drew (World.grownBy.refl w none), fun _ _ h => (by cases h)⟩
theorem MA.slot (h : MA ops kO H w0 a0 L a w) {k : Nat} {v : Value} (hk : ∀ i, i < ops.size → kO i ≠ k) (h0 : a0.tmps[k]? = some v) : a.eval (.tmp k) = v := by
  show sl a k = v
  unfold sl; rw [Array.getD_eq_getD_getElem?, h.o k hk, h0]; rfl
theorem MA.next (h : MA ops kO H w0 a0 L a w) (F : FitA ops kO H a0) (hi : i < ops.size) {w' : World} {v : Value} (g : w.grownBy w' none) (hv : H i w' v) :
    MA ops kO H w0 a0 (fun j => j == i || L j) (a.put (some (kO i)) v) w' := by
  have hk' : kO i < a.tmps.size := by rw [h.z]; exact F.lt i hi
  refine ⟨h.d, (put_size _ _ _).trans h.z, fun k hk0 => ?_, h.g.trans g, fun j hj hL => ?_⟩
  · rw [put_get _ (fun e => hk0 i hi e.symm)]; exact h.o k hk0
  · by_cases e : j = i
    · subst e; rw [sl_same _ hk']; exact hv
    · rw [sl_other _ (fun e2 => e (F.inj i j hi hj e2))]
      exact F.up _ _ _ _ (h.E j hj (by simpa [e] using hL)) g
theorem at_lt (ho : ops[i]? = some o) : i < ops.size := (Array.getElem?_eq_some_iff.1 ho).1
theorem MA.at (R : MA ops kO H w0 a0 L a w) (h : j1 < ops.size) (l : L j1 = true) : H j1 w (a.eval (.tmp (kO j1))) := R.E j1 h l
theorem wantedA_none {f : Nat → Option Bool} (h : o.guard = none) : Region.wanted o f = true := by unfold Region.wanted; rw [h]
theorem wantedA_is {oj : Oper} {j k : Nat} {b c : Bool} (h : o.guard = some (j, c)) (hj : ops[j]? = some oj) (hd : oj.dst = some k) (hv : a.eval (.tmp k) = .bool b) : Region.wanted o (yielded ops a.tmps) = (b == c) := by
  unfold Region.wanted
  rw [h]
  unfold yielded
  dsimp only
  rw [hj]
  simp only [Option.bind_some, hd]
  have hv : sl a k = .bool b := hv
  unfold sl at hv
  rw [Array.getD_eq_getD_getElem?] at hv
  cases e : a.tmps[k]? with
  | none => rw [e] at hv; simp [undef] at hv
  | some v => rw [e] at hv; simp at hv; subst hv; cases b <;> cases c <;> rfl
/-- a guard on an operation that was not wanted itself -/
theorem wantedA_un {oj : Oper} {j k : Nat} {c : Bool} (h : o.guard = some (j, c)) (hj : ops[j]? = some oj) (hd : oj.dst = some k) (hv : a.eval (.tmp k) = undef) : Region.wanted o (yielded ops a.tmps) = false := by
  unfold Region.wanted
  rw [h]
  unfold yielded
  dsimp only
  rw [hj]
  simp only [Option.bind_some, hd]
  have hv : sl a k = undef := hv
  unfold sl at hv
  rw [Array.getD_eq_getD_getElem?] at hv
  cases e : a.tmps[k]? with
  | none => simp
  | some v => rw [e] at hv; simp at hv; subst hv; simp [undef]
theorem MA.val (R : MA ops kO H w0 a0 L a w) (F : FitA ops kO H a0) (ho : ops[i]? = some o) (hw : Region.wanted o (yielded ops a.tmps) = true) {v : Value} {w' : World} (hrun : (execOp a.eval o).run P w = .ok (.value v) w') (g : w.grownBy w' none) (hv : H i w' v) :
    wpOp P ops Q i (fun a'' w'' => MA ops kO H w0 a0 (fun j => j == i || L j) a'' w'') a w := by
  unfold wpOp
  rw [ho]
  simp only [hw, if_true]
  refine .inl (wp_made hrun ?_)
  rw [F.dst i o ho]
  exact R.next F (at_lt ho) g hv
theorem MA.skip (R : MA ops kO H w0 a0 L a w) (F : FitA ops kO H a0) (ho : ops[i]? = some o) (hw : Region.wanted o (yielded ops a.tmps) = false) (hv : H i w undef) :
    wpOp P ops Q i (fun a'' w'' => MA ops kO H w0 a0 (fun j => j == i || L j) a'' w'') a w := by
  unfold wpOp
  rw [ho]
  simp only [hw, Bool.false_eq_true, if_false]
  rw [F.dst i o ho]
  exact R.next F (at_lt ho) (World.grownBy.refl _ _) hv
theorem MA.called (R : MA ops kO H w0 a0 L a w) (F : FitA ops kO H a0) (ho : ops[i]? = some o) (hw : Region.wanted o (yielded ops a.tmps) = true) {f : FuncId} {args : Array Value} (hrun : (execOp a.eval o).run P w = .ok (.enter f args) w)
    (hc : Calls P f args w fun e w' => ∃ v, e = .returned v ∧ H i w' v ∧ w.grownBy w' none) : wpOp P ops Q i (fun a'' w'' => MA ops kO H w0 a0 (fun j => j == i || L j) a'' w'') a w := by
  unfold wpOp
  rw [ho]
  simp only [hw, if_true]
  refine .inl ?_
  unfold Oper.wp
  rw [hrun, Oper.upon_enter]
  refine hc.mono fun e w' ⟨v, he, hv, g⟩ => ?_
  subst he
  rw [F.dst i o ho]
  exact R.next F (at_lt ho) g hv
theorem MA.move (R : MA ops kO H w0 a0 L a w) (F : FitA ops kO H a0) (ho : ops[i]? = some o) (hw : Region.wanted o (yielded ops a.tmps) = true) {x : Operand} (hop : o.op = .move x ∨ o.op = .assign x) (hv : H i w (a.eval x)) :
    wpOp P ops Q i (fun a'' w'' => MA ops kO H w0 a0 (fun j => j == i || L j) a'' w'') a w := by
  refine R.val F ho hw (v := a.eval x) (w' := w) ?_ (World.grownBy.refl _ _) hv
  unfold execOp
  rcases hop with hop | hop <;> simp only [hop, Sem.run_pure]
theorem MA.pick (R : MA ops kO H w0 a0 L a w) (F : FitA ops kO H a0) (ho : ops[i]? = some o) (hw : Region.wanted o (yielded ops a.tmps) = true) {c x y : Operand} {b : Bool} (hop : o.op = .pick c x y) (hc : a.eval c = .bool b) (hv : H i w (if b then a.eval x else a.eval y)) :
    wpOp P ops Q i (fun a'' w'' => MA ops kO H w0 a0 (fun j => j == i || L j) a'' w'') a w := by
  refine R.val F ho hw (v := if b then a.eval x else a.eval y) (w' := w) ?_ (World.grownBy.refl _ _) hv
  unfold execOp
  simp only [hop, hc]
  cases b <;> rfl
theorem MA.not (R : MA ops kO H w0 a0 L a w) (F : FitA ops kO H a0) (ho : ops[i]? = some o) (hw : Region.wanted o (yielded ops a.tmps) = true) {T : TypeId} {x : Operand} {b : Bool} (hop : o.op = .unOp .not T x) (h1 : a.eval x = .bool b) (hv : H i w (.bool (!b))) :
    wpOp P ops Q i (fun a'' w'' => MA ops kO H w0 a0 (fun j => j == i || L j) a'' w'') a w := by
  refine R.val F ho hw (v := .bool (!b)) (w' := w) ?_ (World.grownBy.refl _ _) hv
  unfold execOp
  simp only [hop, h1]
  kernel_rfl
end
/-- a region that draws its order, by what each operation's answer is -/
theorem wp_region_any2 {P : Program} {id : Nat} {Q : Exit → Act → World → Prop} {a : Act} {w : World} {ops : Array Oper} (hm : P.follows .mixedOrders = true) (hB : lexOnly ops = true) (kO : Nat → Nat) (H : Nat → World → Value → Prop) (ks : List Nat) (hks : (List.range ops.size).map kO = ks) (F : FitA ops kO H a)
    (hstep : FitA ops kO H a → ∀ L a' w' i o, ops[i]? = some o → MA ops kO H w a L a' w' → L i = false → (∀ j ∈ depsOf o, L j = true) → wpOp P ops Q i (fun a'' w'' => MA ops kO H w a (fun j => j == i || L j) a'' w'') a' w')
    (hend : ∀ (u : Nat → Value) (w' : World), w.grownBy w' none → (∀ i, i < ops.size → H i w' (u (kO i))) → Q .normal (putL a (ks.map fun k => (k, u k))) w') : (Code.region id ops true).wp P Q a w := by
  refine wp_region_inv hm (fun a0 L a' w' => MA ops kO H w a0 L a' w') (MA.start w a) (hstep F) fun L a' w' h hall => ?_
  have done := all_done hB hall ops.size
  have e : a' = putL a ((List.range ops.size).map fun i => (kO i, sl a' (kO i))) := by
    obtain ⟨ta, da⟩ := a'
    obtain ⟨t0, d0⟩ := a
    have hd := h.d
    simp only at hd
    subst hd
    unfold putL
    congr 1
    apply Array.ext_getElem?
    intro k
    rw [putL_get _ _ (fun k => sl ⟨ta, da⟩ k) (fun p hp => by obtain ⟨i, -, rfl⟩ := List.mem_map.1 hp; rfl) k]
    by_cases h1 : k ∈ (((List.range ops.size).map fun i => (kO i, sl ⟨ta, da⟩ (kO i))).map Prod.fst)
    · have hk2 : ∃ i, i < ops.size ∧ kO i = k := by
        rw [List.map_map] at h1
        obtain ⟨i, hi, rfl⟩ := List.mem_map.1 h1
        exact ⟨i, by simpa using hi, rfl⟩
      obtain ⟨i, hi, rfl⟩ := hk2
      have h2 := F.lt i hi
      have h3 : kO i < ta.size := by have := h.z; simp only at this h2; omega
      rw [if_pos ⟨h1, h2⟩]
      unfold sl
      simp [h3]
    · rw [if_neg (fun e => h1 e.1)]
      refine h.o k fun i hi e => h1 ?_
      rw [List.map_map]
      exact List.mem_map.2 ⟨i, by simpa using hi, e⟩
  have hl := hend (sl a') w' h.g fun i hi => h.E i hi (done i hi hi)
  rw [← hks, List.map_map] at hl
  rw [e]
  exact hl
end Go.Proofs.YtaihpgjimhifcaaDoor

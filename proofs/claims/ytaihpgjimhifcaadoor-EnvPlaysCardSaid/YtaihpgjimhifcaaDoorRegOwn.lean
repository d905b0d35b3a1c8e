/- A region that draws its order, walked by what holds when some of its operations are done, whichever these are: for regions that make variables beside calls that make memory. 'a, b, c := f(..), g(..), h(..)' of variables that live in blocks: a region that draws its order, with loads, calls that make memory, new blocks and stores into these: what holds when some of its operations are done. -/
import Derived.RegionTactic
import Derived.KernelRfl
import Derived.Test.YtaihpgjimhifcaaDoorClsBase
namespace Go.Proofs.YtaihpgjimhifcaaDoor

theorem count_set_false : ∀ (l : List Bool) (i : Nat), l[i]? = some false → (l.set i true).count false + 1 = l.count false
  | [], _, h => by simp at h
  | b :: l, 0, h => by
    simp only [List.getElem?_cons_zero, Option.some.injEq] at h; subst h
    simp
  | b :: l, i + 1, h => by
    simp only [List.getElem?_cons_succ] at h
    have := count_set_false l i h
    simp only [List.set_cons_succ, List.count_cons]
    omega

/-- which operations must be done ahead of one -/
def depsOf (o : Oper) : List Nat := (o.after.toList.filter (Region.binds .any)).map (·.on)
theorem mem_deps {o : Oper} {j : Nat} : j ∈ depsOf o ↔ ∃ e ∈ o.after, Region.binds .any e = true ∧ e.on = j := by
  unfold depsOf
  simp only [List.mem_map, List.mem_filter, Array.mem_toList_iff]
  exact ⟨fun ⟨e, ⟨h1, h2⟩, h3⟩ => ⟨e, h1, h2, h3⟩, fun ⟨e, h1, h2, h3⟩ => ⟨e, ⟨h1, h2⟩, h3⟩⟩

theorem wpAny_inv {P : Program} {Q : Exit → Act → World → Prop} {ops : Array Oper} (I : (Nat → Bool) → Act → World → Prop)
    (hstep : ∀ L a w i o, ops[i]? = some o → I L a w → L i = false → (∀ j ∈ depsOf o, L j = true) → wpOp P ops Q i (fun a' w' => I (fun j => j == i || L j) a' w') a w)
    (hend : ∀ L a w, I L a w → (∀ i o, ops[i]? = some o → (∀ j ∈ depsOf o, L j = true) → L i = true) → Q .normal a w) :
    ∀ (fuel : Nat) (listed : Array Bool) (a : Act) (w : World), listed.size = ops.size → listed.toList.count false ≤ fuel → I (fun j => listed.getD j false) a w → wpAny P .any ops Q fuel listed a w := by
  have noready : ∀ (listed : Array Bool) (a : Act) (w : World), listed.size = ops.size → I (fun j => listed.getD j false) a w → Region.ready .any ops listed = [] → Q .normal a w := by
    intro listed a w hsz hI hr
    refine hend _ a w hI fun i o ho hd => ?_
    have hi : i < listed.size := by rw [hsz]; exact (Array.getElem?_eq_some_iff.1 ho).1
    cases hL : listed.getD i false with
    | true => rfl
    | false =>
      exfalso
      have hm : i ∈ Region.ready .any ops listed := mem_ready.2 ⟨by
        simp [hi] at hL ⊢; exact hL, o, ho, fun e he hb => hd e.on (mem_deps.2 ⟨e, he, hb, rfl⟩)⟩
      rw [hr] at hm; cases hm
  have step : ∀ (listed : Array Bool) (a : Act) (w : World) (i : Nat), listed.size = ops.size → I (fun j => listed.getD j false) a w → i ∈ Region.ready .any ops listed →
      listed.toList[i]? = some false ∧ wpOp P ops Q i (fun a' w' => I (fun j => (listed.setIfInBounds i true).getD j false) a' w') a w := by
    intro listed a w i hsz hI hi
    obtain ⟨h0, o, ho, hd⟩ := mem_ready.1 hi
    have hlt : i < listed.size := by rw [hsz]; exact (Array.getElem?_eq_some_iff.1 ho).1
    have hfalse : listed[i] = false := by simpa [hlt] using h0
    refine ⟨by simp [hlt, hfalse], ?_⟩
    have hs := hstep (fun j => listed.getD j false) a w i o ho hI (by simp [hlt, hfalse]) (fun j hj => by
      obtain ⟨e, he, hb, rfl⟩ := mem_deps.1 hj
      exact hd e he hb)
    have e : (fun j => (listed.setIfInBounds i true).getD j false) = (fun j => j == i || listed.getD j false) := by
      funext j
      by_cases hj : j = i
      · subst hj; simp [hlt]
      · have hj' : ¬ i = j := fun e => hj e.symm
        simp [hj, hj']
    rw [e]; exact hs
  intro fuel
  induction fuel with
  | zero =>
    intro listed a w hsz hc hI
    have hr : Region.ready .any ops listed = [] := by
      cases hR : Region.ready .any ops listed with
      | nil => rfl
      | cons i rs =>
        exfalso
        have h1 := (step listed a w i hsz hI (by rw [hR]; simp)).1
        have := count_set_false _ _ h1
        omega
    exact ⟨hr, noready listed a w hsz hI hr⟩
  | succ fuel ih =>
    intro listed a w hsz hc hI
    refine ⟨fun hr => noready listed a w hsz hI hr, fun i hi => ?_⟩
    obtain ⟨h1, h2⟩ := step listed a w i hsz hI hi
    refine wpOp_mono (fun a' w' h => ih _ a' w' (by simpa using hsz) ?_ h) h2
    have := count_set_false _ _ h1
    simp only [Array.toList_setIfInBounds]
    omega

/-- a region that draws its order, by what holds when the operations L are done -/
theorem wp_region_inv {P : Program} {id : Nat} {Q : Exit → Act → World → Prop} {a : Act} {w : World} {ops : Array Oper} (hm : P.follows .mixedOrders = true)
    (I : Act → (Nat → Bool) → Act → World → Prop) (h0 : I a (fun _ => false) a w.drew)
    (hstep : ∀ L a' w' i o, ops[i]? = some o → I a L a' w' → L i = false → (∀ j ∈ depsOf o, L j = true) → wpOp P ops Q i (fun a'' w'' => I a (fun j => j == i || L j) a'' w'') a' w')
    (hend : ∀ L a' w', I a L a' w' → (∀ i o, ops[i]? = some o → (∀ j ∈ depsOf o, L j = true) → L i = true) → Q .normal a' w') : (Code.region id ops true).wp P Q a w := by
  refine wp_region_any hm (wpAny_inv (I a) hstep hend ops.size _ a _ (by simp) (by simp) ?_)
  have e : (fun j => (Array.replicate ops.size false).getD j false) = (fun _ => false) := by
    funext j; simp only [Array.getD_eq_getD_getElem?, Array.getElem?_replicate]; split <;> rfl
  rw [e]; exact h0
end Go.Proofs.YtaihpgjimhifcaaDoor

namespace Go.Proofs.YtaihpgjimhifcaaDoor
open Go.RowKit

abbrev ptr (b : Nat) : Value := .pointer (some ⟨b, 0, none⟩)
def sl (a : Act) (k : Nat) : Value := a.tmps.getD k undef
theorem sl_same {a : Act} {k : Nat} (v : Value) (hk : k < a.tmps.size) : sl (a.put (some k) v) k = v := by
  unfold sl Act.put; simp [hk]
theorem sl_other {a : Act} {j k : Nat} (v : Value) (h : j ≠ k) : sl (a.put (some k) v) j = sl a j := by
  unfold sl Act.put
  have h' : ¬ k = j := fun e => h e.symm
  simp only [Array.getD_eq_getD_getElem?, Array.getElem?_setIfInBounds, h', if_false]
theorem put_size (a : Act) (k : Nat) (v : Value) : (a.put (some k) v).tmps.size = a.tmps.size := by unfold Act.put; simp
theorem put_get {a : Act} {j k : Nat} (v : Value) (h : j ≠ k) : (a.put (some k) v).tmps[j]? = a.tmps[j]? := by
  unfold Act.put
  have h' : ¬ k = j := fun e => h e.symm
  simp only [Array.getElem?_setIfInBounds, h', if_false]

/-- an operation that yields a value that is known: its number, its slot, the value -/
structure ValS where
  i : Nat
  k : Nat
  v : Value
/-- a new variable: the numbers of its making and of the store, its slot, its type, what it holds ahead of the store and behind it -/
structure OwnS where
  i : Nat
  j : Nat
  k : Nat
  t : TypeId
  z : Array Value
  c : Array Value
def Own (w2 w : World) (u : Value) (t : TypeId) (c : Array Value) : Prop := ∃ b, w2.heap.size ≤ b ∧ u = ptr b ∧ w.heap[b]? = some (.cells c t (0, 0))
theorem Own.grown {w2 w w' : World} {u : Value} {t : TypeId} {c : Array Value} (h : Own w2 w u t c) (g : w.grownBy w' none) : Own w2 w' u t c := by
  obtain ⟨b, h1, h2, h3⟩ := h; exact ⟨b, h1, h2, heap_grown g h3⟩
theorem own_new (w2 w : World) (t : TypeId) (z : Array Value) (g : w2.grownBy w none) : Own w2 (w.alloc (.cells z t)) (ptr w.heap.size) t z :=
  ⟨w.heap.size, g.size, rfl, heap_alloc_new w _⟩
theorem block_lt {w : World} {b : Nat} {o : Obj} (h : w.heap[b]? = some o) : b < w.heap.size := (Array.getElem?_eq_some_iff.1 h).1
theorem own_ne {w2 w : World} {u : Value} {t : TypeId} {c : Array Value} (h : Own w2 w u t c) : u ≠ ptr w.heap.size := by
  obtain ⟨b, -, rfl, h⟩ := h; intro e; cases e; exact absurd (block_lt h) (by omega)
theorem grown_row {w2 w : World} {b : Nat} (g : w2.grownBy w none) (hb : w2.heap.size ≤ b) (cs : Array Value) : w2.grownBy (w.setRow b cs) none :=
  ⟨g.os, g.tape, g.output, by simpa using g.size, fun k hk h => (setRow_other w b k cs (by omega)).trans (g.block k hk h)⟩

structure MR (vs : List ValS) (os : List OwnS) (w2 : World) (a0 : Act) (L : Nat → Bool) (a : Act) (w : World) : Prop where
  d : a.defers = a0.defers
  z : a.tmps.size = a0.tmps.size
  o : ∀ k, k ∉ vs.map ValS.k ++ os.map OwnS.k → a.tmps[k]? = a0.tmps[k]?
  g : w2.grownBy w none
  E : ∀ p ∈ vs, L p.i = true → sl a p.k = p.v
  A : ∀ p ∈ os, L p.i = true → Own w2 w (sl a p.k) p.t (if L p.j then p.c else p.z)
  N : ∀ p ∈ os, ∀ q ∈ os, p.k ≠ q.k → L p.i = true → L q.i = true → sl a p.k ≠ sl a q.k
  S : ∀ p ∈ os, L p.j = true → L p.i = true

/-- no two of one number, no two of one slot -/
structure Neat (vs : List ValS) (os : List OwnS) : Prop where
  vv : ∀ p ∈ vs, ∀ q ∈ vs, (p.i = q.i ↔ p.k = q.k) ∧ (p.k = q.k → p = q)
  vo : ∀ p ∈ vs, ∀ q ∈ os, p.i ≠ q.i ∧ p.i ≠ q.j ∧ p.k ≠ q.k
  oo : ∀ p ∈ os, ∀ q ∈ os, (p.i = q.i ↔ p.k = q.k) ∧ (p.j = q.j ↔ p.k = q.k) ∧ (p.k = q.k → p = q) ∧ p.i ≠ q.j

section
variable {vs : List ValS} {os : List OwnS} {w2 : World} {a0 : Act} {L : Nat → Bool} {a : Act} {w : World}

theorem MR.start (w : World) (a0 : Act) : MR vs os w a0 (fun _ => false) a0 w.drew :=
  ⟨rfl, rfl, fun _ _ => rfl, grown_drew (World.grownBy.refl w none), fun _ _ h => (by cases h), fun _ _ h => (by cases h), fun _ _ _ _ _ h => (by cases h), fun _ _ h => h⟩

theorem MR.slot (h : MR vs os w2 a0 L a w) {k : Nat} {v : Value} (hk : k ∉ vs.map ValS.k ++ os.map OwnS.k) (h0 : a0.tmps[k]? = some v) : sl a k = v := by
  unfold sl; rw [Array.getD_eq_getD_getElem?, h.o k hk, h0]; rfl

theorem MR.val (h : MR vs os w2 a0 L a w) (hN : Neat vs os) {p : ValS} (hp : p ∈ vs) (hk : p.k < a0.tmps.size) {w' : World} (g : w.grownBy w' none) : MR vs os w2 a0 (fun j => j == p.i || L j) (a.put (some p.k) p.v) w' := by
  have hk' : p.k < a.tmps.size := by rw [h.z]; exact hk
  have other : ∀ q ∈ os, sl (a.put (some p.k) p.v) q.k = sl a q.k := fun q hq => sl_other _ (fun e => (hN.vo p hp q hq).2.2 e.symm)
  have li : ∀ q ∈ os, ((q.i == p.i || L q.i) = L q.i) ∧ ((q.j == p.i || L q.j) = L q.j) := fun q hq => by
    have h1 : q.i ≠ p.i := fun e => (hN.vo p hp q hq).1 e.symm
    have h2 : q.j ≠ p.i := fun e => (hN.vo p hp q hq).2.1 e.symm
    simp [h1, h2]
  refine ⟨h.d, (put_size _ _ _).trans h.z, fun k hk0 => ?_, h.g.trans g, fun q hq hL => ?_, fun q hq hL => ?_, fun q hq r hr hne hq1 hr1 => ?_, fun q hq hj => ?_⟩
  · rw [put_get]; exact h.o k hk0
    rintro rfl; exact hk0 (List.mem_append_left _ (List.mem_map_of_mem hp))
  · by_cases e : q.k = p.k
    · obtain rfl := ((hN.vv q hq p hp).2 e)
      exact sl_same _ hk'
    · have e' : q.i ≠ p.i := fun e2 => e (((hN.vv q hq p hp).1).1 e2)
      rw [sl_other _ e]
      exact h.E q hq (by simpa [e'] using hL)
  · rw [other q hq]
    simp only [(li q hq).1, (li q hq).2] at hL ⊢
    exact (h.A q hq hL).grown g
  · rw [other q hq, other r hr]
    simp only [(li q hq).1] at hq1
    simp only [(li r hr).1] at hr1
    exact h.N q hq r hr hne hq1 hr1
  · simp only [(li q hq).1, (li q hq).2] at hj ⊢
    exact h.S q hq hj

theorem MR.make (h : MR vs os w2 a0 L a w) (hN : Neat vs os) {p : OwnS} (hp : p ∈ os) (hk : p.k < a0.tmps.size) (hL : L p.i = false) : MR vs os w2 a0 (fun j => j == p.i || L j) (a.put (some p.k) (ptr w.heap.size)) (w.alloc (.cells p.z p.t)) := by
  have hk' : p.k < a.tmps.size := by rw [h.z]; exact hk
  have hj : L p.j = false := by
    cases e : L p.j with
    | false => rfl
    | true => rw [h.S p hp e] at hL; cases hL
  have lj : ∀ q ∈ os, ((q.j == p.i || L q.j) = L q.j) := fun q hq => by
    have h2 : q.j ≠ p.i := fun e => (hN.oo p hp q hq).2.2.2 e.symm
    simp [h2]
  have li : ∀ q ∈ os, q.k ≠ p.k → ((q.i == p.i || L q.i) = L q.i) := fun q hq hne => by
    have h2 : q.i ≠ p.i := fun e => hne (((hN.oo q hq p hp).1).1 e)
    simp [h2]
  have galloc := World.grownBy_alloc w (.cells p.z p.t) none
  refine ⟨h.d, (put_size _ _ _).trans h.z, fun k hk0 => ?_, h.g.trans galloc, fun q hq hL1 => ?_, fun q hq hL1 => ?_, fun q hq r hr hne hq1 hr1 => ?_, fun q hq hj1 => ?_⟩
  · rw [put_get]; exact h.o k hk0
    rintro rfl; exact hk0 (List.mem_append_right _ (List.mem_map_of_mem hp))
  · have e := (hN.vo q hq p hp)
    rw [sl_other _ e.2.2]
    exact h.E q hq (by simpa [e.1] using hL1)
  · simp only [lj q hq]
    by_cases e : q.k = p.k
    · obtain rfl := ((hN.oo q hq p hp).2.2.1 e)
      rw [sl_same _ hk', hj]
      exact own_new w2 w q.t q.z h.g
    · rw [sl_other _ e]
      simp only [li q hq e] at hL1
      exact (h.A q hq hL1).grown galloc
  · by_cases e : q.k = p.k
    · have e2 : r.k ≠ p.k := fun e3 => hne (e.trans e3.symm)
      rw [e, sl_same _ hk', sl_other _ e2]
      simp only [li r hr e2] at hr1
      exact fun e4 => own_ne (h.A r hr hr1) e4.symm
    · rw [sl_other _ e]
      simp only [li q hq e] at hq1
      by_cases e2 : r.k = p.k
      · rw [e2, sl_same _ hk']
        exact own_ne (h.A q hq hq1)
      · rw [sl_other _ e2]
        simp only [li r hr e2] at hr1
        exact h.N q hq r hr hne hq1 hr1
  · simp only [lj q hq] at hj1
    have := h.S q hq hj1
    simp [this]

theorem MR.put (h : MR vs os w2 a0 L a w) (hN : Neat vs os) {p : OwnS} (hp : p ∈ os) (hi : L p.i = true) {b : Nat} (hb : sl a p.k = ptr b) : MR vs os w2 a0 (fun j => j == p.j || L j) a (w.setRow b p.c) := by
  have li : ∀ q ∈ os, ((q.i == p.j || L q.i) = L q.i) := fun q hq => by
    have h2 : q.i ≠ p.j := (hN.oo q hq p hp).2.2.2
    simp [h2]
  have lj : ∀ q ∈ os, q.k ≠ p.k → ((q.j == p.j || L q.j) = L q.j) := fun q hq hne => by
    have h2 : q.j ≠ p.j := fun e => hne (((hN.oo q hq p hp).2.1).1 e)
    simp [h2]
  obtain ⟨b', hb1, hb2, hb3⟩ := h.A p hp hi
  rw [hb] at hb2; cases hb2
  refine ⟨h.d, h.z, h.o, grown_row h.g hb1 _, fun q hq hL1 => ?_, fun q hq hL1 => ?_, fun q hq r hr hne hq1 hr1 => ?_, fun q hq hj1 => ?_⟩
  · exact h.E q hq (by simpa [(hN.vo q hq p hp).2.1] using hL1)
  · simp only [li q hq] at hL1
    by_cases e : q.k = p.k
    · obtain rfl := ((hN.oo q hq p hp).2.2.1 e)
      simp only [beq_self_eq_true, Bool.true_or, if_true]
      exact ⟨b, hb1, hb, setRow_heap w b _ _ _ _ hb3⟩
    · simp only [lj q hq e]
      obtain ⟨c, c1, c2, c3⟩ := h.A q hq hL1
      have hne : c ≠ b := fun e2 => h.N q hq p hp e hL1 hi (by rw [c2, hb, e2])
      exact ⟨c, c1, c2, (setRow_other w b c _ hne).trans c3⟩
  · simp only [li q hq] at hq1
    simp only [li r hr] at hr1
    exact h.N q hq r hr hne hq1 hr1
  · simp only [li q hq]
    by_cases e : q.k = p.k
    · obtain rfl := ((hN.oo q hq p hp).2.2.1 e); exact hi
    · simp only [lj q hq e] at hj1; exact h.S q hq hj1
end

/-- slots that are given values, one behind the other -/
def putL (a0 : Act) (l : List (Nat × Value)) : Act := { a0 with tmps := l.foldl (fun t p => t.setIfInBounds p.1 p.2) a0.tmps }
theorem putL_get : ∀ (l : List (Nat × Value)) (t : Array Value) (f : Nat → Value), (∀ p ∈ l, p.2 = f p.1) → ∀ k, (l.foldl (fun t p => t.setIfInBounds p.1 p.2) t)[k]? = if k ∈ l.map Prod.fst ∧ k < t.size then some (f k) else t[k]?
  | [], t, f, _, k => by simp
  | p :: l, t, f, h, k => by
    rw [List.foldl_cons, putL_get l _ f (fun q hq => h q (List.mem_cons_of_mem _ hq)) k, h p List.mem_cons_self]
    simp only [Array.size_setIfInBounds, List.map_cons, List.mem_cons, Array.getElem?_setIfInBounds]
    by_cases h1 : k ∈ l.map Prod.fst
    · by_cases h2 : k < t.size
      · simp [h1, h2]
      · by_cases h3 : k = p.1
        · subst h3; simp [h2]
        · have h4 : ¬ p.1 = k := fun e => h3 e.symm
          simp [h2, h4]
    · by_cases h3 : k = p.1
      · subst h3
        by_cases h2 : p.1 < t.size
        · simp [h1, h2]
        · simp [h1, h2]
      · have h4 : ¬ p.1 = k := fun e => h3 e.symm
        simp [h1, h3, h4]
theorem MR.end {vs : List ValS} {os : List OwnS} {w2 : World} {a0 : Act} {L : Nat → Bool} {a : Act} {w : World} (h : MR vs os w2 a0 L a w) (hk : ∀ k ∈ vs.map ValS.k ++ os.map OwnS.k, k < a0.tmps.size) (hE : ∀ p ∈ vs, L p.i = true) :
    a = putL a0 (vs.map (fun p => (p.k, p.v)) ++ os.map (fun p => (p.k, sl a p.k))) := by
  obtain ⟨ta, da⟩ := a
  obtain ⟨t0, d0⟩ := a0
  have hd := h.d
  simp only at hd
  subst hd
  unfold putL
  congr 1
  apply Array.ext_getElem?
  intro k
  have hf : ∀ p ∈ vs.map (fun p => (p.k, p.v)) ++ os.map (fun p => (p.k, sl ⟨ta, da⟩ p.k)), p.2 = sl ⟨ta, da⟩ p.1 := by
    intro p hp
    rcases List.mem_append.1 hp with hp | hp
    · obtain ⟨q, hq, rfl⟩ := List.mem_map.1 hp
      exact (h.E q hq (hE q hq)).symm
    · obtain ⟨q, hq, rfl⟩ := List.mem_map.1 hp
      rfl
  rw [putL_get _ _ _ hf k]
  have hm : (vs.map (fun p => (p.k, p.v)) ++ os.map (fun p => (p.k, sl ⟨ta, da⟩ p.k))).map Prod.fst = vs.map ValS.k ++ os.map OwnS.k := by
    rw [List.map_append, List.map_map, List.map_map]; rfl
  rw [hm]
  by_cases h1 : k ∈ vs.map ValS.k ++ os.map OwnS.k
  · have h2 := hk k h1
    have h3 : k < ta.size := by have := h.z; simp only at this h2; omega
    rw [if_pos ⟨h1, h2⟩]
    unfold sl
    simp [h3]
  · rw [if_neg (fun e => h1 e.1)]
    exact h.o k h1

/-! one operation -/
theorem wpOp_of {P : Program} {ops : Array Oper} {Q : Exit → Act → World → Prop} {i : Nat} {o : Oper} {K : Act → World → Prop} {a : Act} {w : World} (ho : ops[i]? = some o) (hg : o.guard = none) (h : o.wp P a w K Q) : wpOp P ops Q i K a w := by
  unfold wpOp
  rw [ho]
  have hw : Region.wanted o (yielded ops a.tmps) = true := by unfold Region.wanted; rw [hg]
  simp only [hw, if_true]
  exact .inl h
theorem wp_made {P : Program} {o : Oper} {a : Act} {w : World} {K : Act → World → Prop} {Q : Exit → Act → World → Prop} {v : Value} {w' : World} (hrun : (execOp a.eval o).run P w = .ok (.value v) w') (h : K (a.put o.dst v) w') : o.wp P a w K Q := by
  unfold Oper.wp
  rw [hrun, Oper.upon_value]
  exact h
theorem wp_called {P : Program} {o : Oper} {a : Act} {w : World} {K : Act → World → Prop} {Q : Exit → Act → World → Prop} {f : FuncId} {args : Array Value} {v : Value} {R : World → Prop} (hrun : (execOp a.eval o).run P w = .ok (.enter f args) w)
    (hc : Calls P f args w fun e w' => e = .returned v ∧ R w') (h : ∀ w', R w' → K (a.put o.dst v) w') : o.wp P a w K Q := by
  unfold Oper.wp
  rw [hrun, Oper.upon_enter]
  exact hc.mono fun e w' ⟨he, hr⟩ => by subst he; exact h w' hr

/-- every operation waits for earlier ones alone -/
def lexOnly (ops : Array Oper) : Bool := (List.range ops.size).all fun i => match ops[i]? with | some o => (depsOf o).all (fun j => decide (j < i)) | none => true
theorem all_done {ops : Array Oper} {L : Nat → Bool} (hB : lexOnly ops = true) (h : ∀ i o, ops[i]? = some o → (∀ j ∈ depsOf o, L j = true) → L i = true) : ∀ n i, i < n → i < ops.size → L i = true := by
  intro n
  induction n with
  | zero => intro i hi; omega
  | succ n ih =>
    intro i hi hs
    have ho : ops[i]? = some ops[i] := Array.getElem?_eq_getElem hs
    refine h i _ ho fun j hj => ?_
    have hb := List.all_eq_true.1 hB i (by simpa using hs)
    rw [ho] at hb
    have hlt : j < i := by have := List.all_eq_true.1 hb j hj; simpa using this
    exact ih j (by omega) (by omega)
theorem wp_region_own {P : Program} {id : Nat} {Q : Exit → Act → World → Prop} {a : Act} {w : World} {ops : Array Oper} (hm : P.follows .mixedOrders = true) (hB : lexOnly ops = true)
    (vs : List ValS) (os : List OwnS) (hv : ∀ p ∈ vs, p.i < ops.size) (ho : ∀ p ∈ os, p.i < ops.size ∧ p.j < ops.size) (hk : ∀ k ∈ vs.map ValS.k ++ os.map OwnS.k, k < a.tmps.size)
    (hstep : ∀ L a' w' i o, ops[i]? = some o → MR vs os w a L a' w' → L i = false → (∀ j ∈ depsOf o, L j = true) → wpOp P ops Q i (fun a'' w'' => MR vs os w a (fun j => j == i || L j) a'' w'') a' w')
    (hend : ∀ (u : Nat → Value) (w' : World), w.grownBy w' none → (∀ p ∈ os, Own w w' (u p.k) p.t p.c) → Q .normal (putL a (vs.map (fun p => (p.k, p.v)) ++ os.map (fun p => (p.k, u p.k)))) w') : (Code.region id ops true).wp P Q a w := by
  refine wp_region_inv hm (fun a0 L a' w' => MR vs os w a0 L a' w') (MR.start w a) hstep fun L a' w' h hall => ?_
  have done := all_done hB hall ops.size
  have hE : ∀ p ∈ vs, L p.i = true := fun p hp => done p.i (hv p hp) (hv p hp)
  rw [h.end hk hE]
  refine hend (sl a') w' h.g fun p hp => ?_
  have h1 := h.A p hp (done p.i (ho p hp).1 (ho p hp).1)
  rw [done p.j (ho p hp).2 (ho p hp).2] at h1
  exact h1
end Go.Proofs.YtaihpgjimhifcaaDoor

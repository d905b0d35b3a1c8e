/- A region that draws its order, walked by what holds when some of its operations are done, whichever these are: for regions that make variables beside calls that make memory. -/
import Derived.RegionTactic
import Derived.KernelRfl
namespace Go.Proofs.Ytkemhpjgmnibpaa

theorem count_set_false : ∀ (l : List Bool) (i : Nat), l[i]? = some false → (l.set i true).count false + 1 = l.count false
  | [], _, h => by simp at h
  | b :: l, 0, h => by
    simp only [List.getElem?_cons_zero, Option.some.injEq] at h; subst h
    simp
  | b :: l, i + 1, h => by
    simp only [List.getElem?_cons_succ] at h
    have := count_set_false l i h
    simp only [List.set_cons_succ, List.count_cons]
    omega

/-- which operations must be done ahead of one -/
def depsOf (o : Oper) : List Nat := (o.after.toList.filter (Region.binds .any)).map (·.on)
theorem mem_deps {o : Oper} {j : Nat} : j ∈ depsOf o ↔ ∃ e ∈ o.after, Region.binds .any e = true ∧ e.on = j := by
  unfold depsOf
  simp only [List.mem_map, List.mem_filter, Array.mem_toList_iff]
  exact ⟨fun ⟨e, ⟨h1, h2⟩, h3⟩ => ⟨e, h1, h2, h3⟩, fun ⟨e, h1, h2, h3⟩ => ⟨e, ⟨h1, h2⟩, h3⟩⟩

theorem wpAny_inv {P : Program} {Q : Exit → Act → World → Prop} {ops : Array Oper} (I : (Nat → Bool) → Act → World → Prop)
    (hstep : ∀ L a w i o, ops[i]? = some o → I L a w → L i = false → (∀ j ∈ depsOf o, L j = true) → wpOp P ops Q i (fun a' w' => I (fun j => j == i || L j) a' w') a w)
    (hend : ∀ L a w, I L a w → (∀ i o, ops[i]? = some o → (∀ j ∈ depsOf o, L j = true) → L i = true) → Q .normal a w) :
    ∀ (fuel : Nat) (listed : Array Bool) (a : Act) (w : World), listed.size = ops.size → listed.toList.count false ≤ fuel → I (fun j => listed.getD j false) a w → wpAny P .any ops Q fuel listed a w := by
  have noready : ∀ (listed : Array Bool) (a : Act) (w : World), listed.size = ops.size → I (fun j => listed.getD j false) a w → Region.ready .any ops listed = [] → Q .normal a w := by
    intro listed a w hsz hI hr
    refine hend _ a w hI fun i o ho hd => ?_
    have hi : i < listed.size := by rw [hsz]; exact (Array.getElem?_eq_some_iff.1 ho).1
    cases hL : listed.getD i false with
    | true => rfl
    | false =>
      exfalso
      have hm : i ∈ Region.ready .any ops listed := mem_ready.2 ⟨by
        simp [hi] at hL ⊢; exact hL, o, ho, fun e he hb => hd e.on (mem_deps.2 ⟨e, he, hb, rfl⟩)⟩
      rw [hr] at hm; cases hm
  have step : ∀ (listed : Array Bool) (a : Act) (w : World) (i : Nat), listed.size = ops.size → I (fun j => listed.getD j false) a w → i ∈ Region.ready .any ops listed →
      listed.toList[i]? = some false ∧ wpOp P ops Q i (fun a' w' => I (fun j => (listed.setIfInBounds i true).getD j false) a' w') a w := by
    intro listed a w i hsz hI hi
    obtain ⟨h0, o, ho, hd⟩ := mem_ready.1 hi
    have hlt : i < listed.size := by rw [hsz]; exact (Array.getElem?_eq_some_iff.1 ho).1
    have hfalse : listed[i] = false := by simpa [hlt] using h0
    refine ⟨by simp [hlt, hfalse], ?_⟩
    have hs := hstep (fun j => listed.getD j false) a w i o ho hI (by simp [hlt, hfalse]) (fun j hj => by
      obtain ⟨e, he, hb, rfl⟩ := mem_deps.1 hj
      exact hd e he hb)
    have e : (fun j => (listed.setIfInBounds i true).getD j false) = (fun j => j == i || listed.getD j false) := by
      funext j
      by_cases hj : j = i
      · subst hj; simp [hlt]
      · have hj' : ¬ i = j := fun e => hj e.symm
        simp [hj, hj']
    rw [e]; exact hs
  intro fuel
  induction fuel with
  | zero =>
    intro listed a w hsz hc hI
    have hr : Region.ready .any ops listed = [] := by
      cases hR : Region.ready .any ops listed with
      | nil => rfl
      | cons i rs =>
        exfalso
        have h1 := (step listed a w i hsz hI (by rw [hR]; simp)).1
        have := count_set_false _ _ h1
        omega
    exact ⟨hr, noready listed a w hsz hI hr⟩
  | succ fuel ih =>
    intro listed a w hsz hc hI
    refine ⟨fun hr => noready listed a w hsz hI hr, fun i hi => ?_⟩
    obtain ⟨h1, h2⟩ := step listed a w i hsz hI hi
    refine wpOp_mono (fun a' w' h => ih _ a' w' (by simpa using hsz) ?_ h) h2
    have := count_set_false _ _ h1
    simp only [Array.toList_setIfInBounds]
    omega

/-- a region that draws its order, by what holds when the operations L are done -/
theorem wp_region_inv {P : Program} {id : Nat} {Q : Exit → Act → World → Prop} {a : Act} {w : World} {ops : Array Oper} (hm : P.follows .mixedOrders = true)
    (I : Act → (Nat → Bool) → Act → World → Prop) (h0 : I a (fun _ => false) a w.drew)
    (hstep : ∀ L a' w' i o, ops[i]? = some o → I a L a' w' → L i = false → (∀ j ∈ depsOf o, L j = true) → wpOp P ops Q i (fun a'' w'' => I a (fun j => j == i || L j) a'' w'') a' w')
    (hend : ∀ L a' w', I a L a' w' → (∀ i o, ops[i]? = some o → (∀ j ∈ depsOf o, L j = true) → L i = true) → Q .normal a' w') : (Code.region id ops true).wp P Q a w := by
  refine wp_region_any hm (wpAny_inv (I a) hstep hend ops.size _ a _ (by simp) (by simp) ?_)
  have e : (fun j => (Array.replicate ops.size false).getD j false) = (fun _ => false) := by
    funext j; simp only [Array.getD_eq_getD_getElem?, Array.getElem?_replicate]; split <;> rfl
  rw [e]; exact h0
end Go.Proofs.Ytkemhpjgmnibpaa

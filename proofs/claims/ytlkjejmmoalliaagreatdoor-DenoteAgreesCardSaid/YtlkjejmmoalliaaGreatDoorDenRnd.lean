/- Steps in memory: closures, and what they do; what a call that makes steps leaves. The calls that make steps: once, a byte, a place. The step that goes through each of some nodes: the row of steps that grows, the call walked. The steps of a node that is gone through any number of times: what they are made of, the call walked. -/
import Derived.Test.YtlkjejmmoalliaaGreatDoorDenRun
import Derived.Test.YtlkjejmmoalliaaGreatDoorPgWr
import Derived.Laws.EntriesVeiled
import Derived.Laws.ResultCell
namespace Go.Proofs.YtlkjejmmoalliaaGreatDoor
open Go.RowKit

abbrev clo (f : Nat) (c : Array Value) : Value := .func (.func f) #[] c
abbrev ptrV (b : Nat) : Value := .pointer (some ⟨b, 0, none⟩)
/-- a step is a function with what it holds -/
def isFn (v : Value) : Prop := ∃ f c, v = clo f c
/-- a variable in a block that stays as it is -/
def Bx (w : World) (fz : Nat → Prop) (b : Nat) (v : Value) (t : TypeId) : Prop := fz b ∧ w.heap[b]? = some (.cells #[v] t (0, 0))
/-- a value as a row of steps. X: all steps, each with the variable of the place that it was at last -/
inductive ActV (w : World) (fz : Nat → Prop) (X : List (Value × Option Nat)) : Value → List Nat → Prop
  | prim {u : Nat} {v : Value} {o : Option Nat} (hv : isFn v) (h : X[u]? = some (v, o)) : ActV w fz X v [u]
  | any {bl g c : Nat} {cur : Array Value} {vs : List Value} {ls : List (List Nat)} (hl : Bx w fz bl (.slice (some ⟨g, 0, none⟩) vs.length c) 91) (hg : fz g) (hr : w.heap[g]? = some (.cells cur 94 (0, 0)))
      (hc : ∀ (k : Nat) (v : Value), vs[k]? = some v → cur[k]? = some v) (hn : vs.length ≤ 1000) (hs : ls.length = vs.length) (hv : ∀ (k : Nat) (v : Value) (l : List Nat), vs[k]? = some v → ls[k]? = some l → ActV w fz X v l) :
      ActV w fz X (clo 76 #[ptrV bl]) ls.flatten
  | pair {bb bi i : Nat} {b v : Value} {o : Option Nat} {B : List Nat} (h1 : Bx w fz bb b 94) (h2 : Bx w fz bi v 94) (hb : ActV w fz X b B) (hv : isFn v) (hi : X[i]? = some (v, o)) :
      ActV w fz X (clo 77 #[ptrV bb, ptrV bi]) (B ++ [i])
theorem ActV.fn {w : World} {fz : Nat → Prop} {X : List (Value × Option Nat)} {v : Value} {l : List Nat} (h : ActV w fz X v l) : isFn v := by
  cases h with
  | prim hv _ => exact hv
  | any => exact ⟨_, _, rfl⟩
  | pair => exact ⟨_, _, rfl⟩
theorem Bx.move {w w' : World} {fz fz' : Nat → Prop} {b : Nat} {v : Value} {t : TypeId} (h : Bx w fz b v t) (H : ∀ b, fz b → fz' b ∧ w'.heap[b]? = w.heap[b]?) : Bx w' fz' b v t := ⟨(H b h.1).1, (H b h.1).2.trans h.2⟩
theorem ActV.move {w w' : World} {fz fz' : Nat → Prop} {X : List (Value × Option Nat)} {v : Value} {l : List Nat} (h : ActV w fz X v l) (H : ∀ b, fz b → fz' b ∧ w'.heap[b]? = w.heap[b]?) : ActV w' fz' X v l := by
  induction h with
  | prim hv h => exact .prim hv h
  | any hl hg hr hc hn hs _ ih => exact .any (hl.move H) (H _ hg).1 ((H _ hg).2.trans hr) hc hn hs ih
  | pair h1 h2 _ hv hi ih => exact .pair (h1.move H) (h2.move H) ih hv hi
/-- a step as it lies -/
def PrimRep (w : World) (fz : Nat → Prop) (P : Nat) (X : List (Value × Option Nat)) (x : Value × Option Nat) : Pr → Prop
  | .add => True
  | .over c t => ∃ bw bs bb v, x = (clo 73 #[ptrV bw, ptrV bs, ptrV bb], none) ∧ Bx w fz bw (ptrV P) 90 ∧ (fz bs ∧ w.heap[bs]? = some (.cells (setC c) 25 (0, 0))) ∧ Bx w fz bb v 94 ∧ ActV w fz X v t
  | .only k t => ∃ bw bk bb v, x = (clo 78 #[ptrV bw, ptrV bk, ptrV bb], none) ∧ Bx w fz bw (ptrV P) 90 ∧ Bx w fz bk (.int .i64 k) 3 ∧ Bx w fz bb v 94 ∧ ActV w fz X v t
  | .once t => ∃ be bw bs v, x = (clo 88 #[ptrV be, ptrV bw, ptrV bs], some be) ∧ Bx w fz bw (ptrV P) 90 ∧ Bx w fz bs v 94 ∧ ActV w fz X v t
theorem PrimRep.move {w w' : World} {fz fz' : Nat → Prop} {P : Nat} {X : List (Value × Option Nat)} {x : Value × Option Nat} {p : Pr} (h : PrimRep w fz P X x p) (H : ∀ b, fz b → fz' b ∧ w'.heap[b]? = w.heap[b]?) : PrimRep w' fz' P X x p := by
  cases p with
  | add => trivial
  | over c t => obtain ⟨bw, bs, bb, v, e, h1, h2, h3, h4⟩ := h; exact ⟨bw, bs, bb, v, e, h1.move H, ⟨(H _ h2.1).1, (H _ h2.1).2.trans h2.2⟩, h3.move H, h4.move H⟩
  | only k t => obtain ⟨bw, bk, bb, v, e, h1, h2, h3, h4⟩ := h; exact ⟨bw, bk, bb, v, e, h1.move H, h2.move H, h3.move H, h4.move H⟩
  | once t => obtain ⟨be, bw, bs, v, e, h1, h2, h3⟩ := h; exact ⟨be, bw, bs, v, e, h1.move H, h2.move H, h3.move H⟩
/-- the steps xs are all steps' from the number m on -/
def AtX (X : List (Value × Option Nat)) (m : Nat) (xs : List (Value × Option Nat)) : Prop := ∀ i x, xs[i]? = some x → X[m + i]? = some x
theorem AtX.left {X : List (Value × Option Nat)} {m : Nat} {L R : List (Value × Option Nat)} (h : AtX X m (L ++ R)) : AtX X m L := fun i p hi => h i p (by
  rw [List.getElem?_append_left (List.getElem?_eq_some_iff.1 hi).1]; exact hi)
theorem AtX.right {X : List (Value × Option Nat)} {m k : Nat} {L R : List (Value × Option Nat)} (h : AtX X m (L ++ R)) (hk : m + L.length = k) : AtX X k R := fun i p hi => by
  have := h (L.length + i) p (by rw [List.getElem?_append_right (by omega)]; simpa using hi)
  rw [← hk, Nat.add_assoc]; exact this
theorem AtX.head {X : List (Value × Option Nat)} {m : Nat} {x : Value × Option Nat} {L : List (Value × Option Nat)} (h : AtX X m (x :: L)) : X[m]? = some x := h 0 x rfl
theorem AtX.tail {X : List (Value × Option Nat)} {m : Nat} {x : Value × Option Nat} {L : List (Value × Option Nat)} (h : AtX X m (x :: L)) : AtX X (m + 1) L := AtX.right (L := [x]) h rfl
/-- the blocks from lo on till a world -/
def Iv (lo : Nat) (w' : World) (k : Nat) : Prop := lo ≤ k ∧ k < w'.heap.size
/-- a block of cells -/
def isC (w : World) (k : Nat) : Prop := ∃ c t f, w.heap[k]? = some (.cells c t f)
theorem isC.of {w w' : World} {k : Nat} (h : isC w k) (e : w'.heap[k]? = w.heap[k]?) : isC w' k := by obtain ⟨c, t, f, h⟩ := h; exact ⟨c, t, f, e.trans h⟩
/-- another world in which all of D that are no places' variables lie as they were made -/
def Agr (D : Nat → Prop) (w' : World) (xs : List (Value × Option Nat)) (W : World) (fz : Nat → Prop) : Prop := ∀ k, D k → isC w' k → (∀ x ∈ xs, x.2 ≠ some k) → fz k ∧ W.heap[k]? = w'.heap[k]?
/-- steps that a call made in the blocks D, with bv behind them: xs, that are pr; R: what it answers is so -/
structure Made (D : Nat → Prop) (w' : World) (P cnt : Nat) (bv : Value) (xs : List (Value × Option Nat)) (R : World → (Nat → Prop) → List (Value × Option Nat) → List Nat → Nat → Prop) (pr : List Nat → Nat → List Pr) : Prop where
  len : xs.length = cnt
  plen : ∀ b m, (pr b m).length = cnt
  hD : ∀ k, D k → k < w'.heap.size
  rng : ∀ x ∈ xs, ∀ b, x.2 = some b → D b ∧ w'.heap[b]? = some (.cells #[.int .i64 (-1)] 3 (0, 0))
  nd : (xs.filterMap (·.2)).Nodup
  rep : ∀ (W : World) (fz : Nat → Prop) (X : List (Value × Option Nat)) (b : List Nat) (m : Nat), Agr D w' xs W fz → AtX X m xs → ActV W fz X bv b →
    R W fz X b m ∧ ∀ (i : Nat) (p : Pr) (x : Value × Option Nat), (pr b m)[i]? = some p → xs[i]? = some x → PrimRep W fz P X x p
section
variable {D D' D1 D2 : Nat → Prop} {w' w1 w2 : World} {P cnt cnt' c1 c2 : Nat} {bv bv2 : Value} {xs xs1 xs2 : List (Value × Option Nat)} {R R' R1 R2 : World → (Nat → Prop) → List (Value × Option Nat) → List Nat → Nat → Prop} {pr pr' pr1 pr2 : List Nat → Nat → List Pr}
/-- nothing made -/
theorem Made.nothing (w' : World) (P : Nat) (bv : Value) : Made (fun _ => False) w' P 0 bv [] (fun W fz X b _ => ActV W fz X bv b) (fun _ _ => []) :=
  ⟨rfl, fun _ _ => rfl, fun _ h => h.elim, by simp, by simp, fun W fz X b m _ _ h => ⟨h, by simp⟩⟩
/-- the same, said otherwise; more was made -/
theorem Made.same (h : Made D w1 P cnt bv xs R pr) (hc : cnt' = cnt) (hp : ∀ b m, pr' b m = pr b m) (hD : ∀ k, D k → D' k) (hs : ∀ k, D' k → k < w2.heap.size) (hk : ∀ k, D k → isC w1 k → w2.heap[k]? = w1.heap[k]?)
    (hR : ∀ W fz X b m, Agr D' w2 xs W fz → R W fz X b m → R' W fz X b m) : Made D' w2 P cnt' bv xs R' pr' := by
  have e : pr' = pr := funext fun b => funext fun m => hp b m
  subst e; subst hc
  refine ⟨h.len, h.plen, hs, fun x hx b hb => ?_, h.nd, fun W fz X b m hA hX hb => ?_⟩
  · have := h.rng x hx b hb
    exact ⟨hD b this.1, (hk b this.1 ⟨_, _, _, this.2⟩).trans this.2⟩
  · have := h.rep W fz X b m (fun k hk' hc hx => by
      have := hA k (hD k hk') (hc.of (hk k hk' hc)) hx
      exact ⟨this.1, this.2.trans (hk k hk' hc)⟩) hX hb
    exact ⟨hR W fz X b m hA this.1, this.2⟩
theorem Made.later (h : Made D w1 P cnt bv xs R pr) (hD : ∀ k, D k → D' k) (hs : ∀ k, D' k → k < w2.heap.size) (hk : ∀ k, D k → isC w1 k → w2.heap[k]? = w1.heap[k]?) : Made D' w2 P cnt bv xs R pr :=
  h.same rfl (fun _ _ => rfl) hD hs hk fun _ _ _ _ _ _ h => h
/-- some steps, and then others, with bv2 behind them -/
theorem Made.seq (A : Made D1 w1 P c1 bv xs1 R1 pr1) (B : Made D2 w2 P c2 bv2 xs2 R2 pr2) (hno : ∀ k, D1 k → ¬D2 k) (hs : ∀ k, D1 k → k < w2.heap.size) (hk : ∀ k, D1 k → isC w1 k → w2.heap[k]? = w1.heap[k]?)
    (lk : List Nat → Nat → List Nat) (hlk : ∀ W fz X b m, ActV W fz X bv b → R1 W fz X b m → ActV W fz X bv2 (lk b m)) :
    Made (fun k => D1 k ∨ D2 k) w2 P (c1 + c2) bv (xs1 ++ xs2) (fun W fz X b m => R1 W fz X b m ∧ R2 W fz X (lk b m) (m + c1)) (fun b m => pr1 b m ++ pr2 (lk b m) (m + c1)) := by
  refine ⟨by rw [List.length_append, A.len, B.len], fun b m => by rw [List.length_append, A.plen, B.plen], fun k h => h.elim (hs k) (B.hD k), ?_, ?_, ?_⟩
  · intro x hx b hb
    rcases List.mem_append.1 hx with hx | hx
    · have := A.rng x hx b hb
      exact ⟨.inl this.1, (hk b this.1 ⟨_, _, _, this.2⟩).trans this.2⟩
    · have := B.rng x hx b hb
      exact ⟨.inr this.1, this.2⟩
  · rw [List.filterMap_append, List.nodup_append]
    refine ⟨A.nd, B.nd, fun a ha b hb e => ?_⟩
    subst e
    obtain ⟨x, hx, hx2⟩ := List.mem_filterMap.1 ha
    obtain ⟨y, hy, hy2⟩ := List.mem_filterMap.1 hb
    exact hno a (A.rng x hx a hx2).1 (B.rng y hy a hy2).1
  · intro W fz X b m hA hX hb
    have h1 := A.rep W fz X b m (fun k hk' hc hx' => by
      have := hA k (.inl hk') (hc.of (hk k hk' hc)) fun x hx e => by
        rcases List.mem_append.1 hx with hx | hx
        · exact hx' x hx e
        · exact hno k hk' (B.rng x hx k e).1
      exact ⟨this.1, this.2.trans (hk k hk' hc)⟩) hX.left hb
    have h2 := B.rep W fz X (lk b m) (m + c1) (fun k hk' hc hx' => hA k (.inr hk') hc fun x hx e => by
        rcases List.mem_append.1 hx with hx | hx
        · exact hno k (A.rng x hx k e).1 hk'
        · exact hx' x hx e) (hX.right (by rw [A.len])) (hlk W fz X b m hb h1.1)
    refine ⟨⟨h1.1, h2.1⟩, fun i p x hp hx => ?_⟩
    rw [List.getElem?_append, A.plen] at hp
    rw [List.getElem?_append, A.len] at hx
    split at hp
    · rename_i hi
      rw [if_pos hi] at hx
      exact h1.2 i p x hp hx
    · rename_i hi
      rw [if_neg hi] at hx
      exact h2.2 _ p x hp hx
/-- one step -/
theorem Made.one (x : Value × Option Nat) (hD : ∀ k, D k → k < w'.heap.size) (hr : ∀ b, x.2 = some b → D b ∧ w'.heap[b]? = some (.cells #[.int .i64 (-1)] 3 (0, 0))) (hf : isFn x.1) (pr : List Nat → Pr)
    (hp : ∀ W fz X b, Agr D w' [x] W fz → ActV W fz X bv b → PrimRep W fz P X x (pr b)) : Made D w' P 1 bv [x] (fun W fz X _ m => ActV W fz X x.1 [m]) (fun b _ => [pr b]) := by
  refine ⟨rfl, fun _ _ => rfl, hD, fun y hy b hb => ?_, ?_, fun W fz X b m hA hX hb => ⟨.prim hf (o := x.2) hX.head, fun i p y hp' hy => ?_⟩⟩
  · simp at hy; subst hy; exact hr b hb
  · cases h : x.2 <;> simp [h]
  · cases i with
    | zero => simp at hp' hy; subst hp'; subst hy; exact hp W fz X b hA hb
    | succ i => simp at hp'
theorem cells_lt {w : World} {b : Nat} {o : Obj} (h : w.heap[b]? = some o) : b < w.heap.size := (Array.getElem?_eq_some_iff.1 h).1
theorem Agr.bx {W : World} {fz : Nat → Prop} (h : Agr D w' xs W fz) {b : Nat} {c : Array Value} {t : TypeId} {f : Nat × Nat} (hb : D b) (ho : w'.heap[b]? = some (.cells c t f)) (hx : ∀ x ∈ xs, x.2 ≠ some b) : fz b ∧ W.heap[b]? = some (.cells c t f) := by
  have := h b hb ⟨_, _, _, ho⟩ hx
  exact ⟨this.1, this.2.trans ho⟩
/-- a block of another type is no place's variable -/
theorem Made.ne (h : Made D w' P cnt bv xs R pr) {b : Nat} {cs : Array Value} {t : TypeId} (hb : w'.heap[b]? = some (.cells cs t (0, 0))) (ht : t ≠ 3) : ∀ x ∈ xs, x.2 ≠ some b := fun x hx e => by
  have := (h.rng x hx b e).2
  rw [hb] at this
  simp at this
  exact ht this.2
end
end Go.Proofs.YtlkjejmmoalliaaGreatDoor

namespace Go.Proofs.YtlkjejmmoalliaaGreatDoor
open Go.RowKit

/-- what a call of once's leaves -/
structure OnceAt (w w' : World) (P : Nat) (sv v : Value) (be : Nat) : Prop where
  g : w.grownBy w' none
  ex : ∃ bw bs, v = clo 88 #[ptrV be, ptrV bw, ptrV bs] ∧ w.heap.size ≤ bw ∧ w.heap.size ≤ bs ∧ w.heap.size ≤ be ∧ bw ≠ be ∧ bs ≠ be ∧ w'.heap[bw]? = some (.cells #[ptrV P] 90 (0, 0)) ∧
    w'.heap[bs]? = some (.cells #[sv] 94 (0, 0)) ∧ w'.heap[be]? = some (.cells #[.int .i64 (-1)] 3 (0, 0))
theorem OnceAt.fn {w w' : World} {P be : Nat} {sv v : Value} (h : OnceAt w w' P sv v be) : isFn v := by obtain ⟨bw, bs, e, _⟩ := h.ex; exact ⟨_, _, e⟩
set_option maxHeartbeats 1000000 in
theorem cOnce (P : Nat) (sv : Value) (hs : isFn sv) (w : World) : Calls Tryz.prog 75 #[ptrV P, sv] w fun e w' => ∃ v be, e = .returned v ∧ OnceAt w w' P sv v be := by
  obtain ⟨f, c, rfl⟩ := hs
  have h3 := heap3 w (.cells #[ptrV P] 90) (.cells #[clo f c] 94) (.cells #[.int .i64 (-1)] 3)
  have H3 := Lib.hid h3
  clear h3
  go_enter Tryz.func75, Tryz.ntmps75
  go_wp2
  go_ret
  obtain ⟨h1, h2, h3, g⟩ := H3.out
  exact ⟨_, _, rfl, g, _, _, rfl, by omega, by omega, by omega, by omega, by omega, h1, h2, h3⟩
/-- what a call of overByte's leaves -/
structure OverAt (w w' : World) (P : Nat) (c : BitVec 256) (sv v : Value) : Prop where
  g : w.grownBy w' none
  ex : ∃ bw bs bb, v = clo 73 #[ptrV bw, ptrV bs, ptrV bb] ∧ w.heap.size ≤ bw ∧ w.heap.size ≤ bs ∧ w.heap.size ≤ bb ∧ w'.heap[bw]? = some (.cells #[ptrV P] 90 (0, 0)) ∧
    w'.heap[bs]? = some (.cells (setC c) 25 (0, 0)) ∧ w'.heap[bb]? = some (.cells #[sv] 94 (0, 0))
set_option maxHeartbeats 1000000 in
theorem cOver (P : Nat) (c : BitVec 256) (sv : Value) (hs : isFn sv) (w : World) : Calls Tryz.prog 59 #[ptrV P, .agg #[.int .u64 (wd c 0), .int .u64 (wd c 1), .int .u64 (wd c 2), .int .u64 (wd c 3)], sv] w fun e w' => ∃ v, e = .returned v ∧ OverAt w w' P c sv v := by
  obtain ⟨f, k, rfl⟩ := hs
  have h3 := heap3 w (.cells #[ptrV P] 90) (.cells #[.int .u64 (wd c 0), .int .u64 (wd c 1), .int .u64 (wd c 2), .int .u64 (wd c 3)] 25) (.cells #[clo f k] 94)
  have H3 := Lib.hid h3
  clear h3
  go_enter Tryz.func59, Tryz.ntmps59
  go_wp2
  go_ret
  obtain ⟨h1, h2, h3, g⟩ := H3.out
  exact ⟨_, rfl, g, _, _, _, rfl, by omega, by omega, by omega, h1, h2, h3⟩
/-- what a call of onlyAt's leaves -/
structure OnlyAt (w w' : World) (P k : Nat) (sv v : Value) : Prop where
  g : w.grownBy w' none
  ex : ∃ bw bk bb, v = clo 78 #[ptrV bw, ptrV bk, ptrV bb] ∧ w.heap.size ≤ bw ∧ w.heap.size ≤ bk ∧ w.heap.size ≤ bb ∧ w'.heap[bw]? = some (.cells #[ptrV P] 90 (0, 0)) ∧
    w'.heap[bk]? = some (.cells #[.int .i64 k] 3 (0, 0)) ∧ w'.heap[bb]? = some (.cells #[sv] 94 (0, 0))
set_option maxHeartbeats 1000000 in
theorem cOnly (P k : Nat) (sv : Value) (hs : isFn sv) (w : World) : Calls Tryz.prog 63 #[ptrV P, .int .i64 k, sv] w fun e w' => ∃ v, e = .returned v ∧ OnlyAt w w' P k sv v := by
  obtain ⟨f, c, rfl⟩ := hs
  have h3 := heap3 w (.cells #[ptrV P] 90) (.cells #[.int .i64 k] 3) (.cells #[clo f c] 94)
  have H3 := Lib.hid h3
  clear h3
  go_enter Tryz.func63, Tryz.ntmps63
  go_wp2
  go_ret
  obtain ⟨h1, h2, h3, g⟩ := H3.out
  exact ⟨_, rfl, g, _, _, _, rfl, by omega, by omega, by omega, h1, h2, h3⟩

theorem OnceAt.made {w w' : World} {P be : Nat} {sv v : Value} (h : OnceAt w w' P sv v be) : Made (Iv w.heap.size w') w' P 1 sv [(v, some be)] (fun W fz X _ m => ActV W fz X v [m]) (fun b _ => [.once b]) := by
  obtain ⟨bw, bs, rfl, l1, l2, l3, n1, n2, h1, h2, h3⟩ := h.ex
  exact Made.one (clo _ _, some be) (fun _ h => h.2) (fun b e => by cases e; exact ⟨⟨l3, cells_lt h3⟩, h3⟩) ⟨_, _, rfl⟩ (fun b => .once b) fun W fz X b hA hb =>
    ⟨be, bw, bs, sv, rfl, hA.bx ⟨l1, cells_lt h1⟩ h1 (by simpa using n1.symm), hA.bx ⟨l2, cells_lt h2⟩ h2 (by simpa using n2.symm), hb⟩
theorem OverAt.made {w w' : World} {P : Nat} {c : BitVec 256} {sv v : Value} (h : OverAt w w' P c sv v) : Made (Iv w.heap.size w') w' P 1 sv [(v, none)] (fun W fz X _ m => ActV W fz X v [m]) (fun b _ => [.over c b]) := by
  obtain ⟨bw, bs, bb, rfl, l1, l2, l3, h1, h2, h3⟩ := h.ex
  exact Made.one (clo _ _, none) (fun _ h => h.2) (fun b e => by cases e) ⟨_, _, rfl⟩ (fun b => .over c b) fun W fz X b hA hb =>
    ⟨bw, bs, bb, sv, rfl, hA.bx ⟨l1, cells_lt h1⟩ h1 (by simp), hA.bx ⟨l2, cells_lt h2⟩ h2 (by simp), hA.bx ⟨l3, cells_lt h3⟩ h3 (by simp), hb⟩
theorem OnlyAt.made {w w' : World} {P k : Nat} {sv v : Value} (h : OnlyAt w w' P k sv v) : Made (Iv w.heap.size w') w' P 1 sv [(v, none)] (fun W fz X _ m => ActV W fz X v [m]) (fun b _ => [.only k b]) := by
  obtain ⟨bw, bs, bb, rfl, l1, l2, l3, h1, h2, h3⟩ := h.ex
  exact Made.one (clo _ _, none) (fun _ h => h.2) (fun b e => by cases e) ⟨_, _, rfl⟩ (fun b => .only k b) fun W fz X b hA hb =>
    ⟨bw, bs, bb, sv, rfl, hA.bx ⟨l1, cells_lt h1⟩ h1 (by simp), hA.bx ⟨l2, cells_lt h2⟩ h2 (by simp), hA.bx ⟨l3, cells_lt h3⟩ h3 (by simp), hb⟩
end Go.Proofs.YtlkjejmmoalliaaGreatDoor

namespace Go.Proofs.YtlkjejmmoalliaaGreatDoor
open Go.RowKit

/-- the walk's variable, and its text -/
def WT (P : Nat) (s : ByteArray) (w : World) : Prop := ∃ p vh vn, w.heap[P]? = some (.cells #[.string s, .int .i64 p, vh, vn] 93 (0, 0))
theorem WT.grown {P : Nat} {s : ByteArray} {w w' : World} (h : WT P s w) (g : w.grownBy w' none) : WT P s w' := by obtain ⟨p, vh, vn, h⟩ := h; exact ⟨p, vh, vn, heap_grown g h⟩
/-- the steps through a node, as a call made them -/
abbrev MadeN (e lo : Nat) (w' : World) (P : Nat) (n : Ni) (bv v : Value) (xs : List (Value × Option Nat)) : Prop :=
  Made (Iv lo w') w' P (cnN n) bv xs (fun W fz X b m => ActV W fz X v (thrN e n b m).1) (fun b m => (thrN e n b m).2)
/-- what a call of through's does -/
def NodeT (P : Nat) (s : ByteArray) (n : Ni) : Prop := ∀ (bv : Value) (a : Option Addr) (m c : Nat) (w : World), WT P s w → isFn bv → rgtN n = true → KidsE w (.slice a m c) n.kids →
  Calls Tryz.prog 42 #[ptrV P, niV n (.slice a m c), bv] w fun e w' => w.grownBy w' none ∧ ∃ v xs, e = .returned v ∧ isFn v ∧ MadeN s.size w.heap.size w' P n bv v xs
theorem thrA_snoc (e : Nat) : ∀ (l : List Ni) (n : Ni) (b : List Nat) (m : Nat), thrA e (l ++ [n]) b m =
    ((thrA e l b m).1 ++ (thrN e n b (m + (thrA e l b m).2.length)).1, (thrA e l b m).2 ++ (thrN e n b (m + (thrA e l b m).2.length)).2)
  | [], n, b, m => by rw [List.nil_append, thrA, thrA, thrA]; simp
  | k :: l, n, b, m => by
    rw [List.cons_append, thrA, thrA, thrA_snoc e l]
    simp [Nat.add_assoc]
theorem cnL_append (l r : List Ni) : cnL (l ++ r) = cnL l + cnL r := by
  induction l with
  | nil => simp [cnL]
  | cons n l ih => rw [List.cons_append, cnL, cnL, ih]; omega
/-- values that are steps through nodes, all with the step m behind them -/
def LsA (e : Nat) (L : List Ni) (vs : List Value) (W : World) (fz : Nat → Prop) (X : List (Value × Option Nat)) (m : Nat) : Prop :=
  ∃ ls : List (List Nat), ls.length = vs.length ∧ ls.flatten = (thrA e L [m] (m + 1)).1 ∧ ∀ (k : Nat) (v : Value) (l : List Nat), vs[k]? = some v → ls[k]? = some l → ActV W fz X v l
theorem LsA.snoc {e m : Nat} {L : List Ni} {vs : List Value} {W : World} {fz : Nat → Prop} {X : List (Value × Option Nat)} {n : Ni} {v : Value} (h : LsA e L vs W fz X m) (hv : ActV W fz X v (thrN e n [m] (m + (1 + cnL L))).1) : LsA e (L ++ [n]) (vs ++ [v]) W fz X m := by
  obtain ⟨ls, h1, h2, h3⟩ := h
  refine ⟨ls ++ [(thrN e n [m] (m + (1 + cnL L))).1], by simp [h1], ?_, ?_⟩
  · rw [thrA_snoc, thrA_len, List.flatten_append, h2]; simp [Nat.add_assoc]
  · intro k v' l hv' hl
    rw [List.getElem?_append] at hv' hl
    rw [h1] at hl
    split at hv'
    · rename_i hk
      rw [if_pos hk] at hl
      exact h3 k v' l hv' hl
    · rename_i hk
      rw [if_neg hk] at hl
      have e0 : k - vs.length = 0 := by
        rcases Nat.eq_zero_or_pos (k - vs.length) with h | h
        · exact h
        · rw [List.getElem?_eq_none (by simp; omega)] at hv'; cases hv'
      rw [e0] at hv' hl
      simp at hv' hl
      subst hv'; subst hl; exact hv
/-- while the row grows: q its variable, o the step behind all of them -/
structure AnyS (e : Nat) (w : World) (P q : Nat) (bv o : Value) (L : List Ni) (vs : List Value) (vl : Value) (wr : World) : Prop where
  G : w.grownBy wr none
  hq : w.heap.size ≤ q
  Q : wr.heap[q]? = some (.cells #[vl] 91 (0, 0))
  O : wr.ownsRow (q + 1) 94 1 vl vs.length vs
  M : ∃ D xs, (∀ k, D k → w.heap.size ≤ k ∧ k ≠ q ∧ vl.ownBlock ≠ some k) ∧ Made D wr P (1 + cnL L) bv xs (fun W fz X _ m => ActV W fz X o [m] ∧ LsA e L vs W fz X m) (fun b m => .once b :: (thrA e L [m] (m + 1)).2)
theorem AnyS.lt {e : Nat} {w : World} {P q : Nat} {bv o vl : Value} {L : List Ni} {vs : List Value} {wr : World} (h : AnyS e w P q bv o L vs vl wr) : q < wr.heap.size := cells_lt h.Q
theorem AnyS.start {e : Nat} {w w1 : World} {P be : Nat} {bv o : Value} (h : OnceAt w w1 P bv o be) : AnyS e w P w1.heap.size bv o [] [] (.slice none 0 0) (w1.alloc (.cells #[.slice none 0 0] 91)) := by
  have ga := World.grownBy_alloc w1 (.cells #[.slice none 0 0] 91) none
  refine ⟨h.g.trans ga, h.g.size, heap_alloc_new w1 _, World.ownsRow_nil _ _ _ _, Iv w.heap.size w1, [(o, some be)], fun k hk => ⟨hk.1, by have := hk.2; omega, by simp [Value.ownBlock]⟩, ?_⟩
  refine h.made.same (by simp [cnL]) (fun b m => by simp [thrA]) (fun _ h => h) (fun k h => by have := h.2; have := ga.size; omega) (fun k hk _ => ga.block k hk.2 (by simp)) fun W fz X b m _ h => ⟨h, [], rfl, by simp [thrA], by simp⟩
theorem AnyS.grown {e : Nat} {w : World} {P q : Nat} {bv o vl : Value} {L : List Ni} {vs : List Value} {wr w' : World} (h : AnyS e w P q bv o L vs vl wr) (g : wr.grownBy w' none) : AnyS e w P q bv o L vs vl w' := by
  obtain ⟨D, xs, hD, hM⟩ := h.M
  exact ⟨h.G.trans g, h.hq, heap_grown g h.Q, h.O.kept g (by cases vl.ownBlock <;> simp), D, xs, hD, hM.later (fun _ h => h) (fun k hk => Nat.lt_of_lt_of_le (hM.hD k hk) g.size) (fun k hk _ => g.block k (hM.hD k hk) (by simp))⟩
/-- one more -/
theorem AnyS.step {e : Nat} {w : World} {P q : Nat} {bv o vl : Value} {L : List Ni} {vs : List Value} {w4 w5 w6 w7 : World} (h : AnyS e w P q bv o L vs vl w4) {n : Ni} {v : Value} {xs' : List (Value × Option Nat)} (g5 : w4.grownBy w5 none) (hv : MadeN e w4.heap.size w5 P n o v xs')
    (g6 : w5.grownBy w6 none) {gg cap : Nat} (hown : w7.ownsRow (q + 1) 94 1 (.slice (some ⟨gg, 0, none⟩) (vs.length + 1) cap) (vs.length + 1) (vs ++ [v])) (g7 : w6.grownBy w7 vl.ownBlock) (hat : vl.ownBlock = some gg ∨ gg = w6.heap.size) :
    AnyS e w P q bv o (L ++ [n]) (vs ++ [v]) (.slice (some ⟨gg, 0, none⟩) (vs.length + 1) cap) (w7.setCell ⟨q, 0, none⟩ (.slice (some ⟨gg, 0, none⟩) (vs.length + 1) cap)) := by
  have h6 := (h.grown g5).grown g6
  obtain ⟨D, xs, hD, hM⟩ := h.M
  have hne : some q ≠ vl.ownBlock := fun e => by have := h.O.lt q e.symm; omega
  have Q7 := (g7.block q h6.lt hne).trans h6.Q
  have hw : ∀ k, vl.ownBlock = some k → w.heap.size ≤ k := fun k e => by have := h.O.lt k e; have := h.hq; omega
  have G7 := h6.G.andThen g7 (fun k e => .inl (hw k e))
  have gs := grown_cell w7 q 0 (.slice (some ⟨gg, 0, none⟩) (vs.length + 1) cap)
  have hgq : gg ≠ q := by
    rcases hat with e | e
    · intro e'; exact hne (by rw [e, e'])
    · have := h6.lt; omega
  refine ⟨G7.andThen gs (fun k e => .inl (by cases e; exact h.hq)), h.hq, heap_setCell_same w7 q 0 _ _ _ Q7, ?_, fun k => D k ∨ Iv w4.heap.size w5 k, xs ++ xs', ?_, ?_⟩
  · rw [List.length_append]
    exact hown.kept gs (.inr fun e => hgq (by simpa [Value.ownBlock] using e))
  · intro k hk
    have hk4 : k < w5.heap.size := hk.elim (fun hk => Nat.lt_of_lt_of_le (hM.hD k hk) g5.size) (fun hk => hk.2)
    have hn : vl.ownBlock ≠ some k := hk.elim (fun hk => (hD k hk).2.2) (fun hk e => by have := (h.O.lt k e).2; have := hk.1; omega)
    refine ⟨hk.elim (fun hk => (hD k hk).1) (fun hk => by have := hk.1; have := h.G.size; omega), hk.elim (fun hk => (hD k hk).2.1) (fun hk e => by have := h.lt; have := hk.1; omega), fun e => ?_⟩
    have e : gg = k := by simpa [Value.ownBlock] using e
    subst e
    rcases hat with e | e
    · exact hn e
    · have := g6.size; omega
  · have A5 := hM.later (w2 := w5) (fun _ h => h) (fun k hk => Nat.lt_of_lt_of_le (hM.hD k hk) g5.size) (fun k hk _ => g5.block k (hM.hD k hk) (by simp))
    have S := A5.seq hv (fun k hk hi => by have := hM.hD k hk; have := hi.1; omega) A5.hD (fun _ _ _ => rfl) (fun _ m => [m]) (fun W fz X b m _ h => h.1)
    have hkeep : ∀ k, D k ∨ Iv w4.heap.size w5 k → k < w5.heap.size ∧ vl.ownBlock ≠ some k ∧ k ≠ q := fun k hk => hk.elim
      (fun hk => ⟨A5.hD k hk, (hD k hk).2.2, (hD k hk).2.1⟩) (fun hk => ⟨hk.2, fun e => by have := (h.O.lt k e).2; have := hk.1; omega, by have := h.lt; have := hk.1; omega⟩)
    refine S.same (by rw [cnL_append, cnL, cnL]; omega) (fun b m => ?_) (fun _ h => h) (fun k hk => ?_) (fun k hk _ => ?_) (fun W fz X b m _ h => ⟨h.1.1, h.1.2.snoc h.2⟩)
    · rw [thrA_snoc, thrA_len]; simp [Nat.add_assoc]
    · have := (hkeep k hk).1; have := g6.size; have := g7.size; rw [World.size_setCell]; omega
    · obtain ⟨h1, h2, h3⟩ := hkeep k hk
      rw [heap_setCell_other w7 ⟨q, 0, none⟩ k _ h3]
      exact (g7.block k (Nat.lt_of_lt_of_le h1 g6.size) (fun e => h2 e.symm)).trans (g6.block k h1 (by simp))
/-- all of them -/
theorem AnyS.made {e : Nat} {w : World} {P q : Nat} {bv o vl : Value} {L : List Ni} {vs : List Value} {wr : World} (h : AnyS e w P q bv o L vs vl wr) (h0 : 0 < vs.length) (h1 : vs.length ≤ 1000) :
    ∃ xs, Made (Iv w.heap.size wr) wr P (1 + cnL L) bv xs (fun W fz X _ m => ActV W fz X (clo 76 #[ptrV q]) (thrA e L [m] (m + 1)).1) (fun b m => .once b :: (thrA e L [m] (m + 1)).2) := by
  obtain ⟨D, xs, hD, hM⟩ := h.M
  refine ⟨xs, hM.same rfl (fun _ _ => rfl) (fun k hk => ⟨(hD k hk).1, hM.hD k hk⟩) (fun _ h => h.2) (fun _ _ _ => rfl) fun W fz X b m hA hR => ?_⟩
  obtain ⟨-, ls, e1, e2, e3⟩ := hR
  rcases h.O.2 with ⟨-, e0⟩ | ⟨g, cap, cur, rfl, hg, hh, hn, -, hs, ht⟩
  · omega
  · have hx : ∀ {b cs t}, wr.heap[b]? = some (.cells cs t (0, 0)) → t ≠ 3 → ∀ x ∈ xs, x.2 ≠ some b := fun hb ht => hM.ne hb ht
    have q1 := hA.bx ⟨h.hq, h.lt⟩ h.Q (hx h.Q (by decide))
    have q2 := hA.bx ⟨by have := h.hq; omega, cells_lt hh⟩ hh (hx hh (by decide))
    rw [← e2]
    refine .any q1 q2.1 q2.2 (fun k v hv => ?_) h1 e1 e3
    rw [← ht] at hv
    have hk : k < (cur.toList.take (vs.length * 1)).length := (List.getElem?_eq_some_iff.1 hv).1
    rw [List.getElem?_take, if_pos (by rw [List.length_take] at hk; omega)] at hv
    simpa using hv

theorem infoStep : (Tryz.prog.info? 94).map (fun i => (i.zero, i.size, i.bytes)) = some (some .nilFunc, 1, 8) := by kernel_rfl
theorem new_step (w : World) (u : Value) (t : TypeId) (m : Nat) (hm : m = w.heap.size) : ∀ j x, [u][j]? = some x → (w.alloc (.cells #[u] t)).cell? ((⟨m, 0, none⟩ : Addr).add j) = some x := by
  subst hm
  exact World.news_of_block (cs := #[u]) (t := t) (fr := (0, 0)) (heap_alloc_new w _)
theorem step_one {v : Value} (h : isFn v) : ∀ u ∈ [v], u.oneCell' = true := by obtain ⟨f, c, rfl⟩ := h; intro u hu; simp at hu; subst hu; rfl

set_option maxRecDepth 100000 in
set_option maxHeartbeats 4000000 in
theorem cAny (P : Nat) (s : ByteArray) (l : List Ni) (hl : l ≠ []) (hl200 : l.length ≤ 200) (HT : ∀ n ∈ l, NodeT P s n) (hr : rgtL l = true) (bv : Value) (a : Option Addr) (m c : Nat) (w : World) (hW : WT P s w) (hb : isFn bv) (hK : KidsE w (.slice a m c) l) :
    Calls Tryz.prog 61 #[ptrV P, .slice a m c, bv] w fun e w' => w.grownBy w' none ∧ ∃ v xs, e = .returned v ∧ isFn v ∧
      Made (Iv w.heap.size w') w' P (1 + cnL l) bv xs (fun W fz X _ m => ActV W fz X v (thrA s.size l [m] (m + 1)).1) (fun b m => .once b :: (thrA s.size l [m] (m + 1)).2) := by
  obtain rfl := hK.len
  have HO := Lib.hid (cOnce P bv hb w)
  have HK := Lib.hid hK
  have HW := Lib.hid hW
  have HQ := Lib.hid HT
  have HR := Lib.hid hr
  have HL := Lib.hid hl
  obtain ⟨bf, bc, rfl⟩ := hb
  clear hK hW hr hl HT
  go_enter Tryz.func61, Tryz.ntmps61
  go_upto_region 2 with (go_at_call 75; (with_reducible refine (HO.out).mono ?_); rintro e w1 ⟨o, be, rfl, hO⟩; have S0 := Lib.hid (AnyS.start (e := s.size) hO); obtain ⟨of, oc, rfl⟩ := hO.fn; clear hO)
  obtain ⟨q, eq⟩ : ∃ q, q = w1.heap.size := ⟨_, rfl⟩
  go_upto_region 3 with fail
  rw [← eq] at S0 ⊢
  clear eq HO
  generalize w1.alloc _ = w2 at S0 ⊢
  obtain ⟨iu, hiu, hu0, hu1, hu2⟩ := info_parts infoStep
  have IU := Lib.hid hiu; have ZU0 := Lib.hid hu0; have ZU1 := Lib.hid hu1; have ZU2 := Lib.hid hu2
  clear hiu hu0 hu1 hu2
  go_wp2
  go_loopw [9, 15] (fun _ i wr => ∃ (vs : List Value) (vl : Value), vs.length ≤ l.length ∧ i = .int .i64 (vs.length : Nat) ∧ Hid (AnyS s.size w P q (clo bf bc) (clo of oc) (l.take vs.length) vs vl wr)) (fun _ i _ => l.length - (intOf i).toNat)
  case atStart => exact ⟨[], _, Nat.zero_le _, rfl, S0⟩
  case round =>
    obtain ⟨vs, vl, hj, rfl, hV⟩ := hrel
    clear S0
    obtain ⟨va, vc, rfl⟩ := owns_shape hV.out.O
    by_cases hlt : vs.length < l.length
    · obtain ⟨n', hn'⟩ : ∃ n', l[vs.length]? = some n' := ⟨_, List.getElem?_eq_getElem hlt⟩
      have HT' := Lib.hid (HQ.out n' (List.mem_of_getElem? hn'))
      have HR' := Lib.hid (rgtL_mem HR.out (List.mem_of_getElem? hn'))
      have HTK := Lib.hid (show l.take (vs.length + 1) = l.take vs.length ++ [n'] by rw [List.take_add_one, hn']; rfl)
      obtain ⟨b0, off, x0, y0, z0, rfl, hc, hk'⟩ := (HK.out.grown hV.out.G).at hn'
      have c0 : wr.cell? ⟨b0, off + vs.length * 7, none⟩ = some (.int .i64 n'.kind) := hc 0 _ rfl
      have c1 := hc 1 _ rfl
      have c2 := hc 2 _ rfl
      have c3 := hc 3 _ rfl
      have c4 := hc 4 _ rfl
      have c5 := hc 5 _ rfl
      have c6 := hc 6 _ rfl
      have ga := World.grownBy_alloc wr (.cells #[.int .i64 n'.kind, .int .i64 n'.index, .int .u64 (wd n'.set 0), .int .u64 (wd n'.set 1), .int .u64 (wd n'.set 2), .int .u64 (wd n'.set 3), .slice x0 y0 z0] 28) none
      have KB := Lib.hid (heap_alloc_new wr (.cells #[.int .i64 n'.kind, .int .i64 n'.index, .int .u64 (wd n'.set 0), .int .u64 (wd n'.set 1), .int .u64 (wd n'.set 2), .int .u64 (wd n'.set 3), .slice x0 y0 z0] 28))
      have K3 := Lib.hid (hk'.grown ga)
      have V2 := Lib.hid (hV.out.grown ga)
      have W2 := Lib.hid (HW.out.grown V2.out.G)
      have HVB := Lib.hid (show (Value.slice va vs.length vc).ownBlock ≠ some wr.heap.size from fun e => by have := (hV.out.O.lt _ e).2; omega)
      have HVQ := Lib.hid (show (Value.slice va vs.length vc).ownBlock ≠ some q from fun e => by have := (hV.out.O.lt _ e).1; omega)
      have hv200 : vs.length ≤ 200 := by omega
      clear hc hk' hn' ga hV
      go_upto_region 6 with fail
      clear c0 c1 c2 c3 c4 c5 c6
      generalize wr.alloc _ = w3 at KB K3 V2 W2 ⊢
      generalize wr.heap.size = kb at KB HVB ⊢
      have CI := Lib.hid (fun W (g : w3.grownBy W none) => HT'.out (clo of oc) x0 y0 z0 W (W2.out.grown g) ⟨_, _, rfl⟩ HR'.out (K3.out.grown g))
      obtain ⟨s1, s2, s3, s4, s5, s6, s7⟩ := seven_cells KB.out
      have s0 := one_cell V2.out.Q
      go_region_law (first
        | (refine step_callP (by rfl) 42 #[ptrV P, niV n' (.slice x0 y0 z0), clo of oc] (by go_simp) (CI.out _ (grown_drew (World.grownBy.refl _ _))) ?_; rintro e w5 ⟨g5, v, xs, rfl, hfv, hM⟩; obtain ⟨vf, vcl, rfl⟩ := hfv; refine ⟨_, rfl, ?_⟩; have Q5 := Lib.hid (heap_grown ((grown_drew (World.grownBy.refl _ _)).trans g5) V2.out.Q); have q5 := one_cell Q5.out; have q6 := fun ob => (World.grownBy_alloc w5 ob none).cell q5 (by simp))
        | (refine step_append_lies _ (by rfl) _ _ 91 (by rfl) (q + 1) 94 iu _ 1 8 Tryz.underlying91 IU.out ZU0.out ZU1.out ZU2.out rfl (by decide) (.slice va vs.length vc) vs.length vs (by rfl) (V2.out.grown (((grown_drew (World.grownBy.refl _ _)).trans g5).trans (World.grownBy_alloc _ _ _))).O ⟨_, 0, none⟩ 1 1 [clo vf vcl] (by rfl) rfl (new_step _ _ _ _ (by simp)) (step_one ⟨_, _, rfl⟩) (by decide) (by unfold maxLen; omega) (by omega) (by have h1 := cells_lt Q5.out; simp; omega) _ rfl ?_; intro gg cap w7 hown2 hgrow2 hat hlt2; have Q7 := Lib.hid ((hgrow2.block q (by have h1 := cells_lt Q5.out; simp; omega) (fun e => HVQ.out e.symm)).trans (heap_grown (World.grownBy_alloc _ _ _) Q5.out)); have q7 := one_cell Q7.out; have f7 := four_free Q7.out 0))
      all_goals
        have gA := World.grownBy_alloc w5 (.cells #[clo vf vcl] 94) none
        have W8 := Lib.hid ((V2.out.grown (grown_drew (World.grownBy.refl _ _))).step g5 hM gA hown2 hgrow2 hat)
        clear gA hown2 hgrow2 hat hlt2 q5 q6 q7 f7 g5 hM Q5 Q7 s0 s1 s2 s3 s4 s5 s6 s7
        rw [← HTK.out] at W8
        go_wp2
        go_roundw
        case rel => exact ⟨vs ++ [clo vf vcl], _, by simp; omega, by simp, by rw [List.length_append]; exact W8⟩
        case measure => simp [intOf]; omega
    · have HE := Lib.hid (show vs.length = l.length by omega)
      have hd : decide (vs.length < l.length) = false := decide_eq_false hlt
      have HF := Lib.hid (show ∃ xs, _ from by
        have h := hV.out
        rw [HE.out, List.take_length] at h
        exact h.made (by rw [HE.out]; exact List.length_pos_iff.2 HL.out) (by omega))
      go_wp2
      go_ret
      obtain ⟨xs, hM⟩ := HF.out
      exact ⟨hV.out.G, _, xs, rfl, ⟨_, _, rfl⟩, hM⟩
end Go.Proofs.YtlkjejmmoalliaaGreatDoor

namespace Go.Proofs.YtlkjejmmoalliaaGreatDoor
open Go.RowKit

theorem OnceAt.be {w w' : World} {P be : Nat} {sv v : Value} (h : OnceAt w w' P sv v be) : w.heap.size ≤ be ∧ w'.heap[be]? = some (.cells #[.int .i64 (-1)] 3 (0, 0)) := by
  obtain ⟨bw, bs, e, h1, h2, h3, h4, h5, h6, h7, h8⟩ := h.ex; exact ⟨h3, h8⟩
theorem OnceAt.lt {w w' : World} {P be : Nat} {sv v : Value} (h : OnceAt w w' P sv v be) : be < w'.heap.size := cells_lt h.be.2
/-- a step that is done once, in a later world -/
theorem OnceAt.rep {w w' w5 W : World} {P be : Nat} {sv v : Value} {t : List Nat} {D fz : Nat → Prop} {X xs : List (Value × Option Nat)} (h : OnceAt w w' P sv v be) (hA : Agr D w5 xs W fz) (hD : ∀ k, w.heap.size ≤ k → k < w'.heap.size → D k ∧ w5.heap[k]? = w'.heap[k]?)
    (hx : ∀ k, w.heap.size ≤ k → k < w'.heap.size → k ≠ be → ∀ x ∈ xs, x.2 ≠ some k) (hs : ActV W fz X sv t) : PrimRep W fz P X (v, some be) (.once t) := by
  obtain ⟨bw, bs, rfl, l1, l2, l3, n1, n2, h1, h2, h3⟩ := h.ex
  have f := fun k (c : Array Value) (t : TypeId) (hk : w.heap.size ≤ k) (ho : w'.heap[k]? = some (.cells c t (0, 0))) (hn : k ≠ be) => hA.bx (hD k hk (cells_lt ho)).1 ((hD k hk (cells_lt ho)).2.trans ho) (hx k hk (cells_lt ho) hn)
  exact ⟨be, bw, bs, sv, rfl, f bw _ _ l1 h1 n1, f bs _ _ l2 h2 n2, hs⟩
theorem round_made {e : Nat} {w w1 w2 w3 w4 w5 : World} {P q1 q2 be1 be2 : Nat} {bv bt x into : Value} {n : Ni} {xs : List (Value × Option Nat)} (g1 : w.grownBy w1 none) (hq1 : w.heap.size ≤ q1) (hq2 : w.heap.size ≤ q2) (hne : q1 ≠ q2)
    (B1 : w1.heap[q1]? = some (.cells #[bv] 94 (0, 0))) (B2 : q2 < w1.heap.size) (O1 : OnceAt w1 w2 P (clo 77 #[ptrV q1, ptrV q2]) bt be1)
    (g3 : w2.grownBy w3 none) (M : MadeN e w2.heap.size w3 P n bt x xs) (O2 : OnceAt w3 w4 P x into be2) (h5 : ∀ k, k ≠ q2 → w5.heap[k]? = w4.heap[k]?) (hs5 : w5.heap.size = w4.heap.size)
    (h5q : w5.heap[q2]? = some (.cells #[into] 94 (0, 0))) :
    Made (Iv w.heap.size w5) w5 P (2 + cnN n) bv ((bt, some be1) :: (into, some be2) :: xs) (fun W fz X _ m => ActV W fz X bt [m] ∧ ActV W fz X into [m + 1])
      (fun b m => .once (b ++ [m + 1]) :: .once (thrN e n [m] (m + 2)).1 :: (thrN e n [m] (m + 2)).2) := by
  have s1 := g1.size; have s2 := O1.g.size; have s3 := g3.size; have s4 := O2.g.size
  have b1 := O1.be; have b2 := O2.be
  have l1 := O1.lt; have l2 := O2.lt
  have k1 := cells_lt B1
  have up4 : ∀ k, k < w3.heap.size → w4.heap[k]? = w3.heap[k]? := fun k hk => O2.g.block k hk (by simp)
  have up3 : ∀ k, k < w2.heap.size → w3.heap[k]? = w2.heap[k]? := fun k hk => g3.block k hk (by simp)
  have up2 : ∀ k, k < w1.heap.size → w2.heap[k]? = w1.heap[k]? := fun k hk => O1.g.block k hk (by simp)
  have at3 : ∀ k, w1.heap.size ≤ k → k < w3.heap.size → w5.heap[k]? = w3.heap[k]? := fun k h h' => (h5 k (by omega)).trans (up4 k h')
  have at2 : ∀ k, w1.heap.size ≤ k → k < w2.heap.size → w5.heap[k]? = w2.heap[k]? := fun k h h' => (at3 k h (by omega)).trans (up3 k h')
  have at4 : ∀ k, w1.heap.size ≤ k → w5.heap[k]? = w4.heap[k]? := fun k h => h5 k (by omega)
  refine ⟨by simp [M.len]; omega, fun b m => by simp [thr_len]; omega, fun _ h => h.2, ?_, ?_, ?_⟩
  · intro y hy b hb
    rcases List.mem_cons.1 hy with rfl | hy
    · cases hb; exact ⟨⟨by omega, by omega⟩, (at2 _ (by omega) l1).trans b1.2⟩
    rcases List.mem_cons.1 hy with rfl | hy
    · cases hb; exact ⟨⟨by omega, by omega⟩, (at4 _ (by omega)).trans b2.2⟩
    · have := M.rng y hy b hb
      have h1 := this.1.1; have h2 := this.1.2
      exact ⟨⟨by omega, by omega⟩, (at3 _ (by omega) h2).trans this.2⟩
  · have hm : ∀ b ∈ xs.filterMap (·.2), w2.heap.size ≤ b ∧ b < w3.heap.size := fun b hb => by
      obtain ⟨y, hy, hyb⟩ := List.mem_filterMap.1 hb
      exact (M.rng y hy b hyb).1
    show (be1 :: be2 :: xs.filterMap (·.2)).Nodup
    rw [List.nodup_cons, List.nodup_cons, List.mem_cons]
    refine ⟨fun h => ?_, fun h => ?_, M.nd⟩
    · rcases h with h | h
      · omega
      · have := hm _ h; omega
    · have := hm _ h; omega
  · intro W fz X b m hA hX hb
    have X0 := hX.head
    have X1 := hX.tail.head
    have hx : ∀ k, w1.heap.size ≤ k → k < w2.heap.size → k ≠ be1 → ∀ y ∈ ((bt, some be1) :: (into, some be2) :: xs), y.2 ≠ some k := fun k h h' hn y hy e => by
      rcases List.mem_cons.1 hy with rfl | hy
      · cases e; exact hn rfl
      rcases List.mem_cons.1 hy with rfl | hy
      · cases e; omega
      · have := (M.rng y hy k e).1.1; omega
    have hx2 : ∀ k, w3.heap.size ≤ k → k < w4.heap.size → k ≠ be2 → ∀ y ∈ ((bt, some be1) :: (into, some be2) :: xs), y.2 ≠ some k := fun k h h' hn y hy e => by
      rcases List.mem_cons.1 hy with rfl | hy
      · cases e; omega
      rcases List.mem_cons.1 hy with rfl | hy
      · cases e; exact hn rfl
      · have := (M.rng y hy k e).1.2; omega
    have hlow : ∀ k, k < w1.heap.size → ∀ y ∈ ((bt, some be1) :: (into, some be2) :: xs), y.2 ≠ some k := fun k h y hy e => by
      rcases List.mem_cons.1 hy with rfl | hy
      · cases e; omega
      rcases List.mem_cons.1 hy with rfl | hy
      · cases e; omega
      · have := (M.rng y hy k e).1.1; omega
    have hbt : ActV W fz X bt [m] := .prim O1.fn X0
    have hin : ActV W fz X into [m + 1] := .prim O2.fn X1
    have hM := M.rep W fz X [m] (m + 2) (fun k hk hc hx' => by
      have h1 := hk.1; have h2 := hk.2
      have := hA k ⟨by omega, by omega⟩ (hc.of (at3 k (by omega) h2)) (fun y hy e => by
        rcases List.mem_cons.1 hy with rfl | hy
        · cases e; omega
        rcases List.mem_cons.1 hy with rfl | hy
        · cases e; omega
        · exact hx' y hy e)
      exact ⟨this.1, this.2.trans (at3 k (by omega) h2)⟩) hX.tail.tail hbt
    have hpair : ActV W fz X (clo 77 #[ptrV q1, ptrV q2]) (b ++ [m + 1]) :=
      .pair (hA.bx (show Iv w.heap.size w5 q1 from ⟨hq1, by omega⟩) ((h5 q1 hne).trans ((up4 _ (by omega)).trans ((up3 _ (by omega)).trans ((up2 _ k1).trans B1)))) (hlow q1 k1))
        (hA.bx (show Iv w.heap.size w5 q2 from ⟨hq2, by omega⟩) h5q (hlow q2 B2)) hb O2.fn X1
    refine ⟨⟨hbt, hin⟩, fun i p y hp hy => ?_⟩
    match i with
    | 0 =>
      simp at hp hy; subst hp; subst hy
      exact O1.rep hA (fun k h h' => ⟨⟨by omega, by omega⟩, at2 k h h'⟩) hx hpair
    | 1 =>
      simp at hp hy; subst hp; subst hy
      exact O2.rep hA (fun k h h' => ⟨⟨by omega, by omega⟩, at4 k (by omega)⟩) hx2 hM.1
    | i + 2 => exact hM.2 i p y (by simpa using hp) (by simpa using hy)

/-- a function that answers one in a variable, and another one -/
theorem back_fn {fn : Func} {p q : Tmp} {w : World} {g : Nat} {v u : Value} {tmps : Array Value} (hf : fn.results = #[.cell p 94, .tmp q]) (hp : tmps.getD p undef = ptrV g) (hq : tmps.getD q undef = u) (hg : w.cell? ⟨g, 0, none⟩ = some v) :
    (results fn tmps).run Tryz.prog w = .ok (.tuple #[v, u]) w := by
  rw [results_cell_tmp hf, hp, hq]
  simp [go_sem, asAddr, hg]
set_option maxRecDepth 100000 in
set_option maxHeartbeats 4000000 in
theorem cRound (P : Nat) (s : ByteArray) (n : Ni) (HT : NodeT P s n) (hr : rgtN n = true) (bv : Value) (a : Option Addr) (m c : Nat) (w : World) (hW : WT P s w) (hb : isFn bv) (hK : KidsE w (.slice a m c) n.kids) :
    Calls Tryz.prog 62 #[ptrV P, niV n (.slice a m c), bv] w fun e w' => w.grownBy w' none ∧ ∃ v1 v2 xs, e = .returned (.tuple #[v1, v2]) ∧ isFn v1 ∧ isFn v2 ∧
      Made (Iv w.heap.size w') w' P (2 + cnN n) bv xs (fun W fz X _ m => ActV W fz X v2 [m] ∧ ActV W fz X v1 [m + 1]) (fun b m => .once (b ++ [m + 1]) :: .once (thrN s.size n [m] (m + 2)).1 :: (thrN s.size n [m] (m + 2)).2) := by
  obtain ⟨bf, bc, rfl⟩ := hb
  have h3 := heap3 w (.cells #[.int .i64 n.kind, .int .i64 n.index, .int .u64 (wd n.set 0), .int .u64 (wd n.set 1), .int .u64 (wd n.set 2), .int .u64 (wd n.set 3), .slice a m c] 28) (.cells #[clo bf bc] 94) (.cells #[.nilFunc] 94)
  have KB := Lib.hid h3.1
  have B1 := Lib.hid h3.2.1
  have B2 := Lib.hid h3.2.2.1
  have G1 := Lib.hid h3.2.2.2
  have W1 := Lib.hid (hW.grown h3.2.2.2)
  have K1 := Lib.hid (hK.grown h3.2.2.2)
  have HQ := Lib.hid HT
  have HR := Lib.hid hr
  clear h3 hW hK hr HT
  go_enter Tryz.func62, Tryz.ntmps62
  go_upto_region 1 with fail
  generalize World.alloc _ _ = w1 at KB B1 B2 G1 W1 K1 ⊢
  generalize eq : w.heap.size = q at KB B1 B2 ⊢
  obtain ⟨q1, eq1⟩ : ∃ q1, q1 = q + 1 := ⟨_, rfl⟩
  obtain ⟨q2, eq2⟩ : ∃ q2, q2 = q1 + 1 := ⟨_, rfl⟩
  rw [← eq1, ← eq2] at B2 ⊢
  rw [← eq1] at B1
  have HE := Lib.hid (show w.heap.size ≤ q1 ∧ w.heap.size ≤ q2 ∧ q1 ≠ q2 ∧ q < q2 by omega)
  clear eq eq1 eq2
  have HO := Lib.hid (cOnce P (clo 77 #[ptrV q1, ptrV q2]) ⟨_, _, rfl⟩ w1)
  go_upto_region 2 with (go_at_call 75; (with_reducible refine (HO.out).mono ?_); rintro e w2 ⟨bt, be1, rfl, hO⟩; have O1 := Lib.hid hO; obtain ⟨f1, c1, rfl⟩ := hO.fn; clear hO)
  clear HO
  have KB2 := Lib.hid (heap_grown O1.out.g KB.out)
  have HN := Lib.hid (HQ.out (clo f1 c1) a m c w2 (W1.out.grown O1.out.g) ⟨_, _, rfl⟩ HR.out (K1.out.grown O1.out.g))
  obtain ⟨s1, s2, s3, s4, s5, s6, s7⟩ := seven_cells KB2.out
  have HP := Lib.hid (fun (w3 : World) (g3 : w2.grownBy w3 none) (x : Value) (hx : isFn x) => cOnce P x hx w3)
  have HB2 := Lib.hid (fun (w3 w4 : World) (g3 : w2.grownBy w3 none) (g4 : w3.grownBy w4 none) => heap_grown ((O1.out.g.trans g3).trans g4) B2.out)
  go_upto_region 3 with (first
    | (go_at_call 42; (with_reducible refine (HN.out).mono ?_); rintro e w3 ⟨g3, x, xs, rfl, hx, hM⟩; have HP3 := Lib.hid (HP.out w3 g3 x hx); have M3 := Lib.hid hM; have G3 := Lib.hid g3; obtain ⟨f2, c2, rfl⟩ := hx; clear hM g3 HN HP)
    | (go_at_call 75; (with_reducible refine (HP3.out).mono ?_); rintro e w4 ⟨into, be2, rfl, hO⟩; have O2 := Lib.hid hO; obtain ⟨f3, c3, rfl⟩ := hO.fn; have b4 := HB2.out w3 w4 G3.out hO.g; have B4 := Lib.hid b4; have z4 := one_cell b4; have f4 := four_free b4 0; clear hO b4))
  have HM := Lib.hid (show ∀ w5 : World, w5.heap[q2]? = some (.cells #[clo f3 c3] 94 (0, 0)) → (∀ k, k ≠ q2 → w5.heap[k]? = w4.heap[k]?) → w5.heap.size = w4.heap.size → _ from fun w5 h1 h2 h3 =>
    round_made G1.out HE.out.1 HE.out.2.1 HE.out.2.2.1 B1.out (cells_lt B2.out) O1.out G3.out M3.out O2.out h2 h3 h1)
  have G4 := Lib.hid (((G1.out.trans O1.out.g).trans G3.out).trans O2.out.g)
  obtain ⟨v3, hv3⟩ : ∃ v3, v3 = Value.func (.func f3) #[] c3 := ⟨_, rfl⟩
  obtain ⟨w5, hw5⟩ : ∃ w5, w5 = w4.setCell ⟨q2, 0, none⟩ (.func (.func f3) #[] c3) := ⟨_, rfl⟩
  have G5 := Lib.hid (show w.grownBy w5 none by rw [hw5]; exact grown_set G4.out 0 _ HE.out.2.1)
  have H5 := Lib.hid (show w5.heap[q2]? = some (.cells #[clo f3 c3] 94 (0, 0)) by rw [hw5]; exact heap_setCell_same w4 q2 0 _ _ _ B4.out)
  have H6 := Lib.hid (show ∀ k, k ≠ q2 → w5.heap[k]? = w4.heap[k]? from fun k hk => by rw [hw5]; exact heap_setCell_other w4 ⟨q2, 0, none⟩ k _ hk)
  have H7 := Lib.hid (show w5.heap.size = w4.heap.size by rw [hw5]; exact World.size_setCell w4 _ _)
  rw [← hw5]
  clear z4 f4 s1 s2 s3 s4 s5 s6 s7 G4 O2 M3 O1 HB2 HP3 KB2 B2 B1 B4 HQ hw5 hv3
  have z5 := one_cell H5.out
  have f5 := four_free H5.out 0
  go_wp2
  have H8 := heap_setCell_same w5 q2 0 _ _ (clo f3 c3) H5.out
  refine bodyPost_ret (v := .tuple #[clo f3 c3, clo f1 c1]) (back_fn (g := q2) Tryz.results62 rfl rfl (one_cell H8)) rfl ?_
  exact ⟨grown_set G5.out 0 _ HE.out.2.1, _, _, _, rfl, ⟨_, _, rfl⟩, ⟨_, _, rfl⟩, HM.out _ H8 (fun k hk => (heap_setCell_other w5 ⟨q2, 0, none⟩ k _ hk).trans (H6.out k hk)) ((World.size_setCell w5 _ _).trans H7.out)⟩
end Go.Proofs.YtlkjejmmoalliaaGreatDoor

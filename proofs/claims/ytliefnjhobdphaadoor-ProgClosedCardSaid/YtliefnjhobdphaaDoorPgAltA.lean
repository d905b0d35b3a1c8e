/- Alternatives: the row of what is to be called behind the whole; the codes while the Jumps aren't given their place. -/
import Derived.Test.YtliefnjhobdphaaDoorPgNode
namespace Go.Proofs.YtliefnjhobdphaaDoor
open Go.RowKit

/-- the place of the k-th Jump -/
def plc (s : Nat) (L : List Ni) (k : Nat) : Nat := s + preC (L.take (k + 1)) - 1
/-- the code while i Jumps have been given their place e -/
def mixA (l : List Ins) (e : Int) (L : List Ni) (T : List Ins) (i : Nat) : List Ins := l ++ (preA e (L.take i) l.length ++ (preA 0 (L.drop i) (l.length + preC (L.take i)) ++ T))
theorem rgtL_takeT {L : List Ni} (h : rgtL L = true) (i : Nat) : rgtL (L.take i) = true := by
  rw [← List.take_append_drop i L, rgtL_append, Bool.and_eq_true] at h; exact h.1
theorem preC_take {L : List Ni} {i : Nat} {n : Ni} (h : L[i]? = some n) : preC (L.take (i + 1)) = preC (L.take i) + 2 + lenN n := by
  rw [List.take_add_one, h]; exact preC_snoc _ _
theorem mixA_at {l T : List Ins} {e : Int} {L : List Ni} {i : Nat} {n : Ni} (h : L[i]? = some n) (hr : rgtL L = true) :
    (mixA l e L T i)[plc l.length L i]? = some ⟨2, 0, 0, emp⟩ ∧ (mixA l e L T i).set (plc l.length L i) ⟨2, e, 0, emp⟩ = mixA l e L T (i + 1) := by
  have hd : L.drop i = n :: L.drop (i + 1) := by
    obtain ⟨hi, e'⟩ := List.getElem?_eq_some_iff.1 h
    rw [List.drop_eq_getElem_cons hi, e']
  have hp : plc l.length L i = l.length + preC (L.take i) + 1 + lenN n := by unfold plc; rw [preC_take h]; omega
  have hrn := rgtL_mem hr (List.mem_of_getElem? h)
  have hA := preA_len e (L.take i) l.length (rgtL_takeT hr i)
  have hN := cod_len n (l.length + preC (L.take i) + 1) hrn
  have hm : mixA l e L T i = (l ++ (preA e (L.take i) l.length ++ (⟨1, (l.length + preC (L.take i) + 1 : Nat), (l.length + preC (L.take i) + 2 + lenN n : Nat), emp⟩ : Ins) :: codN n (l.length + preC (L.take i) + 1))) ++ (⟨2, 0, 0, emp⟩ : Ins) :: (preA 0 (L.drop (i + 1)) (l.length + preC (L.take (i + 1))) ++ T) := by
    unfold mixA
    rw [hd, preA, preC_take h, ← Nat.add_assoc, ← Nat.add_assoc]
    simp
  have hl : (l ++ (preA e (L.take i) l.length ++ (⟨1, (l.length + preC (L.take i) + 1 : Nat), (l.length + preC (L.take i) + 2 + lenN n : Nat), emp⟩ : Ins) :: codN n (l.length + preC (L.take i) + 1))).length = plc l.length L i := by
    rw [hp, List.length_append, List.length_append, List.length_cons, hA, hN]; omega
  rw [hm, ← hl, get_mid, set_mid]
  refine ⟨rfl, ?_⟩
  unfold mixA
  rw [List.take_add_one (l := L), h]
  simp only [Option.toList_some]
  rw [preA_snoc]
  simp
theorem mixA_len {l T : List Ins} {e : Int} {L : List Ni} {i : Nat} (hr : rgtL L = true) : (mixA l e L T i).length = l.length + preC L + T.length := by
  have h2 : rgtL (L.drop i) = true := by rw [← List.take_append_drop i L, rgtL_append, Bool.and_eq_true] at hr; exact hr.2
  have h3 : preC L = preC (L.take i) + preC (L.drop i) := by
    unfold preC
    have := lenL_append (L.take i) (L.drop i)
    rw [List.take_append_drop] at this
    have h4 := congrArg List.length (List.take_append_drop i L)
    rw [List.length_append] at h4
    omega
  unfold mixA
  rw [List.length_append, List.length_append, List.length_append, preA_len _ _ _ (rgtL_takeT hr i), preA_len _ _ _ h2]
  omega
theorem mixA_zero (l T : List Ins) (e : Int) (L : List Ni) : mixA l e L T 0 = l ++ (preA 0 L l.length ++ T) := by unfold mixA; simp [preA, preC, lenL]
theorem mixA_all (l T : List Ins) (e : Int) (L : List Ni) : mixA l e L T L.length = l ++ (preA e L l.length ++ T) := by unfold mixA; simp [preA]

theorem alt_step {l X : List Ins} {L : List Ni} {j : Nat} {n : Ni} (h : L[j]? = some n) (hr : rgtL L = true) (hX : X = l ++ preA 0 (L.take j) l.length) :
    (((X ++ [(⟨1, (X.length + 1 : Nat), 0, emp⟩ : Ins)]) ++ codN n (X.length + 1)) ++ [(⟨2, 0, 0, emp⟩ : Ins)]).set X.length ⟨1, (X.length + 1 : Nat), ((((X ++ [(⟨1, (X.length + 1 : Nat), 0, emp⟩ : Ins)]) ++ codN n (X.length + 1)) ++ [(⟨2, 0, 0, emp⟩ : Ins)]).length : Nat), emp⟩ = l ++ preA 0 (L.take (j + 1)) l.length ∧
      ((X ++ [(⟨1, (X.length + 1 : Nat), 0, emp⟩ : Ins)]) ++ codN n (X.length + 1)).length = plc l.length L j ∧ X.length = l.length + preC (L.take j) := by
  have hl : X.length = l.length + preC (L.take j) := by rw [hX, List.length_append, preA_len _ _ _ (rgtL_takeT hr j)]
  have hN := cod_len n (X.length + 1) (rgtL_mem hr (List.mem_of_getElem? h))
  have h2 : ((X ++ [(⟨1, (X.length + 1 : Nat), 0, emp⟩ : Ins)]) ++ codN n (X.length + 1)).length = X.length + 1 + lenN n := by rw [List.length_append, List.length_append, hN]; rfl
  refine ⟨?_, ?_, hl⟩
  · rw [List.length_append, h2, List.append_assoc, List.append_assoc, List.singleton_append, set_mid, List.take_add_one, h]
    simp only [Option.toList_some]
    rw [preA_snoc, ← hl, hX]
    simp only [List.length_cons, List.length_nil, List.append_assoc, Nat.zero_add]
    congr 4
    omega
  · rw [h2]; unfold plc; rw [preC_take h]; omega

abbrev fnJ (b1 b2 : Nat) : Value := .func (.func 72) #[] #[.pointer (some ⟨b1, 0, none⟩), .pointer (some ⟨b2, 0, none⟩)]
/-- the row of what is to be called -/
structure Lv (p base : Nat) (pl : Nat → Nat) (cl : List Value) (vl vr : Value) (w : World) : Prop where
  R : w.ownsRow base 1 1 vl cl.length cl
  S : ∀ b, vl.ownBlock = some b → Safe p vr b w
  C : ∀ i c, cl[i]? = some c → ∃ b1 b2, c = fnJ b1 b2 ∧ Clo p vr (pl i) b1 b2 w
theorem owns_block {w w' : World} {base : Nat} {e : TypeId} {s n : Nat} {v : Value} {xs : List Value} (h : w.ownsRow base e s v n xs) (hb : ∀ g, v.ownBlock = some g → w'.heap[g]? = w.heap[g]?) : w'.ownsRow base e s v n xs := by
  refine ⟨h.1, ?_⟩
  rcases h.2 with h0 | ⟨g, cap, cur, rfl, h1, h2, h3⟩
  · exact .inl h0
  · exact .inr ⟨g, cap, cur, rfl, h1, (hb g rfl).trans h2, h3⟩
theorem Lv.kept {p base : Nat} {pl : Nat → Nat} {cl : List Value} {vl vr vr' : Value} {w w' : World} (h : Lv p base pl cl vl vr w) (g : Kp p vr w vr' w') : Lv p base pl cl vl vr' w' :=
  ⟨owns_block h.R (fun b hb => g.block b (h.S b hb).lt (h.S b hb).ne (h.S b hb).no), fun b hb => g.safe (h.S b hb), fun i c hc => by obtain ⟨b1, b2, e, C⟩ := h.C i c hc; exact ⟨b1, b2, e, C.kept g⟩⟩
theorem Lv.grown {p base : Nat} {pl : Nat → Nat} {cl : List Value} {vl vr : Value} {w w' : World} (h : Lv p base pl cl vl vr w) (g : w.grownBy w' none) : Lv p base pl cl vl vr w' := h.kept (Kp.ofGrown g)
theorem Wr.row {p : Nat} {v : Value} {l : List Ins} {w w' : World} {row : Option Nat} (h : Wr p v l w) (g : w.grownBy w' row) (hr : ∀ b, row = some b → Safe p v b w) : Wr p v l w' :=
  ⟨(g.block p h.lt (fun e => (hr p e.symm).ne rfl)).trans h.P, h.O.kept g (by
    cases ho : v.ownBlock with
    | none => exact .inl rfl
    | some b => exact .inr (fun e => (hr b e.symm).no ho.symm))⟩
theorem Kp.row {p : Nat} {v v' : Value} {w w1 w2 : World} {row : Option Nat} (h : Kp p v w v' w1) (g : w1.grownBy w2 row) (hr : ∀ b, row = some b → w.heap.size ≤ b) : Kp p v w v' w2 :=
  ⟨g.os.trans h.os, g.tape.trans h.tape, g.output.trans h.output, Nat.le_trans h.size g.size, fun b hb hp hv => (g.block b (Nat.lt_of_lt_of_le hb h.size) (fun e => by have := hr b e.symm; omega)).trans (h.block b hb hp hv), h.own⟩
/-- a closure's blocks are no rows of functions -/
theorem Clo.row {p k b1 b2 base n : Nat} {v vl : Value} {xs : List Value} {w w' : World} (h : Clo p v k b1 b2 w) (R : w.ownsRow base 1 1 vl n xs) (g : w.grownBy w' vl.ownBlock) : Clo p v k b1 b2 w' := by
  have ne : ∀ b c t, w.heap[b]? = some (.cells c t (0, 0)) → t ≠ 1 → some b ≠ vl.ownBlock := fun b c t hb ht e => by
    rcases R.2 with ⟨rfl, -⟩ | ⟨gg, cap, cur, rfl, -, hg, -⟩
    · cases e
    · have e' : b = gg := Option.some.inj e
      subst e'
      rw [hg] at hb
      simp only [Option.some.injEq, Obj.cells.injEq] at hb
      exact ht hb.2.1.symm
  exact ⟨(g.block b1 h.S1.lt (ne _ _ _ h.A (by decide))).trans h.A, (g.block b2 h.S2.lt (ne _ _ _ h.B (by decide))).trans h.B,
    ⟨Nat.lt_of_lt_of_le h.S1.lt g.size, h.S1.ne, h.S1.no⟩, ⟨Nat.lt_of_lt_of_le h.S2.lt g.size, h.S2.ne, h.S2.no⟩⟩
theorem Lv.cell {p base k n : Nat} {pl : Nat → Nat} {cl : List Value} {va : Option Addr} {vc : Nat} {vr x : Value} {w : World} (h : Lv p base pl cl (.slice va n vc) vr w) (hk : cl[k]? = some x) : ∃ g, va = some ⟨g, 0, none⟩ ∧ w.cell? ⟨g, k, none⟩ = some x := by
  have hR := h.R
  rcases h.R.2 with ⟨e, h0⟩ | ⟨g, cap, cur, e, -, -, -⟩
  · have : cl = [] := List.eq_nil_of_length_eq_zero h0
    subst this; simp at hk
  · cases e
    have := hR.cells (g := g) rfl k x hk
    rw [Addr.add_lit, Nat.zero_add] at this
    exact ⟨g, rfl, this⟩
theorem Lv.push {p base gg cap b1 b2 : Nat} {pl : Nat → Nat} {cl : List Value} {vl vr : Value} {l : List Ins} {W w7 : World} (h : Lv p base pl cl vl vr W) (hw : Wr p vr l W) (C : Clo p vr (pl cl.length) b1 b2 W)
    (o : w7.ownsRow base 1 1 (.slice (some ⟨gg, 0, none⟩) (cl.length + 1) cap) (cl.length + 1) (cl ++ [fnJ b1 b2])) (g : W.grownBy w7 vl.ownBlock) (hat : vl.ownBlock = some gg ∨ gg = W.heap.size) (hlt : gg < w7.heap.size) :
    Lv p base pl (cl ++ [fnJ b1 b2]) (.slice (some ⟨gg, 0, none⟩) (cl.length + 1) cap) vr w7 := by
  refine ⟨by rw [List.length_append]; exact o, fun b hb => ?_, fun i c hc => ?_⟩
  · have e : gg = b := Option.some.inj hb
    subst e
    rcases hat with e | e
    · have := h.S gg e; exact ⟨hlt, this.ne, this.no⟩
    · subst e; exact hw.safe (Nat.le_refl _) hlt
  · rw [List.getElem?_append] at hc
    split at hc
    · obtain ⟨a1, a2, e, C'⟩ := h.C i c hc
      exact ⟨a1, a2, e, C'.row h.R g⟩
    · rename_i hi
      have : i - cl.length = 0 := by
        rcases Nat.eq_zero_or_pos (i - cl.length) with h | h
        · exact h
        · rw [List.getElem?_eq_none (by simp; omega)] at hc; cases hc
      have hi2 : i = cl.length := by omega
      subst hi2
      simp at hc
      exact ⟨b1, b2, hc.symm, C.row h.R g⟩
end Go.Proofs.YtliefnjhobdphaaDoor

/- The writer's codes: stars, pluses, what may be left out, groups, rows. Alternatives: the row of what is to be called behind the whole; the codes while the Jumps aren't given their place. The writer's code of alternatives. -/
import Derived.Test.YtlkjejmmoalliaaDoorPgWr
namespace Go.Proofs.YtlkjejmmoalliaaDoor
open Go.RowKit

theorem set_mid (l r : List Ins) (c c' : Ins) : (l ++ c :: r).set l.length c' = l ++ c' :: r := by simp
theorem get_mid (l r : List Ins) (c : Ins) : (l ++ c :: r)[l.length]? = some c := by simp

end Go.Proofs.YtlkjejmmoalliaaDoor

namespace Go.Proofs.YtlkjejmmoalliaaDoor
open Go.RowKit

/-- the place of the k-th Jump -/
def plc (s : Nat) (L : List Ni) (k : Nat) : Nat := s + preC (L.take (k + 1)) - 1
/-- the code while i Jumps have been given their place e -/
def mixA (l : List Ins) (e : Int) (L : List Ni) (T : List Ins) (i : Nat) : List Ins := l ++ (preA e (L.take i) l.length ++ (preA 0 (L.drop i) (l.length + preC (L.take i)) ++ T))
theorem rgtL_takeT {L : List Ni} (h : rgtL L = true) (i : Nat) : rgtL (L.take i) = true := by
  rw [← List.take_append_drop i L, rgtL_append, Bool.and_eq_true] at h; exact h.1
theorem preC_take {L : List Ni} {i : Nat} {n : Ni} (h : L[i]? = some n) : preC (L.take (i + 1)) = preC (L.take i) + 2 + lenN n := by
  rw [List.take_add_one, h]; exact preC_snoc _ _
theorem mixA_at {l T : List Ins} {e : Int} {L : List Ni} {i : Nat} {n : Ni} (h : L[i]? = some n) (hr : rgtL L = true) :
    (mixA l e L T i)[plc l.length L i]? = some ⟨2, 0, 0, emp⟩ ∧ (mixA l e L T i).set (plc l.length L i) ⟨2, e, 0, emp⟩ = mixA l e L T (i + 1) := by
  have hd : L.drop i = n :: L.drop (i + 1) := by
    obtain ⟨hi, e'⟩ := List.getElem?_eq_some_iff.1 h
    rw [List.drop_eq_getElem_cons hi, e']
  have hp : plc l.length L i = l.length + preC (L.take i) + 1 + lenN n := by unfold plc; rw [preC_take h]; omega
  have hrn := rgtL_mem hr (List.mem_of_getElem? h)
  have hA := preA_len e (L.take i) l.length (rgtL_takeT hr i)
  have hN := cod_len n (l.length + preC (L.take i) + 1) hrn
  have hm : mixA l e L T i = (l ++ (preA e (L.take i) l.length ++ (⟨1, (l.length + preC (L.take i) + 1 : Nat), (l.length + preC (L.take i) + 2 + lenN n : Nat), emp⟩ : Ins) :: codN n (l.length + preC (L.take i) + 1))) ++ (⟨2, 0, 0, emp⟩ : Ins) :: (preA 0 (L.drop (i + 1)) (l.length + preC (L.take (i + 1))) ++ T) := by
    unfold mixA
    rw [hd, preA, preC_take h, ← Nat.add_assoc, ← Nat.add_assoc]
    simp
  have hl : (l ++ (preA e (L.take i) l.length ++ (⟨1, (l.length + preC (L.take i) + 1 : Nat), (l.length + preC (L.take i) + 2 + lenN n : Nat), emp⟩ : Ins) :: codN n (l.length + preC (L.take i) + 1))).length = plc l.length L i := by
    rw [hp, List.length_append, List.length_append, List.length_cons, hA, hN]; omega
  rw [hm, ← hl, get_mid, set_mid]
  refine ⟨rfl, ?_⟩
  unfold mixA
  rw [List.take_add_one (l := L), h]
  simp only [Option.toList_some]
  rw [preA_snoc]
  simp
theorem mixA_len {l T : List Ins} {e : Int} {L : List Ni} {i : Nat} (hr : rgtL L = true) : (mixA l e L T i).length = l.length + preC L + T.length := by
  have h2 : rgtL (L.drop i) = true := by rw [← List.take_append_drop i L, rgtL_append, Bool.and_eq_true] at hr; exact hr.2
  have h3 : preC L = preC (L.take i) + preC (L.drop i) := by
    unfold preC
    have := lenL_append (L.take i) (L.drop i)
    rw [List.take_append_drop] at this
    have h4 := congrArg List.length (List.take_append_drop i L)
    rw [List.length_append] at h4
    omega
  unfold mixA
  rw [List.length_append, List.length_append, List.length_append, preA_len _ _ _ (rgtL_takeT hr i), preA_len _ _ _ h2]
  omega
theorem mixA_zero (l T : List Ins) (e : Int) (L : List Ni) : mixA l e L T 0 = l ++ (preA 0 L l.length ++ T) := by unfold mixA; simp [preA, preC, lenL]
theorem mixA_all (l T : List Ins) (e : Int) (L : List Ni) : mixA l e L T L.length = l ++ (preA e L l.length ++ T) := by unfold mixA; simp [preA]

theorem alt_step {l X : List Ins} {L : List Ni} {j : Nat} {n : Ni} (h : L[j]? = some n) (hr : rgtL L = true) (hX : X = l ++ preA 0 (L.take j) l.length) :
    (((X ++ [(⟨1, (X.length + 1 : Nat), 0, emp⟩ : Ins)]) ++ codN n (X.length + 1)) ++ [(⟨2, 0, 0, emp⟩ : Ins)]).set X.length ⟨1, (X.length + 1 : Nat), ((((X ++ [(⟨1, (X.length + 1 : Nat), 0, emp⟩ : Ins)]) ++ codN n (X.length + 1)) ++ [(⟨2, 0, 0, emp⟩ : Ins)]).length : Nat), emp⟩ = l ++ preA 0 (L.take (j + 1)) l.length ∧
      ((X ++ [(⟨1, (X.length + 1 : Nat), 0, emp⟩ : Ins)]) ++ codN n (X.length + 1)).length = plc l.length L j ∧ X.length = l.length + preC (L.take j) := by
  have hl : X.length = l.length + preC (L.take j) := by rw [hX, List.length_append, preA_len _ _ _ (rgtL_takeT hr j)]
  have hN := cod_len n (X.length + 1) (rgtL_mem hr (List.mem_of_getElem? h))
  have h2 : ((X ++ [(⟨1, (X.length + 1 : Nat), 0, emp⟩ : Ins)]) ++ codN n (X.length + 1)).length = X.length + 1 + lenN n := by rw [List.length_append, List.length_append, hN]; rfl
  refine ⟨?_, ?_, hl⟩
  · rw [List.length_append, h2, List.append_assoc, List.append_assoc, List.singleton_append, set_mid, List.take_add_one, h]
    simp only [Option.toList_some]
    rw [preA_snoc, ← hl, hX]
    simp only [List.length_cons, List.length_nil, List.append_assoc, Nat.zero_add]
    congr 4
    omega
  · rw [h2]; unfold plc; rw [preC_take h]; omega

theorem owns_block {w w' : World} {base : Nat} {e : TypeId} {s n : Nat} {v : Value} {xs : List Value} (h : w.ownsRow base e s v n xs) (hb : ∀ g, v.ownBlock = some g → w'.heap[g]? = w.heap[g]?) : w'.ownsRow base e s v n xs := by
  refine ⟨h.1, ?_⟩
  rcases h.2 with h0 | ⟨g, cap, cur, rfl, h1, h2, h3⟩
  · exact .inl h0
  · exact .inr ⟨g, cap, cur, rfl, h1, (hb g rfl).trans h2, h3⟩
theorem Kp.row {p : Nat} {v v' : Value} {w w1 w2 : World} {row : Option Nat} (h : Kp p v w v' w1) (g : w1.grownBy w2 row) (hr : ∀ b, row = some b → w.heap.size ≤ b) : Kp p v w v' w2 :=
  ⟨g.os.trans h.os, g.tape.trans h.tape, g.output.trans h.output, Nat.le_trans h.size g.size, fun b hb hp hv => (g.block b (Nat.lt_of_lt_of_le hb h.size) (fun e => by have := hr b e.symm; omega)).trans (h.block b hb hp hv), h.own⟩
end Go.Proofs.YtlkjejmmoalliaaDoor

namespace Go.Proofs.YtlkjejmmoalliaaDoor
open Go.RowKit

theorem infoFn : (Tryd.prog.info? 1).map (fun i => (i.zero, i.size, i.bytes)) = some (some .nilFunc, 1, 8) := by kernel_rfl
theorem new_fn (w : World) (u : Value) (t : TypeId) (m : Nat) (hm : m = w.heap.size) : ∀ j x, [u][j]? = some x → (w.alloc (.cells #[u] t)).cell? ((⟨m, 0, none⟩ : Addr).add j) = some x := by
  subst hm
  exact World.news_of_block (cs := #[u]) (t := t) (fr := (0, 0)) (heap_alloc_new w _)
end Go.Proofs.YtlkjejmmoalliaaDoor

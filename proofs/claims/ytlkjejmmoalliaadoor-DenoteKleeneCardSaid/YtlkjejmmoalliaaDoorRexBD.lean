/- The document's branch. -/
import Derived.Test.YtlkjejmmoalliaaDoorRexX
namespace Go.Proofs.YtlkjejmmoalliaaDoor
open Go.RowKit

theorem new_sevens (w : World) (v0 v1 v2 v3 v4 v5 v6 : Value) (t : TypeId) (m : Nat) (hm : m = w.heap.size) : ∀ j u, ([v0, v1, v2, v3, v4, v5, v6] : List Value)[j]? = some u → (w.alloc (.cells #[v0, v1, v2, v3, v4, v5, v6] t)).cell? ((⟨m, 0, none⟩ : Addr).add j) = some u := by
  subst hm
  exact World.news_of_block (cs := #[v0, v1, v2, v3, v4, v5, v6]) (t := t) (fr := (0, 0)) (heap_alloc_new w _)
theorem sevens_one (k i : Int) (a b c d : Int) (p : Option Addr) (m n : Nat) : ∀ u ∈ ([.int .i64 k, .int .i64 i, .int .u64 a, .int .u64 b, .int .u64 c, .int .u64 d, .slice p m n] : List Value), u.oneCell' = true := by
  intro u hu; simp at hu; rcases hu with rfl | rfl | rfl | rfl | rfl | rfl | rfl <;> rfl
theorem cells_plain (k i : Nat) (ks : List Nd) (kv : Value) : cells7 (.mk k i emp ks) kv = [.int .i64 k, .int .i64 i, .int .u64 0, .int .u64 0, .int .u64 0, .int .u64 0, kv] := by simp [cells7, wd_emp, Nd.kind, Nd.index, Nd.set]
theorem cells_set (s : BitVec 256) (ks : List Nd) (kv : Value) : cells7 (.mk 1 0 s ks) kv = [.int .i64 1, .int .i64 0, .int .u64 (wd s 0), .int .u64 (wd s 1), .int .u64 (wd s 2), .int .u64 (wd s 3), kv] := by simp [cells7, Nd.kind, Nd.index, Nd.set]
theorem five_cells {w : World} {b : Nat} {v0 v1 v2 v3 v4 : Value} {t : TypeId} (h : w.heap[b]? = some (.cells #[v0, v1, v2, v3, v4] t (0, 0))) :
    w.cell? ⟨b, 0, none⟩ = some v0 ∧ w.cell? ⟨b, 1, none⟩ = some v1 ∧ w.cell? ⟨b, 2, none⟩ = some v2 ∧ w.cell? ⟨b, 3, none⟩ = some v3 ∧ w.cell? ⟨b, 4, none⟩ = some v4 := by
  refine ⟨?_, ?_, ?_, ?_, ?_⟩ <;> (unfold World.cell?; rw [h]; rfl)

theorem flat7_len : ∀ L : List (Nd × Value), (flat7 L).length = L.length * 7 := by
  intro L
  induction L with
  | nil => rfl
  | cons y L ih =>
    have e : flat7 (y :: L) = cells7 y.1 y.2 ++ flat7 L := rfl
    have hl : (cells7 y.1 y.2).length = 7 := rfl
    rw [e, List.length_append, hl, ih, List.length_cons]; omega
theorem NRow.swap {base : Nat} {p : Nat → Prop} {T : TypeId} {L : List (Nd × Value)} {n n' : Nd} {kv kv' : Value} {rb cap : Nat} {w : World}
    (h : NRow base p T (L ++ [(n, kv)]) (.slice (some ⟨rb, 0, none⟩) (L.length + 1) cap) w) (hk : KidsAt w (fun b => p b ∧ b ≠ rb) kv' n'.kids) (v0 v1 v2 v3 v4 v5 v6 : Value) (hc : cells7 n' kv' = [v0, v1, v2, v3, v4, v5, v6]) :
    NRow base p T (L ++ [(n', kv')]) (.slice (some ⟨rb, 0, none⟩) (L.length + 1) cap) (((((((w.setCell ⟨rb, L.length * 7, none⟩ v0).setCell ⟨rb, L.length * 7 + 1, none⟩ v1).setCell ⟨rb, L.length * 7 + 2, none⟩ v2).setCell ⟨rb, L.length * 7 + 3, none⟩ v3).setCell ⟨rb, L.length * 7 + 4, none⟩ v4).setCell ⟨rb, L.length * 7 + 5, none⟩ v5).setCell ⟨rb, L.length * 7 + 6, none⟩ v6) ∧
    w.grownBy (((((((w.setCell ⟨rb, L.length * 7, none⟩ v0).setCell ⟨rb, L.length * 7 + 1, none⟩ v1).setCell ⟨rb, L.length * 7 + 2, none⟩ v2).setCell ⟨rb, L.length * 7 + 3, none⟩ v3).setCell ⟨rb, L.length * 7 + 4, none⟩ v4).setCell ⟨rb, L.length * 7 + 5, none⟩ v5).setCell ⟨rb, L.length * 7 + 6, none⟩ v6) (some rb) := by
  obtain ⟨hO, hK⟩ := h
  rw [show (L ++ [(n, kv)]).length = L.length + 1 by simp] at hO
  have s0 := hO.stored (L.length * 7) v0
  have s1 := s0.1.stored (L.length * 7 + 1) v1
  have s2 := s1.1.stored (L.length * 7 + 2) v2
  have s3 := s2.1.stored (L.length * 7 + 3) v3
  have s4 := s3.1.stored (L.length * 7 + 4) v4
  have s5 := s4.1.stored (L.length * 7 + 5) v5
  have s6 := s5.1.stored (L.length * 7 + 6) v6
  have g := s0.2.trans (s1.2.trans (s2.2.trans (s3.2.trans (s4.2.trans (s5.2.trans s6.2)))))
  refine ⟨⟨?_, fun x hx => ?_⟩, g⟩
  · have e : ((((((((flat7 (L ++ [(n, kv)])).set (L.length * 7) v0).set (L.length * 7 + 1) v1).set (L.length * 7 + 2) v2).set (L.length * 7 + 3) v3).set (L.length * 7 + 4) v4).set (L.length * 7 + 5) v5).set (L.length * 7 + 6) v6) = flat7 (L ++ [(n', kv')]) := by
      rw [flat7_snoc, flat7_snoc, hc]
      simp [flat7_len, cells7]
    rw [← e, show (L ++ [(n', kv')]).length = L.length + 1 by simp]
    exact s6.1
  · rcases List.mem_append.1 hx with hx | hx
    · exact (hK x (List.mem_append_left _ hx)).kept fun b _ _ hb hu => g.cell hu hb.2
    · simp at hx; subst hx
      exact (hk.weak (q := fun b => p b ∧ some b ≠ (Value.slice (some ⟨rb, 0, none⟩) (L.length + 1) cap).ownBlock) fun b _ hb => ⟨hb.1, fun e => hb.2 (by simpa [Value.ownBlock] using e)⟩).kept fun b _ _ hb hu => g.cell hu hb.2

theorem set7_alloc (w : World) (o : Obj) (rb k : Nat) (v0 v1 v2 v3 v4 v5 v6 : Value) (h : rb < w.heap.size) :
    ((((((((w.alloc o).setCell ⟨rb, k, none⟩ v0).setCell ⟨rb, k + 1, none⟩ v1).setCell ⟨rb, k + 2, none⟩ v2).setCell ⟨rb, k + 3, none⟩ v3).setCell ⟨rb, k + 4, none⟩ v4).setCell ⟨rb, k + 5, none⟩ v5).setCell ⟨rb, k + 6, none⟩ v6) =
    ((((((((w.setCell ⟨rb, k, none⟩ v0).setCell ⟨rb, k + 1, none⟩ v1).setCell ⟨rb, k + 2, none⟩ v2).setCell ⟨rb, k + 3, none⟩ v3).setCell ⟨rb, k + 4, none⟩ v4).setCell ⟨rb, k + 5, none⟩ v5).setCell ⟨rb, k + 6, none⟩ v6).alloc o) := by
  have st : ∀ (w : World) (j : Nat) (v : Value), rb < w.heap.size → (w.alloc o).setCell ⟨rb, j, none⟩ v = (w.setCell ⟨rb, j, none⟩ v).alloc o := fun w j v h => by
    first | exact World.setCell_alloc_past w o rb j v h | exact World.setCell_alloc_past o rb j v h | exact World.setCell_alloc_past (hn := h) ..
  rw [st _ _ _ h, st _ _ _ (by simpa using h), st _ _ _ (by simpa using h), st _ _ _ (by simpa using h), st _ _ _ (by simpa using h), st _ _ _ (by simpa using h), st _ _ _ (by simpa using h)]

end Go.Proofs.YtlkjejmmoalliaaDoor

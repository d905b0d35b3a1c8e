/- Nodes in memory; the document's own one. -/
import Derived.Test.YtonbcldhbinmeaaDoorRexD
namespace Go.Proofs.YtonbcldhbinmeaaDoor
open Go.RowKit

def cells7 (n : Nd) (kv : Value) : List Value := [.int .i64 n.kind, .int .i64 n.index, .int .u64 (wd n.set 0), .int .u64 (wd n.set 1), .int .u64 (wd n.set 2), .int .u64 (wd n.set 3), kv]
abbrev ndV (n : Nd) (kv : Value) : Value := .agg #[.int .i64 n.kind, .int .i64 n.index, .int .u64 (wd n.set 0), .int .u64 (wd n.set 1), .int .u64 (wd n.set 2), .int .u64 (wd n.set 3), kv]
/-- a slice of nodes that lies in memory, in blocks that p lets -/
inductive KidsAt (w : World) (p : Nat → Prop) : Value → List Nd → Prop
  | empty (a : Option Addr) (c : Nat) : KidsAt w p (.slice a 0 c) []
  | items (b off c : Nat) (l : List Nd) (kv : Nat → Value) (hl : l ≠ []) (hp : p b)
      (hc : ∀ k n, l[k]? = some n → ∀ j u, (cells7 n (kv k))[j]? = some u → w.cell? ⟨b, off + k * 7 + j, none⟩ = some u)
      (hk : ∀ k n, l[k]? = some n → KidsAt w p (kv k) n.kids) : KidsAt w p (.slice (some ⟨b, off, none⟩) l.length c) l
theorem KidsAt.kept {w w' : World} {p : Nat → Prop} {v : Value} {l : List Nd} (h : KidsAt w p v l) (hw : ∀ b off u, p b → w.cell? ⟨b, off, none⟩ = some u → w'.cell? ⟨b, off, none⟩ = some u) : KidsAt w' p v l := by
  induction h with
  | empty a c => exact .empty a c
  | items b off c l kv hl hp hc hk ih => exact .items b off c l kv hl hp (fun k n hn j u hu => hw _ _ _ hp (hc k n hn j u hu)) ih
theorem KidsAt.weak {w : World} {p q : Nat → Prop} {v : Value} {l : List Nd} (h : KidsAt w p v l) (hw : ∀ b, b < w.heap.size → p b → q b) : KidsAt w q v l := by
  induction h with
  | empty a c => exact .empty a c
  | items b off c l kv hl hp hc hk ih =>
    refine .items b off c l kv hl (hw b ?_ hp) hc ih
    cases l with
    | nil => exact absurd rfl hl
    | cons n l => exact cell_block (hc 0 n rfl 0 _ rfl)
theorem KidsAt.grown {w w' : World} {p : Nat → Prop} {v : Value} {l : List Nd} (h : KidsAt w p v l) (g : w.grownBy w' none) : KidsAt w' p v l :=
  h.kept fun _ _ _ _ hc => g.cell hc (by simp)
/-- kids that lie apart from a row that turns -/
theorem KidsAt.turn {w w' : World} {r : Option Nat} {v : Value} {l : List Nd} (h : KidsAt w (fun b => some b ≠ r) v l) (g : w.grownBy w' r) : KidsAt w' (fun b => some b ≠ r) v l :=
  h.kept fun _ _ _ hb hc => g.cell hc hb
theorem KidsAt.shape {w : World} {p : Nat → Prop} {v : Value} {l : List Nd} (h : KidsAt w p v l) : ∃ a c, v = .slice a l.length c := by
  cases h with
  | empty a c => exact ⟨a, c, rfl⟩
  | items b off c l kv hl hp hc hk => exact ⟨_, c, rfl⟩
theorem KidsAt.first {w : World} {p : Nat → Prop} {v : Value} {n : Nd} {l : List Nd} (h : KidsAt w p v (n :: l)) : ∃ b off c kv, v = .slice (some ⟨b, off, none⟩) (n :: l).length c ∧ (∀ j u, (cells7 n kv)[j]? = some u → w.cell? ⟨b, off + j, none⟩ = some u) ∧ KidsAt w p kv n.kids := by
  generalize hm : n :: l = m at h ⊢
  cases h with
  | empty a c => cases hm
  | items b off c l' kv hl hp hc hk =>
    subst hm
    exact ⟨b, off, c, kv 0, rfl, fun j u hu => by have := hc 0 n rfl j u hu; rwa [Nat.zero_mul, Nat.add_zero] at this, hk 0 n rfl⟩
/-- several nodes as one -/
def oneN (m : Nat) (l : List Nd) : Nd := match l with | [] => ndE | [n] => n | l => .mk m 0 emp l
theorem oneN_cat (l : List Nd) : oneN 2 l = catN l := rfl
theorem oneN_alt (l : List Nd) : oneN 3 l = altN l := rfl
theorem infoNd : (Tryd.prog.info? 35).map (fun i => (i.zero, i.size, i.bytes)) = some (some (.agg #[.int .i64 0, .int .i64 0, .int .u64 0, .int .u64 0, .int .u64 0, .int .u64 0, .slice none 0 0]), 7, 72) := by kernel_rfl
theorem seven_cells {w : World} {b : Nat} {v0 v1 v2 v3 v4 v5 v6 : Value} {t : TypeId} (h : w.heap[b]? = some (.cells #[v0, v1, v2, v3, v4, v5, v6] t (0, 0))) :
    w.cell? ⟨b, 0, none⟩ = some v0 ∧ w.cell? ⟨b, 1, none⟩ = some v1 ∧ w.cell? ⟨b, 2, none⟩ = some v2 ∧ w.cell? ⟨b, 3, none⟩ = some v3 ∧ w.cell? ⟨b, 4, none⟩ = some v4 ∧ w.cell? ⟨b, 5, none⟩ = some v5 ∧ w.cell? ⟨b, 6, none⟩ = some v6 := by
  refine ⟨?_, ?_, ?_, ?_, ?_, ?_, ?_⟩ <;> (unfold World.cell?; rw [h]; rfl)

theorem set_seven {w : World} {b : Nat} {a0 a1 a2 a3 a4 a5 a6 : Value} {t : TypeId} (h : w.heap[b]? = some (.cells #[a0, a1, a2, a3, a4, a5, a6] t (0, 0))) (v0 v1 v2 v3 v4 v5 v6 : Value) :
    (((((((w.setCell ⟨b, 0, none⟩ v0).setCell ⟨b, 1, none⟩ v1).setCell ⟨b, 2, none⟩ v2).setCell ⟨b, 3, none⟩ v3).setCell ⟨b, 4, none⟩ v4).setCell ⟨b, 5, none⟩ v5).setCell ⟨b, 6, none⟩ v6).heap[b]? = some (.cells #[v0, v1, v2, v3, v4, v5, v6] t (0, 0)) := by
  have h0 : (w.setCell ⟨b, 0, none⟩ v0).heap[b]? = some (.cells #[v0, a1, a2, a3, a4, a5, a6] t (0, 0)) := heap_setCell_same w b 0 _ _ v0 h
  generalize w.setCell ⟨b, 0, none⟩ v0 = w0 at h0 ⊢
  have h1 : (w0.setCell ⟨b, 1, none⟩ v1).heap[b]? = some (.cells #[v0, v1, a2, a3, a4, a5, a6] t (0, 0)) := heap_setCell_same w0 b 1 _ _ v1 h0
  generalize w0.setCell ⟨b, 1, none⟩ v1 = w1 at h1 ⊢
  have h2 : (w1.setCell ⟨b, 2, none⟩ v2).heap[b]? = some (.cells #[v0, v1, v2, a3, a4, a5, a6] t (0, 0)) := heap_setCell_same w1 b 2 _ _ v2 h1
  generalize w1.setCell ⟨b, 2, none⟩ v2 = w2 at h2 ⊢
  have h3 : (w2.setCell ⟨b, 3, none⟩ v3).heap[b]? = some (.cells #[v0, v1, v2, v3, a4, a5, a6] t (0, 0)) := heap_setCell_same w2 b 3 _ _ v3 h2
  generalize w2.setCell ⟨b, 3, none⟩ v3 = w3 at h3 ⊢
  have h4 : (w3.setCell ⟨b, 4, none⟩ v4).heap[b]? = some (.cells #[v0, v1, v2, v3, v4, a5, a6] t (0, 0)) := heap_setCell_same w3 b 4 _ _ v4 h3
  generalize w3.setCell ⟨b, 4, none⟩ v4 = w4 at h4 ⊢
  have h5 : (w4.setCell ⟨b, 5, none⟩ v5).heap[b]? = some (.cells #[v0, v1, v2, v3, v4, v5, a6] t (0, 0)) := heap_setCell_same w4 b 5 _ _ v5 h4
  generalize w4.setCell ⟨b, 5, none⟩ v5 = w5 at h5 ⊢
  exact heap_setCell_same w5 b 6 _ _ v6 h5
theorem set7_far {w : World} {b r o : Nat} {u v0 v1 v2 v3 v4 v5 v6 : Value} (h : w.cell? ⟨b, o, none⟩ = some u) (hb : b ≠ r) :
    (((((((w.setCell ⟨r, 0, none⟩ v0).setCell ⟨r, 1, none⟩ v1).setCell ⟨r, 2, none⟩ v2).setCell ⟨r, 3, none⟩ v3).setCell ⟨r, 4, none⟩ v4).setCell ⟨r, 5, none⟩ v5).setCell ⟨r, 6, none⟩ v6).cell? ⟨b, o, none⟩ = some u := by
  have st : ∀ (w : World) (j : Nat) (v : Value), w.cell? ⟨b, o, none⟩ = some u → (w.setCell ⟨r, j, none⟩ v).cell? ⟨b, o, none⟩ = some u := fun w j v hw => (World.cell?_setCell_far w ⟨r, j, none⟩ ⟨b, o, none⟩ _ (Ne.symm hb)).trans hw
  exact st _ 6 _ (st _ 5 _ (st _ 4 _ (st _ 3 _ (st _ 2 _ (st _ 1 _ (st _ 0 _ h))))))
theorem grown7 {w w1 : World} {b : Nat} {v0 v1 v2 v3 v4 v5 v6 : Value} (h : w.grownBy w1 none) (hb : w.heap.size ≤ b) :
    w.grownBy (((((((w1.setCell ⟨b, 0, none⟩ v0).setCell ⟨b, 1, none⟩ v1).setCell ⟨b, 2, none⟩ v2).setCell ⟨b, 3, none⟩ v3).setCell ⟨b, 4, none⟩ v4).setCell ⟨b, 5, none⟩ v5).setCell ⟨b, 6, none⟩ v6) none :=
  grown_set (grown_set (grown_set (grown_set (grown_set (grown_set (grown_set h _ _ hb) _ _ hb) _ _ hb) _ _ hb) _ _ hb) _ _ hb) _ _ hb
theorem under_nd : ∃ fs, Tryd.prog.underlying 35 = some (.struct fs) := ⟨_, Tryd.underlying35⟩
theorem sizeNd : (Tryd.prog.info? 35).map (·.size) = some 7 := by kernel_rfl
theorem back_nd {fn : Func} {p : Tmp} {w : World} {g : Nat} {n : Nd} {kv : Value} {tmps : Array Value} (hf : fn.results = #[.cell p 35])
    (hp : tmps.getD p undef = .pointer (some ⟨g, 0, none⟩)) (hg : w.heap[g]? = some (.cells #[.int .i64 n.kind, .int .i64 n.index, .int .u64 (wd n.set 0), .int .u64 (wd n.set 1), .int .u64 (wd n.set 2), .int .u64 (wd n.set 3), kv] 35 (0, 0))) :
    (results fn tmps).run Tryd.prog w = .ok (ndV n kv) w :=
  results_cell_row hf tmps w g _ _ _ _ hp hg Tryd.underlying35 rfl sizeNd

set_option maxRecDepth 100000 in
set_option maxHeartbeats 4000000 in
theorem cOne (m : Nat) (kv : Value) (l : List Nd) (p : Nat → Prop) (w : World) (h : KidsAt w p kv l) :
    Calls Tryd.prog 41 #[.int .i64 m, kv] w fun e w' => (∃ kw, e = .returned (ndV (oneN m l) kw) ∧ KidsAt w' p kw (oneN m l).kids) ∧ w.grownBy w' none := by
  have H := Lib.hid (h.weak (q := fun b => p b ∧ b < w.heap.size) fun b hb hp => ⟨hp, hb⟩)
  obtain ⟨a, c, rfl⟩ := h.shape
  clear h
  go_enter Tryd.func41, Tryd.ntmps41
  have B1 := Lib.hid (heap_alloc_new w (.cells #[.int .i64 0, .int .i64 0, .int .u64 0, .int .u64 0, .int .u64 0, .int .u64 0, .slice none 0 0] 35))
  have G := Lib.hid (World.grownBy_alloc w (.cells #[.int .i64 0, .int .i64 0, .int .u64 0, .int .u64 0, .int .u64 0, .int .u64 0, .slice none 0 0] 35) none)
  have HR := Lib.hid (Nat.le_refl w.heap.size)
  go_upto_region 1 with fail
  generalize hr : w.heap.size = r at B1 HR ⊢
  have HR2 := Lib.hid (show w.heap.size ≤ r by omega)
  clear HR hr
  have H1 := Lib.hid (H.out.grown G.out)
  generalize w.alloc _ = w1 at B1 G H1 ⊢
  obtain ⟨r0, r1, r2, r3, r4, r5, r6⟩ := seven_cells B1.out
  have fr := four_free B1.out
  cases l with
  | nil =>
    go_wp2
    refine bodyPost_ret (v := ndV ndE (.slice none 0 0)) (back_nd Tryd.results41 rfl (set_seven B1.out _ _ _ _ _ _ _)) rfl ⟨⟨_, rfl, .empty none 0⟩, ?_⟩
    exact grown7 G.out HR2.out
  | cons n l =>
    cases l with
    | nil =>
      obtain ⟨b, off, c', kv, e, hc, hk⟩ := H1.out.first
      cases e
      have c0 : w1.cell? ⟨b, off, none⟩ = some (.int .i64 n.kind) := hc 0 _ rfl
      have c1 := hc 1 _ rfl
      have c2 := hc 2 _ rfl
      have c3 := hc 3 _ rfl
      have c4 := hc 4 _ rfl
      have c5 := hc 5 _ rfl
      have c6 := hc 6 _ rfl
      clear hc
      have HK := Lib.hid hk
      obtain ⟨ka, kc, rfl⟩ := hk.shape
      clear hk
      go_wp2
      refine bodyPost_ret (v := ndV n (.slice ka n.kids.length kc)) (back_nd Tryd.results41 rfl (set_seven B1.out _ _ _ _ _ _ _)) rfl ⟨⟨_, rfl, ?_⟩, grown7 G.out HR2.out⟩
      exact (HK.out.kept fun b o u hb hu => set7_far hu (by have := HR2.out; have := hb.2; omega)).weak fun b _ hb => hb.1
    | cons n2 l =>
      have dz : (((l.length + 1 + 1 : Nat) : Int) == 0) = false := by simp; omega
      have d1 : (((l.length + 1 + 1 : Nat) : Int) == 1) = false := by simp; omega
      go_wp2
      refine bodyPost_ret (v := ndV (.mk m 0 emp (n :: n2 :: l)) (.slice a (n :: n2 :: l).length c)) (back_nd Tryd.results41 rfl (by have := set_seven B1.out (.int .i64 m) (.int .i64 0) (.int .u64 0) (.int .u64 0) (.int .u64 0) (.int .u64 0) (.slice a (n :: n2 :: l).length c); simpa [wd_emp, Nd.kind, Nd.index, Nd.set] using this)) rfl ⟨⟨_, rfl, ?_⟩, grown7 G.out HR2.out⟩
      exact (H1.out.kept fun b o u hb hu => set7_far hu (by have := HR2.out; have := hb.2; omega)).weak fun b _ hb => hb.1
end Go.Proofs.YtonbcldhbinmeaaDoor

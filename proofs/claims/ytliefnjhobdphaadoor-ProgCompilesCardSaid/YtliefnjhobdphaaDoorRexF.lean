/- Nodes in memory; the document's own one. The machine of signs: what its runs keep. -/
import Derived.Test.YtliefnjhobdphaaDoorRexD
namespace Go.Proofs.YtliefnjhobdphaaDoor
open Go.RowKit

def cells7 (n : Nd) (kv : Value) : List Value := [.int .i64 n.kind, .int .i64 n.index, .int .u64 (wd n.set 0), .int .u64 (wd n.set 1), .int .u64 (wd n.set 2), .int .u64 (wd n.set 3), kv]
abbrev ndV (n : Nd) (kv : Value) : Value := .agg #[.int .i64 n.kind, .int .i64 n.index, .int .u64 (wd n.set 0), .int .u64 (wd n.set 1), .int .u64 (wd n.set 2), .int .u64 (wd n.set 3), kv]
/-- a slice of nodes that lies in memory, in blocks that p lets -/
inductive KidsAt (w : World) (p : Nat → Prop) : Value → List Nd → Prop
  | empty (a : Option Addr) (c : Nat) : KidsAt w p (.slice a 0 c) []
  | items (b off c : Nat) (l : List Nd) (kv : Nat → Value) (hl : l ≠ []) (hp : p b) (hq : l.length ≤ c)
      (hc : ∀ k n, l[k]? = some n → ∀ j u, (cells7 n (kv k))[j]? = some u → w.cell? ⟨b, off + k * 7 + j, none⟩ = some u)
      (hk : ∀ k n, l[k]? = some n → KidsAt w p (kv k) n.kids) : KidsAt w p (.slice (some ⟨b, off, none⟩) l.length c) l
theorem KidsAt.kept {w w' : World} {p : Nat → Prop} {v : Value} {l : List Nd} (h : KidsAt w p v l) (hw : ∀ b off u, p b → w.cell? ⟨b, off, none⟩ = some u → w'.cell? ⟨b, off, none⟩ = some u) : KidsAt w' p v l := by
  induction h with
  | empty a c => exact .empty a c
  | items b off c l kv hl hp hq hc hk ih => exact .items b off c l kv hl hp hq (fun k n hn j u hu => hw _ _ _ hp (hc k n hn j u hu)) ih
theorem KidsAt.weak {w : World} {p q : Nat → Prop} {v : Value} {l : List Nd} (h : KidsAt w p v l) (hw : ∀ b, b < w.heap.size → p b → q b) : KidsAt w q v l := by
  induction h with
  | empty a c => exact .empty a c
  | items b off c l kv hl hp hq hc hk ih =>
    refine .items b off c l kv hl (hw b ?_ hp) hq hc ih
    cases l with
    | nil => exact absurd rfl hl
    | cons n l => exact cell_block (hc 0 n rfl 0 _ rfl)
theorem KidsAt.grown {w w' : World} {p : Nat → Prop} {v : Value} {l : List Nd} (h : KidsAt w p v l) (g : w.grownBy w' none) : KidsAt w' p v l :=
  h.kept fun _ _ _ _ hc => g.cell hc (by simp)
/-- kids that lie apart from a row that turns -/
theorem KidsAt.turn {w w' : World} {r : Option Nat} {v : Value} {l : List Nd} (h : KidsAt w (fun b => some b ≠ r) v l) (g : w.grownBy w' r) : KidsAt w' (fun b => some b ≠ r) v l :=
  h.kept fun _ _ _ hb hc => g.cell hc hb
theorem KidsAt.shape {w : World} {p : Nat → Prop} {v : Value} {l : List Nd} (h : KidsAt w p v l) : ∃ a c, v = .slice a l.length c := by
  cases h with
  | empty a c => exact ⟨a, c, rfl⟩
  | items b off c l kv hl hp hq hc hk => exact ⟨_, c, rfl⟩
theorem KidsAt.first {w : World} {p : Nat → Prop} {v : Value} {n : Nd} {l : List Nd} (h : KidsAt w p v (n :: l)) : ∃ b off c kv, v = .slice (some ⟨b, off, none⟩) (n :: l).length c ∧ (∀ j u, (cells7 n kv)[j]? = some u → w.cell? ⟨b, off + j, none⟩ = some u) ∧ KidsAt w p kv n.kids := by
  generalize hm : n :: l = m at h ⊢
  cases h with
  | empty a c => cases hm
  | items b off c l' kv hl hp hq hc hk =>
    subst hm
    exact ⟨b, off, c, kv 0, rfl, fun j u hu => by have := hc 0 n rfl j u hu; rwa [Nat.zero_mul, Nat.add_zero] at this, hk 0 n rfl⟩
/-- several nodes as one -/
def oneN (m : Nat) (l : List Nd) : Nd := match l with | [] => ndE | [n] => n | l => .mk m 0 emp l
theorem oneN_cat (l : List Nd) : oneN 2 l = catN l := rfl
theorem oneN_alt (l : List Nd) : oneN 3 l = altN l := rfl
theorem infoNd : (Tryd.prog.info? 32).map (fun i => (i.zero, i.size, i.bytes)) = some (some (.agg #[.int .i64 0, .int .i64 0, .int .u64 0, .int .u64 0, .int .u64 0, .int .u64 0, .slice none 0 0]), 7, 72) := by kernel_rfl
theorem seven_cells {w : World} {b : Nat} {v0 v1 v2 v3 v4 v5 v6 : Value} {t : TypeId} (h : w.heap[b]? = some (.cells #[v0, v1, v2, v3, v4, v5, v6] t (0, 0))) :
    w.cell? ⟨b, 0, none⟩ = some v0 ∧ w.cell? ⟨b, 1, none⟩ = some v1 ∧ w.cell? ⟨b, 2, none⟩ = some v2 ∧ w.cell? ⟨b, 3, none⟩ = some v3 ∧ w.cell? ⟨b, 4, none⟩ = some v4 ∧ w.cell? ⟨b, 5, none⟩ = some v5 ∧ w.cell? ⟨b, 6, none⟩ = some v6 := by
  refine ⟨?_, ?_, ?_, ?_, ?_, ?_, ?_⟩ <;> (unfold World.cell?; rw [h]; rfl)

theorem set_seven {w : World} {b : Nat} {a0 a1 a2 a3 a4 a5 a6 : Value} {t : TypeId} (h : w.heap[b]? = some (.cells #[a0, a1, a2, a3, a4, a5, a6] t (0, 0))) (v0 v1 v2 v3 v4 v5 v6 : Value) :
    (((((((w.setCell ⟨b, 0, none⟩ v0).setCell ⟨b, 1, none⟩ v1).setCell ⟨b, 2, none⟩ v2).setCell ⟨b, 3, none⟩ v3).setCell ⟨b, 4, none⟩ v4).setCell ⟨b, 5, none⟩ v5).setCell ⟨b, 6, none⟩ v6).heap[b]? = some (.cells #[v0, v1, v2, v3, v4, v5, v6] t (0, 0)) := by
  have h0 : (w.setCell ⟨b, 0, none⟩ v0).heap[b]? = some (.cells #[v0, a1, a2, a3, a4, a5, a6] t (0, 0)) := heap_setCell_same w b 0 _ _ v0 h
  generalize w.setCell ⟨b, 0, none⟩ v0 = w0 at h0 ⊢
  have h1 : (w0.setCell ⟨b, 1, none⟩ v1).heap[b]? = some (.cells #[v0, v1, a2, a3, a4, a5, a6] t (0, 0)) := heap_setCell_same w0 b 1 _ _ v1 h0
  generalize w0.setCell ⟨b, 1, none⟩ v1 = w1 at h1 ⊢
  have h2 : (w1.setCell ⟨b, 2, none⟩ v2).heap[b]? = some (.cells #[v0, v1, v2, a3, a4, a5, a6] t (0, 0)) := heap_setCell_same w1 b 2 _ _ v2 h1
  generalize w1.setCell ⟨b, 2, none⟩ v2 = w2 at h2 ⊢
  have h3 : (w2.setCell ⟨b, 3, none⟩ v3).heap[b]? = some (.cells #[v0, v1, v2, v3, a4, a5, a6] t (0, 0)) := heap_setCell_same w2 b 3 _ _ v3 h2
  generalize w2.setCell ⟨b, 3, none⟩ v3 = w3 at h3 ⊢
  have h4 : (w3.setCell ⟨b, 4, none⟩ v4).heap[b]? = some (.cells #[v0, v1, v2, v3, v4, a5, a6] t (0, 0)) := heap_setCell_same w3 b 4 _ _ v4 h3
  generalize w3.setCell ⟨b, 4, none⟩ v4 = w4 at h4 ⊢
  have h5 : (w4.setCell ⟨b, 5, none⟩ v5).heap[b]? = some (.cells #[v0, v1, v2, v3, v4, v5, a6] t (0, 0)) := heap_setCell_same w4 b 5 _ _ v5 h4
  generalize w4.setCell ⟨b, 5, none⟩ v5 = w5 at h5 ⊢
  exact heap_setCell_same w5 b 6 _ _ v6 h5
theorem set7_far {w : World} {b r o : Nat} {u v0 v1 v2 v3 v4 v5 v6 : Value} (h : w.cell? ⟨b, o, none⟩ = some u) (hb : b ≠ r) :
    (((((((w.setCell ⟨r, 0, none⟩ v0).setCell ⟨r, 1, none⟩ v1).setCell ⟨r, 2, none⟩ v2).setCell ⟨r, 3, none⟩ v3).setCell ⟨r, 4, none⟩ v4).setCell ⟨r, 5, none⟩ v5).setCell ⟨r, 6, none⟩ v6).cell? ⟨b, o, none⟩ = some u := by
  have st : ∀ (w : World) (j : Nat) (v : Value), w.cell? ⟨b, o, none⟩ = some u → (w.setCell ⟨r, j, none⟩ v).cell? ⟨b, o, none⟩ = some u := fun w j v hw => (World.cell?_setCell_far w ⟨r, j, none⟩ ⟨b, o, none⟩ _ (Ne.symm hb)).trans hw
  exact st _ 6 _ (st _ 5 _ (st _ 4 _ (st _ 3 _ (st _ 2 _ (st _ 1 _ (st _ 0 _ h))))))
theorem grown7 {w w1 : World} {b : Nat} {v0 v1 v2 v3 v4 v5 v6 : Value} (h : w.grownBy w1 none) (hb : w.heap.size ≤ b) :
    w.grownBy (((((((w1.setCell ⟨b, 0, none⟩ v0).setCell ⟨b, 1, none⟩ v1).setCell ⟨b, 2, none⟩ v2).setCell ⟨b, 3, none⟩ v3).setCell ⟨b, 4, none⟩ v4).setCell ⟨b, 5, none⟩ v5).setCell ⟨b, 6, none⟩ v6) none :=
  grown_set (grown_set (grown_set (grown_set (grown_set (grown_set (grown_set h _ _ hb) _ _ hb) _ _ hb) _ _ hb) _ _ hb) _ _ hb) _ _ hb
theorem under_nd : ∃ fs, Tryd.prog.underlying 32 = some (.struct fs) := ⟨_, Tryd.underlying32⟩
theorem sizeNd : (Tryd.prog.info? 32).map (·.size) = some 7 := by kernel_rfl
theorem back_nd {fn : Func} {p : Tmp} {w : World} {g : Nat} {n : Nd} {kv : Value} {tmps : Array Value} (hf : fn.results = #[.cell p 32])
    (hp : tmps.getD p undef = .pointer (some ⟨g, 0, none⟩)) (hg : w.heap[g]? = some (.cells #[.int .i64 n.kind, .int .i64 n.index, .int .u64 (wd n.set 0), .int .u64 (wd n.set 1), .int .u64 (wd n.set 2), .int .u64 (wd n.set 3), kv] 32 (0, 0))) :
    (results fn tmps).run Tryd.prog w = .ok (ndV n kv) w :=
  results_cell_row hf tmps w g _ _ _ _ hp hg Tryd.underlying32 rfl sizeNd

set_option maxRecDepth 100000 in
set_option maxHeartbeats 4000000 in
theorem cOne (m : Nat) (kv : Value) (l : List Nd) (p : Nat → Prop) (w : World) (h : KidsAt w p kv l) :
    Calls Tryd.prog 44 #[.int .i64 m, kv] w fun e w' => (∃ kw, e = .returned (ndV (oneN m l) kw) ∧ KidsAt w' p kw (oneN m l).kids) ∧ w.grownBy w' none := by
  have H := Lib.hid (h.weak (q := fun b => p b ∧ b < w.heap.size) fun b hb hp => ⟨hp, hb⟩)
  obtain ⟨a, c, rfl⟩ := h.shape
  clear h
  go_enter Tryd.func44, Tryd.ntmps44
  have B1 := Lib.hid (heap_alloc_new w (.cells #[.int .i64 0, .int .i64 0, .int .u64 0, .int .u64 0, .int .u64 0, .int .u64 0, .slice none 0 0] 32))
  have G := Lib.hid (World.grownBy_alloc w (.cells #[.int .i64 0, .int .i64 0, .int .u64 0, .int .u64 0, .int .u64 0, .int .u64 0, .slice none 0 0] 32) none)
  have HR := Lib.hid (Nat.le_refl w.heap.size)
  go_upto_region 1 with fail
  generalize hr : w.heap.size = r at B1 HR ⊢
  have HR2 := Lib.hid (show w.heap.size ≤ r by omega)
  clear HR hr
  have H1 := Lib.hid (H.out.grown G.out)
  generalize w.alloc _ = w1 at B1 G H1 ⊢
  obtain ⟨r0, r1, r2, r3, r4, r5, r6⟩ := seven_cells B1.out
  have fr := four_free B1.out
  cases l with
  | nil =>
    go_wp2
    refine bodyPost_ret (v := ndV ndE (.slice none 0 0)) (back_nd Tryd.results44 rfl (set_seven B1.out _ _ _ _ _ _ _)) rfl ⟨⟨_, rfl, .empty none 0⟩, ?_⟩
    exact grown7 G.out HR2.out
  | cons n l =>
    cases l with
    | nil =>
      obtain ⟨b, off, c', kv, e, hc, hk⟩ := H1.out.first
      cases e
      have c0 : w1.cell? ⟨b, off, none⟩ = some (.int .i64 n.kind) := hc 0 _ rfl
      have c1 := hc 1 _ rfl
      have c2 := hc 2 _ rfl
      have c3 := hc 3 _ rfl
      have c4 := hc 4 _ rfl
      have c5 := hc 5 _ rfl
      have c6 := hc 6 _ rfl
      clear hc
      have HK := Lib.hid hk
      obtain ⟨ka, kc, rfl⟩ := hk.shape
      clear hk
      go_wp2
      refine bodyPost_ret (v := ndV n (.slice ka n.kids.length kc)) (back_nd Tryd.results44 rfl (set_seven B1.out _ _ _ _ _ _ _)) rfl ⟨⟨_, rfl, ?_⟩, grown7 G.out HR2.out⟩
      exact (HK.out.kept fun b o u hb hu => set7_far hu (by have := HR2.out; have := hb.2; omega)).weak fun b _ hb => hb.1
    | cons n2 l =>
      have dz : (((l.length + 1 + 1 : Nat) : Int) == 0) = false := by simp; omega
      have d1 : (((l.length + 1 + 1 : Nat) : Int) == 1) = false := by simp; omega
      go_wp2
      refine bodyPost_ret (v := ndV (.mk m 0 emp (n :: n2 :: l)) (.slice a (n :: n2 :: l).length c)) (back_nd Tryd.results44 rfl (by have := set_seven B1.out (.int .i64 m) (.int .i64 0) (.int .u64 0) (.int .u64 0) (.int .u64 0) (.int .u64 0) (.slice a (n :: n2 :: l).length c); simpa [wd_emp, Nd.kind, Nd.index, Nd.set] using this)) rfl ⟨⟨_, rfl, ?_⟩, grown7 G.out HR2.out⟩
      exact (H1.out.kept fun b o u hb hu => set7_far hu (by have := HR2.out; have := hb.2; omega)).weak fun b _ hb => hb.1
end Go.Proofs.YtliefnjhobdphaaDoor

namespace Go.Proofs.YtliefnjhobdphaaDoor
open Go.RowKit

def clsC (l : List Sg) : Nat := l.countP (fun x => x.m == 41)
def dep (l : List Sg) : Int := (opnC l : Int) - clsC l
theorem dep_nil : dep [] = 0 := rfl
theorem opn_append (l r : List Sg) : opnC (l ++ r) = opnC l + opnC r := by unfold opnC; exact List.countP_append
theorem dep_append (l r : List Sg) : dep (l ++ r) = dep l + dep r := by unfold dep opnC clsC; rw [List.countP_append, List.countP_append]; omega
theorem opn_cons (x : Sg) (l : List Sg) : opnC (x :: l) = (if x.m = 40 then 1 else 0) + opnC l := by
  unfold opnC; rw [List.countP_cons]; by_cases h : x.m = 40 <;> simp [h]; omega
theorem dep_cons (x : Sg) (l : List Sg) : dep (x :: l) = (if x.m = 40 then 1 else 0) - (if x.m = 41 then 1 else 0) + dep l := by
  unfold dep opnC clsC; rw [List.countP_cons, List.countP_cons]
  by_cases h : x.m = 40
  · have h' : ¬ x.m = 41 := by omega
    simp [h]; omega
  · by_cases h' : x.m = 41
    · simp [h']; omega
    · simp [h, h']
/-- what one step does to the frames and the count -/
theorem step_len {x : Sg} {q q' : Mc} (h : stepM x q = some q') : (q'.st.length : Int) = q.st.length + (if x.m = 40 then 1 else 0) - (if x.m = 41 then 1 else 0) ∧ q'.c = q.c + (if x.m = 40 then 1 else 0) := by
  unfold stepM at h
  split at h
  · rename_i e; cases h; simp [e]
  split at h
  · rename_i e; cases h; simp [e]
  split at h
  · rename_i e; cases h; simp [e]
  split at h
  · rename_i e
    have a : x.m ≠ 40 := by omega
    have b : x.m ≠ 41 := by omega
    split at h
    · cases h
    · cases h; simp [a, b]
  split at h
  · rename_i e; cases h; simp [e]
  split at h
  · rename_i e; cases h; simp [e]
  split at h
  · rename_i e
    split at h
    · cases h
    · rename_i hs; cases h; simp [e, hs]
  · cases h
theorem step_close {x : Sg} {q : Mc} (h : x.m = 41) (hs : q.st = []) : stepM x q = none := by
  unfold stepM; simp [h, hs]
/-- frames laid under -/
def liftF (s0 : List (List Nd × List Nd × Nat)) (q : Mc) : Mc := { q with st := q.st ++ s0 }
theorem step_lift (s0 : List (List Nd × List Nd × Nat)) {x : Sg} {q : Mc} (h : x.m = 41 → q.st ≠ []) : stepM x (liftF s0 q) = (stepM x q).map (liftF s0) := by
  obtain ⟨st, al, it, c⟩ := q
  unfold stepM liftF
  by_cases h0 : x.m = 0
  · simp [h0]
  by_cases h1 : x.m = 94
  · simp [h1]
  by_cases h2 : x.m = 36
  · simp [h2]
  by_cases h3 : x.m = 42 ∨ x.m = 43 ∨ x.m = 63
  · simp only [h0, h1, h2, h3, if_true, if_false]
    cases it.getLast? <;> rfl
  by_cases h4 : x.m = 124
  · simp [h4]
  by_cases h5 : x.m = 40
  · simp [h5]
  by_cases h6 : x.m = 41
  · have hs := h h6
    simp only [h6, if_true]
    cases st with
    | nil => exact absurd rfl hs
    | cons f r => obtain ⟨a, i, n⟩ := f; simp
  · simp [h0, h1, h2, h3, h4, h5, h6]
theorem run_lift (s0 : List (List Nd × List Nd × Nat)) (l : List Sg) : ∀ q : Mc, (∀ k, k ≤ l.length → 0 ≤ (q.st.length : Int) + dep (l.take k)) → runM l (liftF s0 q) = (runM l q).map (liftF s0) := by
  induction l with
  | nil => intro q _; rfl
  | cons x l ih =>
    intro q h
    have h1 := h 1 (by simp)
    rw [show (x :: l).take 1 = [x] by simp, dep_cons, dep_nil] at h1
    show (stepM x (liftF s0 q)).bind (runM l) = ((stepM x q).bind (runM l)).map (liftF s0)
    rw [step_lift s0 (by intro e hs; rw [hs] at h1; simp [e] at h1)]
    cases hq : stepM x q with
    | none => rfl
    | some q' =>
      have := (step_len hq).1
      refine ih q' fun k hk => ?_
      have hk' := h (k + 1) (by simp; omega)
      rw [List.take_succ_cons, dep_cons] at hk'
      omega
theorem run_len {l : List Sg} : ∀ {q q' : Mc}, runM l q = some q' → (q'.st.length : Int) = q.st.length + dep l ∧ q'.c = q.c + opnC l := by
  induction l with
  | nil => intro q q' h; cases h; simp [dep_nil, opnC]
  | cons x l ih =>
    intro q q' h
    have h : (stepM x q).bind (runM l) = some q' := h
    cases hq : stepM x q with
    | none => rw [hq] at h; cases h
    | some q1 =>
      rw [hq] at h
      obtain ⟨a, b⟩ := step_len hq
      obtain ⟨a', b'⟩ := ih h
      rw [dep_cons, opn_cons]
      omega
/-- a run that goes through closes nothing that did not open -/
theorem run_pre {l : List Sg} {q q' : Mc} (h : runM l q = some q') (k : Nat) (_ : k ≤ l.length) : 0 ≤ (q.st.length : Int) + dep (l.take k) := by
  rw [← List.take_append_drop k l, runM_append] at h
  cases hq : runM (l.take k) q with
  | none => rw [hq] at h; cases h
  | some q1 => have := (run_len hq).1; omega
/-- a group -/
theorem run_group {a b : Sg} {m : List Sg} (q : Mc) (ha : a.m = 40) (hb : b.m = 41) (h : ∀ k, k ≤ m.length → 0 ≤ dep (m.take k)) (h0 : dep m = 0) :
    runM (a :: m ++ [b]) q = (resE m (q.c + 1)).map fun n => { q with it := q.it ++ [.mk 7 (q.c + 1) emp [n]], c := q.c + 1 + opnC m } := by
  have e1 : stepM a q = some (liftF ((q.al, q.it, q.c + 1) :: q.st) ⟨[], [], [], q.c + 1⟩) := by unfold stepM liftF; simp [ha]
  show (stepM a q).bind (runM (m ++ [b])) = _
  rw [e1]
  show runM (m ++ [b]) _ = _
  rw [runM_append, run_lift _ m _ (fun k hk => by have := h k hk; simpa using this)]
  unfold resE
  cases hm : runM m ⟨[], [], [], q.c + 1⟩ with
  | none => rfl
  | some q1 =>
    obtain ⟨l1, c1⟩ := run_len hm
    obtain ⟨st, al, it, c⟩ := q1
    have hst : st = [] := List.eq_nil_of_length_eq_zero (by simp at l1; omega)
    subst hst
    simp only at c1
    subst c1
    show (stepM b _).bind (runM []) = _
    unfold stepM liftF
    simp [hb, runM]
/-- branches laid ahead of the outermost ones -/
def liftS (acc : List Nd) : List (List Nd × List Nd × Nat) → List (List Nd × List Nd × Nat)
  | [] => []
  | [(al, it, i)] => [(acc ++ al, it, i)]
  | f :: g :: r => f :: liftS acc (g :: r)
def liftA (acc : List Nd) (q : Mc) : Mc := ⟨liftS acc q.st, if q.st = [] then acc ++ q.al else q.al, q.it, q.c⟩
theorem step_liftA (acc : List Nd) (x : Sg) (q : Mc) : stepM x (liftA acc q) = (stepM x q).map (liftA acc) := by
  obtain ⟨st, al, it, c⟩ := q
  unfold stepM liftA
  by_cases h0 : x.m = 0
  · simp [h0]
  by_cases h1 : x.m = 94
  · simp [h1]
  by_cases h2 : x.m = 36
  · simp [h2]
  by_cases h3 : x.m = 42 ∨ x.m = 43 ∨ x.m = 63
  · simp only [h0, h1, h2, h3, if_true, if_false]
    cases it.getLast? <;> rfl
  by_cases h4 : x.m = 124
  · simp [h4]; split <;> simp
  by_cases h5 : x.m = 40
  · simp [h5]
    cases st with
    | nil => simp [liftS]
    | cons f r => obtain ⟨a, i, n⟩ := f; simp [liftS]
  by_cases h6 : x.m = 41
  · simp only [h6, if_true]
    cases st with
    | nil => simp [liftS]
    | cons f r =>
      obtain ⟨a, i, n⟩ := f
      cases r with
      | nil => simp [liftS]
      | cons g r => simp [liftS]
  · simp [h0, h1, h2, h3, h4, h5, h6]
theorem run_liftA (acc : List Nd) (l : List Sg) : ∀ q : Mc, runM l (liftA acc q) = (runM l q).map (liftA acc) := by
  induction l with
  | nil => intro q; rfl
  | cons x l ih =>
    intro q
    show (stepM x (liftA acc q)).bind (runM l) = ((stepM x q).bind (runM l)).map (liftA acc)
    rw [step_liftA]
    cases stepM x q with
    | none => rfl
    | some q' => exact ih q'
/-- the branches that are done outside of all brackets -/
def botA (q : Mc) : List Nd := match q.st.getLast? with | none => q.al | some (al, _, _) => al
theorem step_bot {x : Sg} {q q' : Mc} (h : stepM x q = some q') (hb : x.m = 124 → q.st ≠ []) : botA q' = botA q := by
  obtain ⟨st, al, it, c⟩ := q
  unfold stepM at h
  split at h
  · cases h; rfl
  split at h
  · cases h; rfl
  split at h
  · cases h; rfl
  split at h
  · split at h
    · cases h
    · cases h; rfl
  split at h
  · rename_i e
    cases h
    have := hb e
    unfold botA
    cases st with
    | nil => exact absurd rfl this
    | cons f r => simp [List.getLast?_cons]
  split at h
  · cases h
    unfold botA
    cases st with
    | nil => simp
    | cons f r => simp [List.getLast?_cons]
  split at h
  · split at h
    · cases h
    · rename_i al2 it2 i2 r hs
      simp only at hs
      cases h
      subst hs
      unfold botA
      cases r with
      | nil => simp
      | cons g r => simp [List.getLast?_cons]
  · cases h
theorem run_bot {l : List Sg} : ∀ {q q' : Mc}, runM l q = some q' → (∀ k x, l[k]? = some x → x.m = 124 → (q.st.length : Int) + dep (l.take k) ≠ 0) → botA q' = botA q := by
  induction l with
  | nil => intro q q' h _; cases h; rfl
  | cons x l ih =>
    intro q q' h hb
    have h : (stepM x q).bind (runM l) = some q' := h
    cases hq : stepM x q with
    | none => rw [hq] at h; cases h
    | some q1 =>
      rw [hq] at h
      have a := (step_len hq).1
      have e1 := step_bot hq (fun e hs => hb 0 x rfl e (by rw [hs]; simp [dep_nil]))
      have e2 := ih h (fun k y hy e => by
        have := hb (k + 1) y (by simpa using hy) e
        rw [List.take_succ_cons, dep_cons] at this
        omega)
      rw [e2, e1]
end Go.Proofs.YtliefnjhobdphaaDoor

/- The walk through a text in memory: its variable, what is to be done here and at the next place, the list, all steps; what a store, and an append, leave of it. -/
import Derived.Test.YtlkjejmmoalliaaGreatDoorDenRnd
import Derived.Laws.EntriesVeiled
namespace Go.Proofs.YtlkjejmmoalliaaGreatDoor
open Go.RowKit

/-- the place that a step that is done once was at last -/
def Been (F : List (Nat × Nat)) (u : Nat) (z : Int) : Prop := (∀ q, (u, q) ∈ F → (q : Int) ≤ z) ∧ (z = -1 ∨ ∃ q : Nat, z = q ∧ (u, q) ∈ F)
theorem Been.here {F : List (Nat × Nat)} {u p : Nat} {z : Int} (h : Been F u z) (hle : ∀ x ∈ F, x.2 ≤ p) : z = p ↔ (u, p) ∈ F := by
  constructor
  · intro e
    rcases h.2 with h1 | ⟨q, h1, h2⟩
    · omega
    · have : q = p := by omega
      exact this ▸ h2
  · intro hm
    have := h.1 p hm
    rcases h.2 with h1 | ⟨q, h1, h2⟩
    · omega
    · have h3 := hle _ h2
      simp only at h3
      omega
theorem Been.other {F : List (Nat × Nat)} {u u' p : Nat} {z : Int} (h : Been F u z) (hu : u ≠ u') : Been (F ++ [(u', p)]) u z := by
  have e : ∀ q, (u, q) ∈ F ++ [(u', p)] ↔ (u, q) ∈ F := fun q => by
    rw [List.mem_append]
    constructor
    · rintro (h | h)
      · exact h
      · simp at h; exact absurd h.1 hu
    · exact .inl
  exact ⟨fun q hq => h.1 q ((e q).1 hq), h.2.imp_right fun ⟨q, h1, h2⟩ => ⟨q, h1, (e q).2 h2⟩⟩
theorem Been.now {F : List (Nat × Nat)} {u p : Nat} (hle : ∀ x ∈ F, x.2 ≤ p) : Been (F ++ [(u, p)]) u p := by
  refine ⟨fun q hq => ?_, .inr ⟨p, rfl, by simp⟩⟩
  rcases List.mem_append.1 hq with h | h
  · have := hle _ h; simp only at this; omega
  · simp at h; omega
abbrev outV (G : List Pr) (F : List (Nat × Nat)) : List Value := (outF G F).map fun r => Value.int .i64 (r : Nat)
/-- the walk: P its variable, Lb the list's; hs, ns the steps here and at the next place, that are H, N -/
structure StW (w0 wb : World) (base P Lb : Nat) (s : ByteArray) (G : List Pr) (X : List (Value × Option Nat)) (fz : Nat → Prop) (F : List (Nat × Nat)) (p : Nat) (vh : Value) (hs : List Value) (H : List (List Nat)) (vn : Value) (ns : List Value) (N : List (List Nat)) (vl : Value) (w : World) : Prop where
  gr : w0.grownBy w none
  bs : base ≤ w.heap.size
  hP : w0.heap.size ≤ P ∧ P < base
  hL : w0.heap.size ≤ Lb ∧ Lb < base
  wP : w.heap[P]? = some (.cells #[.string s, .int .i64 p, vh, vn] 93 (0, 0))
  wL : w.heap[Lb]? = some (.cells #[vl] 37 (0, 0))
  oH : w.ownsRow base 94 1 vh hs.length hs
  oN : w.ownsRow base 94 1 vn ns.length ns
  oL : w.ownsRow base 3 1 vl (outV G F).length (outV G F)
  ap : ∀ g, vh.ownBlock = some g → vn.ownBlock ≠ some g
  lH : hs.length = H.length
  lN : ns.length = N.length
  aH : ∀ (i : Nat) (v : Value) (l : List Nat), hs[i]? = some v → H[i]? = some l → ActV w fz X v l
  aN : ∀ (i : Nat) (v : Value) (l : List Nat), ns[i]? = some v → N[i]? = some l → ActV w fz X v l
  rep : ∀ (u : Nat) (pr : Pr) (x : Value × Option Nat), G[u]? = some pr → X[u]? = some x → PrimRep w fz P X x pr
  ad : ∃ bw, X[0]? = some (clo 43 #[ptrV Lb, ptrV bw], none) ∧ Bx w fz bw (ptrV P) 90
  a0 : ∀ u, G[u]? = some Pr.add → u = 0
  be : ∀ (u : Nat) (t : List Nat), G[u]? = some (.once t) → ∃ v bb z, X[u]? = some (v, some bb) ∧ w.heap[bb]? = some (.cells #[.int .i64 z] 3 (0, 0)) ∧ Been F u z
  inj : ∀ (u u' : Nat) (v v' : Value) (bb : Nat), X[u]? = some (v, some bb) → X[u']? = some (v', some bb) → u = u'
  sep : ∀ b, fz b → b < base ∧ b ≠ P ∧ b ≠ Lb ∧ ∀ (u : Nat) (v : Value), X[u]? ≠ some (v, some b)
  bsp : ∀ (u : Nat) (v : Value) (bb : Nat), X[u]? = some (v, some bb) → w0.heap.size ≤ bb ∧ bb < base ∧ bb ≠ P ∧ bb ≠ Lb
  ln : X.length = G.length
  le : ∀ x ∈ F, x.2 ≤ p
  fx : ∀ b, fz b → w.heap[b]? = wb.heap[b]?
section
variable {w0 wb w w' w7 : World} {base P Lb p : Nat} {s : ByteArray} {G : List Pr} {X : List (Value × Option Nat)} {fz : Nat → Prop} {F F' : List (Nat × Nat)} {vh vn vl : Value} {hs ns : List Value} {H N : List (List Nat)}
theorem StW.turn (h : StW w0 wb base P Lb s G X fz F p vh hs H vn ns N vl w) {p' : Nat} {vh' vn' vl' : Value} {hs' ns' : List Value} {H' N' : List (List Nat)} (gr : w0.grownBy w' none) (bs : base ≤ w'.heap.size) (hz : ∀ b, fz b → w'.heap[b]? = w.heap[b]?)
    (P' : w'.heap[P]? = some (.cells #[.string s, .int .i64 p', vh', vn'] 93 (0, 0))) (L' : w'.heap[Lb]? = some (.cells #[vl'] 37 (0, 0)))
    (oH : w'.ownsRow base 94 1 vh' hs'.length hs') (oN : w'.ownsRow base 94 1 vn' ns'.length ns') (oL : w'.ownsRow base 3 1 vl' (outV G F').length (outV G F')) (ap : ∀ g, vh'.ownBlock = some g → vn'.ownBlock ≠ some g)
    (lH : hs'.length = H'.length) (lN : ns'.length = N'.length) (aH : ∀ (i : Nat) (v : Value) (l : List Nat), hs'[i]? = some v → H'[i]? = some l → ActV w fz X v l) (aN : ∀ (i : Nat) (v : Value) (l : List Nat), ns'[i]? = some v → N'[i]? = some l → ActV w fz X v l)
    (be : ∀ (u : Nat) (t : List Nat), G[u]? = some (.once t) → ∃ v bb z, X[u]? = some (v, some bb) ∧ w'.heap[bb]? = some (.cells #[.int .i64 z] 3 (0, 0)) ∧ Been F' u z) (le : ∀ x ∈ F', x.2 ≤ p') : StW w0 wb base P Lb s G X fz F' p' vh' hs' H' vn' ns' N' vl' w' := by
  have hm : ∀ b, fz b → fz b ∧ w'.heap[b]? = w.heap[b]? := fun b hb => ⟨hb, hz b hb⟩
  obtain ⟨bw, h1, h2⟩ := h.ad
  exact ⟨gr, bs, h.hP, h.hL, P', L', oH, oN, oL, ap, lH, lN, fun i v l h1 h2 => (aH i v l h1 h2).move hm, fun i v l h1 h2 => (aN i v l h1 h2).move hm, fun u pr x h1 h2 => (h.rep u pr x h1 h2).move hm, ⟨bw, h1, h2.move hm⟩, h.a0, be, h.inj, h.sep, h.bsp, h.ln, le, fun b hb => (hz b hb).trans (h.fx b hb)⟩
theorem StW.ltP (h : StW w0 wb base P Lb s G X fz F p vh hs H vn ns N vl w) : P < w.heap.size := cells_lt h.wP
theorem StW.ltL (h : StW w0 wb base P Lb s G X fz F p vh hs H vn ns N vl w) : Lb < w.heap.size := cells_lt h.wL
/-- new blocks -/
theorem StW.grown (h : StW w0 wb base P Lb s G X fz F p vh hs H vn ns N vl w) (g : w.grownBy w' none) : StW w0 wb base P Lb s G X fz F p vh hs H vn ns N vl w' := by
  have nn : ∀ v : Value, v.ownBlock = none ∨ v.ownBlock ≠ none := fun v => by cases v.ownBlock <;> simp
  refine h.turn (h.gr.trans g) (Nat.le_trans h.bs g.size) (fun b hb => g.block b (by have := (h.sep b hb).1; have := h.bs; omega) (by simp)) (heap_grown g h.wP) (heap_grown g h.wL) (h.oH.kept g (nn _)) (h.oN.kept g (nn _)) (h.oL.kept g (nn _)) h.ap h.lH h.lN h.aH h.aN ?_ h.le
  intro u t hu
  obtain ⟨v, bb, z, h1, h2, h3⟩ := h.be u t hu
  exact ⟨v, bb, z, h1, heap_grown g h2, h3⟩
/-- a place's variable is given the place -/
theorem StW.mark (h : StW w0 wb base P Lb s G X fz F p vh hs H vn ns N vl w) {u bb : Nat} {t : List Nat} {v : Value} (hu : G[u]? = some (.once t)) (hx : X[u]? = some (v, some bb)) :
    StW w0 wb base P Lb s G X fz (F ++ [(u, p)]) p vh hs H vn ns N vl (w.setCell ⟨bb, 0, none⟩ (.int .i64 p)) := by
  obtain ⟨v', bb', z, h1, h2, -⟩ := h.be u t hu
  rw [hx] at h1; cases h1
  have hb := h.bsp u v bb hx
  have g := grown_cell w bb 0 (.int .i64 p)
  have ho : outV G (F ++ [(u, p)]) = outV G F := by
    unfold outV; rw [outF_snoc, if_neg (by unfold isAdd; rw [hu]; simp), List.append_nil]
  have nH : vh.ownBlock ≠ some bb := own_type h.oH h2 (by decide)
  have nN : vn.ownBlock ≠ some bb := own_type h.oN h2 (by decide)
  have nL : vl.ownBlock ≠ some bb := fun e => by have := (h.oL.lt bb e).1; omega
  have hle : ∀ x ∈ F ++ [(u, p)], x.2 ≤ p := fun x hx => by
    rcases List.mem_append.1 hx with hx | hx
    · exact h.le x hx
    · simp at hx; subst hx; exact Nat.le_refl _
  refine h.turn (grown_set h.gr 0 _ hb.1) (by rw [World.size_setCell]; exact h.bs) (fun b hf => heap_setCell_other w ⟨bb, 0, none⟩ b _ (fun e => (h.sep b hf).2.2.2 u v (by have e : b = bb := e; rw [e]; exact hx)))
    ((heap_setCell_other w ⟨bb, 0, none⟩ P _ (fun e => hb.2.2.1 e.symm)).trans h.wP) ((heap_setCell_other w ⟨bb, 0, none⟩ Lb _ (fun e => hb.2.2.2 e.symm)).trans h.wL) (h.oH.kept g (.inr nH)) (h.oN.kept g (.inr nN)) (by rw [ho]; exact h.oL.kept g (.inr nL)) h.ap h.lH h.lN h.aH h.aN ?_ hle
  intro u' t' hu'
  obtain ⟨v', bb', z', h1', h2', h3'⟩ := h.be u' t' hu'
  by_cases e : u' = u
  · subst e
    rw [hx] at h1'; cases h1'
    exact ⟨v, bb, p, hx, heap_setCell_same w bb 0 _ _ _ h2, Been.now h.le⟩
  · exact ⟨v', bb', z', h1', (heap_setCell_other w ⟨bb, 0, none⟩ bb' _ (fun e2 => e (h.inj u' u v' v bb (by have e2 : bb' = bb := e2; rw [← e2]; exact h1') hx))).trans h2', h3'.other e⟩
/-- the parts that an append to one of the rows leaves -/
theorem StW.rows (h : StW w0 wb base P Lb s G X fz F p vh hs H vn ns N vl w) {row : Option Nat} (g : w.grownBy w7 row) (hr : ∀ k, row = some k → base ≤ k) :
    w0.grownBy w7 none ∧ base ≤ w7.heap.size ∧ (∀ b, fz b → w7.heap[b]? = w.heap[b]?) ∧ w7.heap[P]? = w.heap[P]? ∧ w7.heap[Lb]? = w.heap[Lb]? ∧ ∀ (u : Nat) (v : Value) (bb : Nat), X[u]? = some (v, some bb) → bb < w.heap.size → w7.heap[bb]? = w.heap[bb]? := by
  have hne : ∀ k, k < base → some k ≠ row := fun k hk e => by have := hr k e.symm; omega
  have hPb := h.hP; have hLb := h.hL; have hbs := h.bs
  refine ⟨h.gr.andThen g (fun k e => .inl (by have := hr k e; omega)), Nat.le_trans hbs g.size, fun b hb => ?_, g.block P h.ltP (hne P hPb.2), g.block Lb h.ltL (hne Lb hLb.2), fun u v bb hx hlt => g.block bb hlt (hne bb (h.bsp u v bb hx).2.1)⟩
  have := (h.sep b hb).1
  exact g.block b (by omega) (hne b this)
theorem snoc_get {α : Type} {hs : List Value} {H : List α} {v v' : Value} {t l : α} {i : Nat} (hl : hs.length = H.length) (h1 : (hs ++ [v])[i]? = some v') (h2 : (H ++ [t])[i]? = some l) : (hs[i]? = some v' ∧ H[i]? = some l) ∨ (v' = v ∧ l = t) := by
  rw [List.getElem?_append] at h1 h2
  rw [← hl] at h2
  split at h1
  · rename_i hi; rw [if_pos hi] at h2; exact .inl ⟨h1, h2⟩
  · rename_i hi
    rw [if_neg hi] at h2
    have e0 : i - hs.length = 0 := by
      rcases Nat.eq_zero_or_pos (i - hs.length) with h | h
      · exact h
      · rw [List.getElem?_eq_none (by simp; omega)] at h1; cases h1
    rw [e0] at h1 h2
    simp at h1 h2
    exact .inr ⟨h1.symm, h2.symm⟩
/-- one more to be done here -/
theorem StW.pushH (h : StW w0 wb base P Lb s G X fz F p vh hs H vn ns N vl w) {v : Value} {t : List Nat} (hv : ActV w fz X v t) {gg cap : Nat} (hown : w7.ownsRow base 94 1 (.slice (some ⟨gg, 0, none⟩) (hs.length + 1) cap) (hs.length + 1) (hs ++ [v]))
    (g : w.grownBy w7 vh.ownBlock) (hat : vh.ownBlock = some gg ∨ w.heap.size ≤ gg) (hout : outV G F' = outV G F) (hbe : ∀ (u : Nat) (t : List Nat) (z : Int), G[u]? = some (.once t) → Been F u z → Been F' u z) (hle : ∀ x ∈ F', x.2 ≤ p) :
    StW w0 wb base P Lb s G X fz F' p (.slice (some ⟨gg, 0, none⟩) (hs.length + 1) cap) (hs ++ [v]) (H ++ [t]) vn ns N vl (w7.setCell ⟨P, 2, none⟩ (.slice (some ⟨gg, 0, none⟩) (hs.length + 1) cap)) := by
  obtain ⟨r1, r2, r3, r4, r5, r6⟩ := h.rows g (fun k e => (h.oH.lt k e).1)
  have P7 := r4.trans h.wP
  have L7 := r5.trans h.wL
  have gs := grown_cell w7 P 2 (.slice (some ⟨gg, 0, none⟩) (hs.length + 1) cap)
  have hgg : base ≤ gg := by
    rcases hat with e | e
    · exact (h.oH.lt gg e).1
    · have := h.bs; omega
  have nN : vn.ownBlock = none ∨ vn.ownBlock ≠ vh.ownBlock := by
    cases e : vh.ownBlock with
    | none => cases vn.ownBlock <;> simp
    | some k => exact .inr (h.ap k e)
  have hPL : Lb ≠ P := fun e => by have := L7; rw [e, P7] at this; simp at this
  have hPb := h.hP
  refine h.turn (grown_set r1 2 _ h.hP.1) (by rw [World.size_setCell]; exact r2) (fun b hb => (heap_setCell_other w7 ⟨P, 2, none⟩ b _ (h.sep b hb).2.1).trans (r3 b hb)) (heap_setCell_same w7 P 2 _ _ _ P7)
    ((heap_setCell_other w7 ⟨P, 2, none⟩ Lb _ hPL).trans L7) ?_ ((h.oN.kept g nN).kept gs (.inr (own_type (h.oN.kept g nN) P7 (by decide)))) ?_ ?_ (by simp [h.lH]) h.lN (fun i v' l h1 h2 => ?_) h.aN ?_ hle
  · rw [List.length_append]; exact hown.kept gs (.inr (fun e => by have e : gg = P := by simpa [Value.ownBlock] using e
                                                                   omega))
  · rw [hout]
    have nL : vl.ownBlock = none ∨ vl.ownBlock ≠ vh.ownBlock := own_row h.oL h.oH (by decide)
    exact (h.oL.kept g nL).kept gs (.inr (own_type (h.oL.kept g nL) P7 (by decide)))
  · intro k e hn
    have e1 : gg = k := by simpa [Value.ownBlock] using e
    subst e1
    rcases hat with hat | hat
    · exact h.ap gg hat hn
    · have := (h.oN.lt gg hn).2; omega
  · rcases snoc_get h.lH h1 h2 with ⟨h1, h2⟩ | ⟨rfl, rfl⟩
    · exact h.aH i v' l h1 h2
    · exact hv
  · intro u t' hu
    obtain ⟨v', bb, z, h1, h2, h3⟩ := h.be u t' hu
    exact ⟨v', bb, z, h1, ((heap_setCell_other w7 ⟨P, 2, none⟩ bb _ (h.bsp u v' bb h1).2.2.1).trans (r6 u v' bb h1 (cells_lt h2))).trans h2, hbe u t' z hu h3⟩
/-- one more to be done at the next place -/
theorem StW.pushN (h : StW w0 wb base P Lb s G X fz F p vh hs H vn ns N vl w) {v : Value} {t : List Nat} (hv : ActV w fz X v t) {gg cap : Nat} (hown : w7.ownsRow base 94 1 (.slice (some ⟨gg, 0, none⟩) (ns.length + 1) cap) (ns.length + 1) (ns ++ [v]))
    (g : w.grownBy w7 vn.ownBlock) (hat : vn.ownBlock = some gg ∨ w.heap.size ≤ gg) (hout : outV G F' = outV G F) (hbe : ∀ (u : Nat) (t : List Nat) (z : Int), G[u]? = some (.once t) → Been F u z → Been F' u z) (hle : ∀ x ∈ F', x.2 ≤ p) :
    StW w0 wb base P Lb s G X fz F' p vh hs H (.slice (some ⟨gg, 0, none⟩) (ns.length + 1) cap) (ns ++ [v]) (N ++ [t]) vl (w7.setCell ⟨P, 3, none⟩ (.slice (some ⟨gg, 0, none⟩) (ns.length + 1) cap)) := by
  obtain ⟨r1, r2, r3, r4, r5, r6⟩ := h.rows g (fun k e => (h.oN.lt k e).1)
  have P7 := r4.trans h.wP
  have L7 := r5.trans h.wL
  have gs := grown_cell w7 P 3 (.slice (some ⟨gg, 0, none⟩) (ns.length + 1) cap)
  have hgg : base ≤ gg := by
    rcases hat with e | e
    · exact (h.oN.lt gg e).1
    · have := h.bs; omega
  have nH : vh.ownBlock = none ∨ vh.ownBlock ≠ vn.ownBlock := by
    cases e : vh.ownBlock with
    | none => exact .inl rfl
    | some k => exact .inr (fun e2 => h.ap k e e2.symm)
  have hPL : Lb ≠ P := fun e => by have := L7; rw [e, P7] at this; simp at this
  have hPb := h.hP
  refine h.turn (grown_set r1 3 _ h.hP.1) (by rw [World.size_setCell]; exact r2) (fun b hb => (heap_setCell_other w7 ⟨P, 3, none⟩ b _ (h.sep b hb).2.1).trans (r3 b hb)) (heap_setCell_same w7 P 3 _ _ _ P7)
    ((heap_setCell_other w7 ⟨P, 3, none⟩ Lb _ hPL).trans L7) ((h.oH.kept g nH).kept gs (.inr (own_type (h.oH.kept g nH) P7 (by decide)))) ?_ ?_ ?_ h.lH (by simp [h.lN]) h.aH (fun i v' l h1 h2 => ?_) ?_ hle
  · rw [List.length_append]; exact hown.kept gs (.inr (fun e => by have e : gg = P := by simpa [Value.ownBlock] using e
                                                                   omega))
  · rw [hout]
    have nL : vl.ownBlock = none ∨ vl.ownBlock ≠ vn.ownBlock := own_row h.oL h.oN (by decide)
    exact (h.oL.kept g nL).kept gs (.inr (own_type (h.oL.kept g nL) P7 (by decide)))
  · intro k e hn
    have e1 : gg = k := by simpa [Value.ownBlock] using hn
    subst e1
    rcases hat with hat | hat
    · exact h.ap gg e hat
    · have := (h.oH.lt gg e).2; omega
  · rcases snoc_get h.lN h1 h2 with ⟨h1, h2⟩ | ⟨rfl, rfl⟩
    · exact h.aN i v' l h1 h2
    · exact hv
  · intro u t' hu
    obtain ⟨v', bb, z, h1, h2, h3⟩ := h.be u t' hu
    exact ⟨v', bb, z, h1, ((heap_setCell_other w7 ⟨P, 3, none⟩ bb _ (h.bsp u v' bb h1).2.2.1).trans (r6 u v' bb h1 (cells_lt h2))).trans h2, hbe u t' z hu h3⟩
/-- one place more in the list -/
theorem StW.pushL (h : StW w0 wb base P Lb s G X fz F p vh hs H vn ns N vl w) {gg cap : Nat} (hown : w7.ownsRow base 3 1 (.slice (some ⟨gg, 0, none⟩) ((outV G F).length + 1) cap) ((outV G F).length + 1) (outV G F ++ [.int .i64 p]))
    (g : w.grownBy w7 vl.ownBlock) (hat : vl.ownBlock = some gg ∨ w.heap.size ≤ gg) (h0 : G[0]? = some .add) :
    StW w0 wb base P Lb s G X fz (F ++ [(0, p)]) p vh hs H vn ns N (.slice (some ⟨gg, 0, none⟩) ((outV G F).length + 1) cap) (w7.setCell ⟨Lb, 0, none⟩ (.slice (some ⟨gg, 0, none⟩) ((outV G F).length + 1) cap)) := by
  obtain ⟨r1, r2, r3, r4, r5, r6⟩ := h.rows g (fun k e => (h.oL.lt k e).1)
  have P7 := r4.trans h.wP
  have L7 := r5.trans h.wL
  have gs := grown_cell w7 Lb 0 (.slice (some ⟨gg, 0, none⟩) ((outV G F).length + 1) cap)
  have hgg : base ≤ gg := by
    rcases hat with e | e
    · exact (h.oL.lt gg e).1
    · have := h.bs; omega
  have hout : outV G (F ++ [(0, p)]) = outV G F ++ [.int .i64 p] := by
    unfold outV; rw [outF_snoc, if_pos (by unfold isAdd; rw [h0]), List.map_append]; rfl
  have nH : vh.ownBlock = none ∨ vh.ownBlock ≠ vl.ownBlock := own_row h.oH h.oL (by decide)
  have nN : vn.ownBlock = none ∨ vn.ownBlock ≠ vl.ownBlock := own_row h.oN h.oL (by decide)
  have hPL : P ≠ Lb := fun e => by have := L7; rw [← e, P7] at this; simp at this
  have hLb := h.hL
  have hle : ∀ x ∈ F ++ [(0, p)], x.2 ≤ p := fun x hx => by
    rcases List.mem_append.1 hx with hx | hx
    · exact h.le x hx
    · simp at hx; subst hx; exact Nat.le_refl _
  refine h.turn (grown_set r1 0 _ h.hL.1) (by rw [World.size_setCell]; exact r2) (fun b hb => (heap_setCell_other w7 ⟨Lb, 0, none⟩ b _ (h.sep b hb).2.2.1).trans (r3 b hb)) ((heap_setCell_other w7 ⟨Lb, 0, none⟩ P _ hPL).trans P7) (heap_setCell_same w7 Lb 0 _ _ _ L7)
    ((h.oH.kept g nH).kept gs (.inr (own_type (h.oH.kept g nH) L7 (by decide)))) ((h.oN.kept g nN).kept gs (.inr (own_type (h.oN.kept g nN) L7 (by decide)))) ?_ h.ap h.lH h.lN h.aH h.aN ?_ hle
  · rw [hout, List.length_append]; exact hown.kept gs (.inr (fun e => by have e : gg = Lb := by simpa [Value.ownBlock] using e
                                                                         omega))
  · intro u t' hu
    obtain ⟨v', bb, z, h1, h2, h3⟩ := h.be u t' hu
    refine ⟨v', bb, z, h1, ((heap_setCell_other w7 ⟨Lb, 0, none⟩ bb _ (h.bsp u v' bb h1).2.2.2).trans (r6 u v' bb h1 (cells_lt h2))).trans h2, h3.other ?_⟩
    rintro rfl; rw [h0] at hu; cases hu
end
end Go.Proofs.YtlkjejmmoalliaaGreatDoor

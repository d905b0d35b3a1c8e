/- A law's Of: a node of package rex as the document's. -/
import Derived.Test.YtonbcldhbinmeaaDoorRexOf
import Derived.Test.YtonbcldhbinmeaaDoorRexBD
import Derived.Deep.RegionLaw
import Derived.Deep.CutBlock
namespace Go.Proofs.YtonbcldhbinmeaaDoor
open Go.RowKit

/-- what Of's loop knows -/
structure OfW (w0 : World) (q o : Nat) (n : Nd) (K : List (Nd × Value)) (v : Value) (wr : World) : Prop where
  G : w0.grownBy wr none
  N : wr.heap[q]? = some (.cells #[.int .i64 0, .int .i64 0, .int .u64 0, .int .u64 0, .int .u64 0, .int .u64 0, .slice none 0 0] 35 (0, 0))
  O : wr.heap[o]? = some (.cells #[.int .i64 n.kind, .int .i64 n.index, .int .u64 (wd n.set 0), .int .u64 (wd n.set 1), .int .u64 (wd n.set 2), .int .u64 (wd n.set 3), v] 35 (0, 0))
  W : NRow (o + 1) (fun b => w0.heap.size ≤ b ∧ b ≠ q ∧ b ≠ o) 35 K v wr
/-- a call by its contract, as one step of a statement whose order is open -/
theorem step_call {ops : Array Oper} {o : Oper} {a : Act} {w : World} {K : Act → World → Prop} {Q : Exit → Act → World → Prop} {E : Prop} {R : Ending → World → Prop}
    (hg : o.guard = none) (f : FuncId) (args : Array Value) (hrun : (execOp a.eval o).run Tryd.prog w = .ok (.enter f args) w) (hc : Calls Tryd.prog f args w R)
    (h : ∀ e w', R e w' → ∃ v, e = .returned v ∧ K (a.put o.dst v) w') : if Region.wanted o (yielded ops a.tmps) = true then Oper.wp Tryd.prog o a w K Q else E := by
  have hw : Region.wanted o (yielded ops a.tmps) = true := by simp [Region.wanted, hg]
  rw [if_pos hw]
  unfold Oper.wp
  rw [hrun, Oper.upon_enter]
  exact hc.mono fun e w' hr => by obtain ⟨v, rfl, hk⟩ := h e w' hr; exact hk
/-- what Of answers -/
def OfOut (n : Nd) (w : World) (e : Ending) (w' : World) : Prop :=
  (∃ a m k, e = .returned (ndV n (.slice a m k)) ∧ KidsAt w' (fun b => w.heap.size ≤ b) (.slice a m k) n.kids) ∧ w.grownBy w' none

set_option maxRecDepth 100000 in
set_option maxHeartbeats 4000000 in
theorem cLawOf : ∀ (N : Nat) (n : Nd) (a : Option Addr) (m k : Nat) (w : World), sizN n ≤ N → N ≤ 200 → Kids w (.slice a m k) n.kids →
    Calls Tryd.prog 11 #[ndV n (.slice a m k)] w (OfOut n w) := by
  intro N
  induction N with
  | zero => intro n a m k w h _ _; rw [sizN, cntN_eq] at h; simp at h
  | succ N ih =>
    intro n a m k w hN hN2 hK
    obtain rfl := hK.len
    have HI := Lib.hid (fun n a m k w h hk => ih n a m k w h (by omega) hk)
    have hsz : sizN n = 1 + cntL (fun _ => true) n.kids := by rw [sizN, cntN_eq]; simp
    obtain ⟨l, hl⟩ : ∃ l, n.kids = l := ⟨_, rfl⟩
    have HL := Lib.hid hl
    rw [hl] at hK hsz ⊢
    have hl200 : l.length ≤ 200 := by have := len_le_cnt l; omega
    have HS := Lib.hid (show ∀ n' ∈ l, sizN n' ≤ N by
      intro n' h'; have := cntL_mem (fun _ => true) h'; simp only [sizN] at hsz hN ⊢; omega)
    have HK := Lib.hid hK
    clear ih hN hN2 hsz hl hK
    have ga := World.grownBy_alloc w (.cells #[.int .i64 n.kind, .int .i64 n.index, .int .u64 (wd n.set 0), .int .u64 (wd n.set 1), .int .u64 (wd n.set 2), .int .u64 (wd n.set 3), .slice a l.length k] 28) none
    have gb := World.grownBy_alloc (w.alloc (.cells #[.int .i64 n.kind, .int .i64 n.index, .int .u64 (wd n.set 0), .int .u64 (wd n.set 1), .int .u64 (wd n.set 2), .int .u64 (wd n.set 3), .slice a l.length k] 28)) (.cells #[.int .i64 0, .int .i64 0, .int .u64 0, .int .u64 0, .int .u64 0, .int .u64 0, .slice none 0 0] 35) none
    have gc := World.grownBy_alloc ((w.alloc (.cells #[.int .i64 n.kind, .int .i64 n.index, .int .u64 (wd n.set 0), .int .u64 (wd n.set 1), .int .u64 (wd n.set 2), .int .u64 (wd n.set 3), .slice a l.length k] 28)).alloc (.cells #[.int .i64 0, .int .i64 0, .int .u64 0, .int .u64 0, .int .u64 0, .int .u64 0, .slice none 0 0] 35)) (.cells #[.int .i64 n.kind, .int .i64 n.index, .int .u64 (wd n.set 0), .int .u64 (wd n.set 1), .int .u64 (wd n.set 2), .int .u64 (wd n.set 3), .slice none 0 0] 35) none
    have bx := heap_grown gc (heap_grown gb (heap_alloc_new w (.cells #[.int .i64 n.kind, .int .i64 n.index, .int .u64 (wd n.set 0), .int .u64 (wd n.set 1), .int .u64 (wd n.set 2), .int .u64 (wd n.set 3), .slice a l.length k] 28)))
    have bn := heap_grown gc (heap_alloc_new (w.alloc (.cells #[.int .i64 n.kind, .int .i64 n.index, .int .u64 (wd n.set 0), .int .u64 (wd n.set 1), .int .u64 (wd n.set 2), .int .u64 (wd n.set 3), .slice a l.length k] 28)) (.cells #[.int .i64 0, .int .i64 0, .int .u64 0, .int .u64 0, .int .u64 0, .int .u64 0, .slice none 0 0] 35))
    have bo := heap_alloc_new ((w.alloc (.cells #[.int .i64 n.kind, .int .i64 n.index, .int .u64 (wd n.set 0), .int .u64 (wd n.set 1), .int .u64 (wd n.set 2), .int .u64 (wd n.set 3), .slice a l.length k] 28)).alloc (.cells #[.int .i64 0, .int .i64 0, .int .u64 0, .int .u64 0, .int .u64 0, .int .u64 0, .slice none 0 0] 35)) (.cells #[.int .i64 n.kind, .int .i64 n.index, .int .u64 (wd n.set 0), .int .u64 (wd n.set 1), .int .u64 (wd n.set 2), .int .u64 (wd n.set 3), .slice none 0 0] 35)
    simp only [World.size_alloc] at bn bo
    have W0 := Lib.hid (show OfW w (w.heap.size + 1) (w.heap.size + 1 + 1) n [] (.slice none 0 0) _ from ⟨ga.trans (gb.trans gc), bn, bo, NRow.start _ _ _ _⟩)
    have BX := Lib.hid bx
    have K0 := Lib.hid (HK.out.grown (ga.trans (gb.trans gc)))
    clear ga gb gc bx bn bo
    go_enter Tryd.func11, Tryd.ntmps11
    go_upto_region 2 with fail
    obtain ⟨q, eq⟩ : ∃ q, q = w.heap.size + 1 := ⟨_, rfl⟩
    obtain ⟨o, eo⟩ : ∃ o, o = q + 1 := ⟨_, rfl⟩
    rw [← eq, ← eo] at W0 ⊢
    have HQ := Lib.hid (show w.heap.size ≤ q ∧ o = q + 1 by omega)
    clear eq eo
    generalize World.alloc _ _ = w1 at W0 BX K0 ⊢
    generalize w.heap.size = x at BX ⊢
    obtain ⟨c0, c1, c2, c3, c4, c5, c6⟩ := seven_cells BX.out
    go_wp2
    clear c0 c1 c2 c3 c4 c5 c6
    go_loopw [5, 16] (fun _ i wr => ∃ (K : List (Nd × Value)) (v : Value), K.length ≤ l.length ∧ i = .int .i64 (K.length : Nat) ∧ Hid (K.map Prod.fst = l.take K.length) ∧ Hid (OfW w q o n K v wr)) (fun _ i _ => l.length - (intOf i).toNat)
    case atStart => exact ⟨[], _, Nat.zero_le _, rfl, Lib.hid (by simp), W0⟩
    case round =>
      obtain ⟨K, v, hj, rfl, hKl, hW⟩ := hrel
      clear W0 K0 BX
      obtain ⟨va, vc, rfl⟩ := nilOr hW.out.W.O
      by_cases hlt : K.length < l.length
      · obtain ⟨n', hn'⟩ : ∃ n', l[K.length]? = some n' := ⟨_, List.getElem?_eq_getElem hlt⟩
        have HS' := Lib.hid (HS.out n' (List.mem_of_getElem? hn'))
        have HKL := Lib.hid (show K.map Prod.fst ++ [n'] = l.take (K.length + 1) by rw [hKl.out, List.take_add_one, hn']; rfl)
        obtain ⟨b0, off, x0, y0, z0, rfl, hc, hk'⟩ := (HK.out.grown hW.out.G).at hn'
        have c0 : wr.cell? ⟨b0, off + K.length * 7, none⟩ = some (.int .i64 n'.kind) := hc 0 _ rfl
        have c1 := hc 1 _ rfl
        have c2 := hc 2 _ rfl
        have c3 := hc 3 _ rfl
        have c4 := hc 4 _ rfl
        have c5 := hc 5 _ rfl
        have c6 := hc 6 _ rfl
        have ga := World.grownBy_alloc wr (.cells #[.int .i64 n'.kind, .int .i64 n'.index, .int .u64 (wd n'.set 0), .int .u64 (wd n'.set 1), .int .u64 (wd n'.set 2), .int .u64 (wd n'.set 3), .slice x0 y0 z0] 28) none
        have KB := Lib.hid (heap_alloc_new wr (.cells #[.int .i64 n'.kind, .int .i64 n'.index, .int .u64 (wd n'.set 0), .int .u64 (wd n'.set 1), .int .u64 (wd n'.set 2), .int .u64 (wd n'.set 3), .slice x0 y0 z0] 28))
        have OB := Lib.hid (heap_grown ga hW.out.O)
        have K3 := Lib.hid (hk'.grown ga)
        have HWr := Lib.hid (show o < wr.heap.size from (Array.getElem?_eq_some_iff.1 hW.out.O).1)
        have HVB := Lib.hid (show ∀ b, (Value.slice va K.length vc).ownBlock = some b → o < b ∧ b < wr.heap.size from fun b e => by have := hW.out.W.O.lt b e; omega)
        have V2 := Lib.hid (hW.out.W.kept ga (by simp) (fun b hb => by have := HQ.out; omega))
        have N2 := Lib.hid (heap_grown ga hW.out.N)
        have G2 := Lib.hid (hW.out.G.trans ga)
        have hK200 : K.length ≤ 200 := by omega
        clear hc hk' hn' ga
        go_upto_region 5 with fail
        clear c0 c1 c2 c3 c4 c5 c6
        obtain ⟨kb, ekb⟩ : ∃ kb, kb = wr.heap.size := ⟨_, rfl⟩
        rw [← ekb] at KB HVB HWr ⊢
        clear ekb hW
        generalize wr.alloc _ = w2 at KB OB K3 V2 N2 G2 ⊢
        obtain ⟨iu, hiu, hu0, hu1, hu2⟩ := info_parts infoNd
        have IU := Lib.hid hiu; have ZU0 := Lib.hid hu0; have ZU1 := Lib.hid hu1; have ZU2 := Lib.hid hu2
        clear hiu hu0 hu1 hu2
        have CI := Lib.hid (fun W (g : w2.grownBy W none) => HI.out n' x0 y0 z0 W HS'.out (K3.out.grown g))
        have SK := Lib.hid (show ∀ W, w2.grownBy W none → (W.cell? ⟨o, 6, none⟩ = some (.slice va K.length vc) ∧ W.cell? ⟨kb, 0, none⟩ = some (.int .i64 n'.kind) ∧ W.cell? ⟨kb, 1, none⟩ = some (.int .i64 n'.index) ∧ W.cell? ⟨kb, 2, none⟩ = some (.int .u64 (wd n'.set 0)) ∧ W.cell? ⟨kb, 3, none⟩ = some (.int .u64 (wd n'.set 1)) ∧ W.cell? ⟨kb, 4, none⟩ = some (.int .u64 (wd n'.set 2)) ∧ W.cell? ⟨kb, 5, none⟩ = some (.int .u64 (wd n'.set 3)) ∧ W.cell? ⟨kb, 6, none⟩ = some (.slice x0 y0 z0)) from fun W g => ⟨(seven_cells (heap_grown g OB.out)).2.2.2.2.2.2, seven_cells (heap_grown g KB.out)⟩)
        obtain ⟨s0, s1, s2, s3, s4, s5, s6, s7⟩ := SK.out w2 (World.grownBy.refl _ _)
        have hno : some o ≠ (Value.slice va K.length vc).ownBlock := fun e => by have := HVB.out _ e.symm; omega
        have hnk : some kb ≠ (Value.slice va K.length vc).ownBlock := fun e => by have := HVB.out _ e.symm; omega
        have HNO := Lib.hid hno; have HNK := Lib.hid hnk
        clear hno hnk
        go_region_law (first
            | (refine step_call (by rfl) 11 #[ndV n' (.slice x0 y0 z0)] (by go_simp) (CI.out _ (grown_drew (World.grownBy.refl _ _))) ?_; rintro e w5 ⟨⟨xa, xm, xk, rfl, hk5⟩, g5⟩; refine ⟨_, rfl, ?_⟩; have OB5 := Lib.hid (heap_grown ((grown_drew (World.grownBy.refl _ _)).trans g5) OB.out); have KB5 := Lib.hid (heap_grown ((grown_drew (World.grownBy.refl _ _)).trans g5) KB.out); have q5 := (seven_cells OB5.out).2.2.2.2.2.2; have q6 := fun ob => (World.grownBy_alloc w5 ob none).cell q5 (by simp))
            | (refine step_append_lies _ (by rfl) _ _ 33 (by rfl) (o + 1) 35 iu _ 7 72 Tryd.underlying33 IU.out ZU0.out ZU1.out ZU2.out rfl (by decide) (.slice va K.length vc) K.length (flat7 K) (by rfl) ((V2.out.kept (((grown_drew (World.grownBy.refl _ _)).trans g5).trans (World.grownBy_alloc _ _ _)) (by simp) (fun b hb => by have := HQ.out; omega)).O) ⟨_, 0, none⟩ 1 1 (cells7 n' (.slice xa xm xk)) (by rfl) rfl (new_seven _ _ _ _ _ (by simp)) (seven_one _ _ _ _) (by decide) (by unfold maxLen; omega) (by omega) (by have h1 := (Array.getElem?_eq_some_iff.1 OB5.out).1; simp; omega) _ rfl ?_; intro gg cap w7 hown2 hgrow2 hat hlt2; have O7 := Lib.hid ((hgrow2.block o (by have h1 := (Array.getElem?_eq_some_iff.1 OB5.out).1; simp; omega) HNO.out).trans (heap_grown (World.grownBy_alloc _ _ _) OB5.out)); have KB7 := Lib.hid ((hgrow2.block kb (by have h1 := (Array.getElem?_eq_some_iff.1 KB5.out).1; simp; omega) HNK.out).trans (heap_grown (World.grownBy_alloc _ _ _) KB5.out)); have f7 := four_free O7.out 6; have q7 := (seven_cells O7.out).2.2.2.2.2.2))
        all_goals
          have W5 := Lib.hid (V2.out.kept (((grown_drew (World.grownBy.refl _ _)).trans g5).trans (World.grownBy_alloc w5 (.cells #[.int .i64 n'.kind, .int .i64 n'.index, .int .u64 (wd n'.set 0), .int .u64 (wd n'.set 1), .int .u64 (wd n'.set 2), .int .u64 (wd n'.set 3), .slice xa xm xk] 35) none)) (by simp) (fun b hb => by have := HQ.out; omega))
          have gA := World.grownBy_alloc w5 (.cells #[.int .i64 n'.kind, .int .i64 n'.index, .int .u64 (wd n'.set 0), .int .u64 (wd n'.set 1), .int .u64 (wd n'.set 2), .int .u64 (wd n'.set 3), .slice xa xm xk] 35) none
          have gW := ((grown_drew (World.grownBy.refl w2 none)).trans g5).trans gA
          have K5 := (hk5.weak (q := fun b => (w.heap.size ≤ b ∧ b ≠ q ∧ b ≠ o) ∧ some b ≠ (Value.slice va K.length vc).ownBlock) (fun b _ hb => by
            have h1 := (Array.getElem?_eq_some_iff.1 N2.out).1
            have h2 := (Array.getElem?_eq_some_iff.1 OB.out).1
            have h3 := (Array.getElem?_eq_some_iff.1 KB.out).1
            have h4 := G2.out.size
            have h5 : w2.heap.size ≤ b := hb
            refine ⟨by omega, fun e => ?_⟩
            have := HVB.out _ e.symm; omega)).grown gA
          have W7 := W5.out.step K5 hown2 hgrow2 hat
          have G7 := (G2.out.trans gW).andThen hgrow2 (fun b e => .inl (by have := HVB.out _ e; have := HQ.out; omega))
          have N7 := (hgrow2.block q (by have h1 := (Array.getElem?_eq_some_iff.1 (heap_grown gW N2.out)).1; exact h1) (fun e => by have := HVB.out _ e.symm; have := HQ.out; omega)).trans (heap_grown gW N2.out)
          have gs := grown_at w7 o 6 (.slice (some ⟨gg, 0, none⟩) (K.length + 1) cap)
          have HF := Lib.hid (show OfW w q o n (K ++ [(n', .slice xa xm xk)]) (.slice (some ⟨gg, 0, none⟩) (K.length + 1) cap) (w7.setCell ⟨o, 6, none⟩ (.slice (some ⟨gg, 0, none⟩) (K.length + 1) cap)) from
            ⟨grown_set G7 _ _ (by have := HQ.out; omega), (heap_setCell_other w7 ⟨o, 6, none⟩ q _ (by have := HQ.out; show q ≠ o; omega)).trans N7, heap_setCell_same w7 o 6 _ _ _ O7.out,
             W7.kept gs (fun b hb => by simp only [ne_eq, Option.some.injEq]; exact hb.2.2) (fun b hb => by have := HQ.out; omega)⟩)
          clear W5 gA gW K5 W7 G7 N7 gs hown2 hgrow2 hat hlt2 q5 q6 q7 f7 g5 hk5
          go_wp2
          go_roundw
          case rel => exact ⟨_, _, by simp; omega, by simp, by rw [List.length_append]; exact Lib.hid (by rw [List.map_append]; exact HKL.out), HF⟩
          case measure => simp [intOf]; omega
      · have HKL := Lib.hid (show K.map Prod.fst = n.kids by rw [hKl.out, HL.out, List.take_of_length_le (by omega)])
        have KN := (hW.out.W.kids (fun b hb => by have := HQ.out; omega))
        rw [HKL.out] at KN
        have KN := Lib.hid KN
        have hd : decide (K.length < l.length) = false := decide_eq_false hlt
        have N1 := Lib.hid hW.out.N
        have O1 := Lib.hid hW.out.O
        have G1 := Lib.hid hW.out.G
        clear hW hKl HKL hj hlt
        generalize K.length = kl at *
        obtain ⟨r0, r1, r2, r3, r4, r5, r6⟩ := seven_cells N1.out
        obtain ⟨x0, x1, x2, x3, x4, x5, x6⟩ := seven_cells O1.out
        have fr := four_free N1.out
        go_wp2
        refine bodyPost_ret (v := ndV n (.slice va kl vc)) (back_nd1 35 Tryd.underlying35 sizeNd Tryd.results11 rfl (set_seven N1.out _ _ _ _ _ _ _)) rfl ?_
        exact ⟨⟨va, kl, vc, rfl, (KN.out.seven _ _ _ _ _ _ _ fun b hb => hb.2.1).weak fun b _ hb => hb.1⟩, grown7 G1.out (by have := HQ.out; omega)⟩
end Go.Proofs.YtonbcldhbinmeaaDoor

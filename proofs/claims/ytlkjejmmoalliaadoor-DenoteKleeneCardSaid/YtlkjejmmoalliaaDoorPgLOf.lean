/- Nodes of any kind: a law's Of makes the document's of a program's. -/
import Derived.Test.YtlkjejmmoalliaaDoorPgWr
import Derived.Test.YtlkjejmmoalliaaDoorRexBD
import Derived.Deep.RegionLaw
import Derived.Deep.CutBlock
namespace Go.Proofs.YtlkjejmmoalliaaDoor
open Go.RowKit

def flat7I (L : List (Ni × Value)) : List Value := L.flatMap fun p => cellsN p.1 p.2
theorem flat7I_snoc (L : List (Ni × Value)) (n : Ni) (kv : Value) : flat7I (L ++ [(n, kv)]) = flat7I L ++ cellsN n kv := by unfold flat7I; simp
theorem flat7I_get : ∀ (L : List (Ni × Value)) (k : Nat) (n : Ni) (kv : Value), L[k]? = some (n, kv) → ∀ j u, (cellsN n kv)[j]? = some u → (flat7I L)[k * 7 + j]? = some u := by
  intro L
  induction L with
  | nil => intro k n kv hx; simp at hx
  | cons y L ih =>
    intro k n kv hx j u hu
    have e : flat7I (y :: L) = cellsN y.1 y.2 ++ flat7I L := rfl
    have hl : (cellsN y.1 y.2).length = 7 := rfl
    have hj : j < 7 := by
      have := (List.getElem?_eq_some_iff.1 hu).1
      exact this
    rw [e, List.getElem?_append]
    cases k with
    | zero =>
      simp at hx; subst hx
      rw [if_pos (by rw [hl]; omega)]
      simpa using hu
    | succ k =>
      rw [if_neg (by rw [hl]; omega), hl, show (k + 1) * 7 + j - 7 = k * 7 + j by omega]
      exact ih k n kv (by simpa using hx) j u hu
theorem new_sevenI (w : World) (n : Ni) (kv : Value) (t : TypeId) (m : Nat) (hm : m = w.heap.size) : ∀ j u, (cellsN n kv)[j]? = some u → (w.alloc (.cells #[.int .i64 n.kind, .int .i64 n.index, .int .u64 (wd n.set 0), .int .u64 (wd n.set 1), .int .u64 (wd n.set 2), .int .u64 (wd n.set 3), kv] t)).cell? ((⟨m, 0, none⟩ : Addr).add j) = some u := by
  subst hm
  exact World.news_of_block (cs := #[.int .i64 n.kind, .int .i64 n.index, .int .u64 (wd n.set 0), .int .u64 (wd n.set 1), .int .u64 (wd n.set 2), .int .u64 (wd n.set 3), kv]) (t := t) (fr := (0, 0)) (heap_alloc_new w _)
theorem seven_oneI (n : Ni) (a : Option Addr) (m k : Nat) : ∀ u ∈ cellsN n (.slice a m k), u.oneCell' = true := by
  intro u hu; unfold cellsN at hu; simp at hu; rcases hu with rfl | rfl | rfl | rfl | rfl | rfl | rfl <;> rfl
/-- a row of nodes of the call's own, whose kids lie in blocks that p lets, apart from the row -/
structure NRowI (base : Nat) (p : Nat → Prop) (T : TypeId) (L : List (Ni × Value)) (v : Value) (w : World) : Prop where
  O : w.ownsRow base T 7 v L.length (flat7I L)
  K : ∀ x ∈ L, KidsI w (fun b => p b ∧ some b ≠ v.ownBlock) x.2 x.1.kids
theorem NRowI.start (base : Nat) (p : Nat → Prop) (T : TypeId) (w : World) : NRowI base p T [] (.slice none 0 0) w := ⟨World.ownsRow_nil _ _ _ _, by simp⟩
theorem NRowI.kept {base : Nat} {p : Nat → Prop} {T : TypeId} {L : List (Ni × Value)} {v : Value} {w w' : World} {row : Option Nat} (h : NRowI base p T L v w) (g : w.grownBy w' row) (hp : ∀ b, p b → some b ≠ row) (hb : ∀ b, base ≤ b → p b) : NRowI base p T L v w' := by
  refine ⟨h.O.kept g ?_, fun x hx => (h.K x hx).kept fun b _ _ hb hu => g.cell hu (hp b hb.1)⟩
  cases ho : v.ownBlock with
  | none => exact .inl rfl
  | some b => exact .inr (hp b (hb b (h.O.lt b ho).1))
theorem NRowI.step {base : Nat} {p : Nat → Prop} {T : TypeId} {L : List (Ni × Value)} {v kv : Value} {n : Ni} {W w4 : World} {gg cap : Nat} (h : NRowI base p T L v W)
    (hk : KidsI W (fun b => p b ∧ some b ≠ v.ownBlock) kv n.kids) (o : w4.ownsRow base T 7 (.slice (some ⟨gg, 0, none⟩) (L.length + 1) cap) (L.length + 1) (flat7I L ++ cellsN n kv))
    (g : W.grownBy w4 v.ownBlock) (hat : v.ownBlock = some gg ∨ gg = W.heap.size) : NRowI base p T (L ++ [(n, kv)]) (.slice (some ⟨gg, 0, none⟩) (L.length + 1) cap) w4 := by
  have one : ∀ (kv : Value) (l : List Ni), KidsI W (fun b => p b ∧ some b ≠ v.ownBlock) kv l → KidsI w4 (fun b => p b ∧ some b ≠ (Value.slice (some ⟨gg, 0, none⟩) (L.length + 1) cap).ownBlock) kv l := fun kv l hk => by
    refine ((hk.weak (q := fun b => p b ∧ some b ≠ v.ownBlock ∧ b < W.heap.size) fun b hb hp => ⟨hp.1, hp.2, hb⟩).kept fun b _ _ hb hu => g.cell hu hb.2.1).weak fun b _ hb => ⟨hb.1, ?_⟩
    simp only [Value.ownBlock, ne_eq, Option.some.injEq]
    rintro rfl
    rcases hat with e | e
    · exact hb.2.1 e.symm
    · have := hb.2.2; omega
  refine ⟨by rw [flat7I_snoc, List.length_append]; exact o, fun x hx => ?_⟩
  rcases List.mem_append.1 hx with hx | hx
  · exact one _ _ (h.K x hx)
  · simp at hx; subst hx; exact one _ _ hk
theorem NRowI.kids {base : Nat} {p : Nat → Prop} {T : TypeId} {L : List (Ni × Value)} {v : Value} {w : World} (h : NRowI base p T L v w) (hb : ∀ b, base ≤ b → p b) : KidsI w p v (L.map Prod.fst) := by
  rcases h.O.2 with ⟨rfl, h0⟩ | ⟨g, cap, cur, rfl, hbg, hg, h4, _⟩
  · have : L = [] := List.eq_nil_of_length_eq_zero h0
    subst this
    exact .empty none 0
  · by_cases hL : L = []
    · subst hL; exact .empty _ cap
    · have hget : ∀ k n, (L.map Prod.fst)[k]? = some n → ∃ kv, L[k]? = some (n, kv) := fun k n hn => by
        rw [List.getElem?_map] at hn
        cases hx : L[k]? with
        | none => rw [hx] at hn; cases hn
        | some x => rw [hx] at hn; obtain ⟨n', kv⟩ := x; simp at hn; subst hn; exact ⟨kv, hx⟩
      have := KidsI.items (w := w) (p := p) g 0 cap (L.map Prod.fst) (fun k => match L[k]? with | some x => x.2 | none => .nilIface) (by simpa using hL) (hb g hbg) (by simpa using h4) ?_ ?_
      · simpa using this
      · intro k n hn j u hu
        obtain ⟨kv, hx⟩ := hget k n hn
        rw [hx] at hu
        have := h.O.cells (g := g) rfl _ _ (flat7I_get L k n kv hx j u hu)
        rw [Addr.add_lit] at this
        rw [show 0 + k * 7 + j = 0 + (k * 7 + j) by omega]
        exact this
      · intro k n hn
        obtain ⟨kv, hx⟩ := hget k n hn
        rw [hx]
        exact (h.K _ (List.mem_of_getElem? hx)).weak fun b _ hb => hb.1
theorem KidsI.seven {w : World} {p : Nat → Prop} {v : Value} {l : List Ni} (h : KidsI w p v l) {r : Nat} (v0 v1 v2 v3 v4 v5 v6 : Value) (hr : ∀ b, p b → b ≠ r) :
    KidsI (((((((w.setCell ⟨r, 0, none⟩ v0).setCell ⟨r, 1, none⟩ v1).setCell ⟨r, 2, none⟩ v2).setCell ⟨r, 3, none⟩ v3).setCell ⟨r, 4, none⟩ v4).setCell ⟨r, 5, none⟩ v5).setCell ⟨r, 6, none⟩ v6) p v l :=
  h.kept fun b _ _ hb hu => set7_far hu (hr b hb)
theorem back_ni1 (T : TypeId) {fs : Array Field} (hT : Tryd.prog.underlying T = some (.struct fs)) (hi : (Tryd.prog.info? T).map (·.size) = some 7) {fn : Func} {p : Tmp} {w : World} {g : Nat} {n : Ni} {kv : Value} {tmps : Array Value} (hf : fn.results = #[.cell p T])
    (hp : tmps.getD p undef = .pointer (some ⟨g, 0, none⟩)) (hg : w.heap[g]? = some (.cells #[.int .i64 n.kind, .int .i64 n.index, .int .u64 (wd n.set 0), .int .u64 (wd n.set 1), .int .u64 (wd n.set 2), .int .u64 (wd n.set 3), kv] T (0, 0))) :
    (results fn tmps).run Tryd.prog w = .ok (niV n kv) w :=
  results_cell_row hf tmps w g _ _ _ _ hp hg hT rfl hi
/-- what Of's loop knows -/
structure OfWI (w0 : World) (q o : Nat) (n : Ni) (K : List (Ni × Value)) (v : Value) (wr : World) : Prop where
  G : w0.grownBy wr none
  N : wr.heap[q]? = some (.cells #[.int .i64 0, .int .i64 0, .int .u64 0, .int .u64 0, .int .u64 0, .int .u64 0, .slice none 0 0] 32 (0, 0))
  O : wr.heap[o]? = some (.cells #[.int .i64 n.kind, .int .i64 n.index, .int .u64 (wd n.set 0), .int .u64 (wd n.set 1), .int .u64 (wd n.set 2), .int .u64 (wd n.set 3), v] 32 (0, 0))
  W : NRowI (o + 1) (fun b => w0.heap.size ≤ b ∧ b ≠ q ∧ b ≠ o) 32 K v wr
/-- what Of answers -/
def OfOutI (n : Ni) (w : World) (e : Ending) (w' : World) : Prop :=
  (∃ a m k, e = .returned (niV n (.slice a m k)) ∧ KidsI w' (fun b => w.heap.size ≤ b) (.slice a m k) n.kids) ∧ w.grownBy w' none

set_option maxRecDepth 100000 in
set_option maxHeartbeats 8000000 in
theorem cLawOfI : ∀ (N : Nat) (n : Ni) (a : Option Addr) (m k : Nat) (w : World), szN n ≤ N → N ≤ 200 → KidsE w (.slice a m k) n.kids →
    Calls Tryd.prog 8 #[niV n (.slice a m k)] w (OfOutI n w) := by
  intro N
  induction N with
  | zero => intro n a m k w h _ _; rw [sz_eq] at h; omega
  | succ N ih =>
    intro n a m k w hN hN2 hK
    obtain rfl := hK.len
    have HI := Lib.hid (fun n a m k w h hk => ih n a m k w h (by omega) hk)
    have hsz : szN n = 1 + szL n.kids := sz_eq n
    obtain ⟨l, hl⟩ : ∃ l, n.kids = l := ⟨_, rfl⟩
    have HL := Lib.hid hl
    rw [hl] at hK hsz ⊢
    have hl200 : l.length ≤ 200 := by have := len_le_sz l; omega
    have HS := Lib.hid (show ∀ n' ∈ l, szN n' ≤ N by
      intro n' h'; have := szL_mem h'; omega)
    have HK := Lib.hid hK
    clear ih hN hN2 hsz hl hK
    have ga := World.grownBy_alloc w (.cells #[.int .i64 n.kind, .int .i64 n.index, .int .u64 (wd n.set 0), .int .u64 (wd n.set 1), .int .u64 (wd n.set 2), .int .u64 (wd n.set 3), .slice a l.length k] 27) none
    have gb := World.grownBy_alloc (w.alloc (.cells #[.int .i64 n.kind, .int .i64 n.index, .int .u64 (wd n.set 0), .int .u64 (wd n.set 1), .int .u64 (wd n.set 2), .int .u64 (wd n.set 3), .slice a l.length k] 27)) (.cells #[.int .i64 0, .int .i64 0, .int .u64 0, .int .u64 0, .int .u64 0, .int .u64 0, .slice none 0 0] 32) none
    have gc := World.grownBy_alloc ((w.alloc (.cells #[.int .i64 n.kind, .int .i64 n.index, .int .u64 (wd n.set 0), .int .u64 (wd n.set 1), .int .u64 (wd n.set 2), .int .u64 (wd n.set 3), .slice a l.length k] 27)).alloc (.cells #[.int .i64 0, .int .i64 0, .int .u64 0, .int .u64 0, .int .u64 0, .int .u64 0, .slice none 0 0] 32)) (.cells #[.int .i64 n.kind, .int .i64 n.index, .int .u64 (wd n.set 0), .int .u64 (wd n.set 1), .int .u64 (wd n.set 2), .int .u64 (wd n.set 3), .slice none 0 0] 32) none
    have bx := heap_grown gc (heap_grown gb (heap_alloc_new w (.cells #[.int .i64 n.kind, .int .i64 n.index, .int .u64 (wd n.set 0), .int .u64 (wd n.set 1), .int .u64 (wd n.set 2), .int .u64 (wd n.set 3), .slice a l.length k] 27)))
    have bn := heap_grown gc (heap_alloc_new (w.alloc (.cells #[.int .i64 n.kind, .int .i64 n.index, .int .u64 (wd n.set 0), .int .u64 (wd n.set 1), .int .u64 (wd n.set 2), .int .u64 (wd n.set 3), .slice a l.length k] 27)) (.cells #[.int .i64 0, .int .i64 0, .int .u64 0, .int .u64 0, .int .u64 0, .int .u64 0, .slice none 0 0] 32))
    have bo := heap_alloc_new ((w.alloc (.cells #[.int .i64 n.kind, .int .i64 n.index, .int .u64 (wd n.set 0), .int .u64 (wd n.set 1), .int .u64 (wd n.set 2), .int .u64 (wd n.set 3), .slice a l.length k] 27)).alloc (.cells #[.int .i64 0, .int .i64 0, .int .u64 0, .int .u64 0, .int .u64 0, .int .u64 0, .slice none 0 0] 32)) (.cells #[.int .i64 n.kind, .int .i64 n.index, .int .u64 (wd n.set 0), .int .u64 (wd n.set 1), .int .u64 (wd n.set 2), .int .u64 (wd n.set 3), .slice none 0 0] 32)
    simp only [World.size_alloc] at bn bo
    have W0 := Lib.hid (show OfWI w (w.heap.size + 1) (w.heap.size + 1 + 1) n [] (.slice none 0 0) _ from ⟨ga.trans (gb.trans gc), bn, bo, NRowI.start _ _ _ _⟩)
    have BX := Lib.hid bx
    have K0 := Lib.hid (HK.out.grown (ga.trans (gb.trans gc)))
    clear ga gb gc bx bn bo
    go_enter Tryd.func8, Tryd.ntmps8
    go_upto_region 2 with fail
    obtain ⟨q, eq⟩ : ∃ q, q = w.heap.size + 1 := ⟨_, rfl⟩
    obtain ⟨o, eo⟩ : ∃ o, o = q + 1 := ⟨_, rfl⟩
    rw [← eq, ← eo] at W0 ⊢
    have HQ := Lib.hid (show w.heap.size ≤ q ∧ o = q + 1 by omega)
    clear eq eo
    generalize World.alloc _ _ = w1 at W0 BX K0 ⊢
    generalize w.heap.size = x at BX ⊢
    obtain ⟨c0, c1, c2, c3, c4, c5, c6⟩ := seven_cells BX.out
    go_wp2
    clear c0 c1 c2 c3 c4 c5 c6
    go_loopw [5, 16] (fun _ i wr => ∃ (K : List (Ni × Value)) (v : Value), K.length ≤ l.length ∧ i = .int .i64 (K.length : Nat) ∧ Hid (K.map Prod.fst = l.take K.length) ∧ Hid (OfWI w q o n K v wr)) (fun _ i _ => l.length - (intOf i).toNat)
    case atStart => exact ⟨[], _, Nat.zero_le _, rfl, Lib.hid (by simp), W0⟩
    case round =>
      obtain ⟨K, v, hj, rfl, hKl, hW⟩ := hrel
      clear W0 K0 BX
      obtain ⟨va, vc, rfl⟩ := nilOr hW.out.W.O
      by_cases hlt : K.length < l.length
      · obtain ⟨n', hn'⟩ : ∃ n', l[K.length]? = some n' := ⟨_, List.getElem?_eq_getElem hlt⟩
        have HS' := Lib.hid (HS.out n' (List.mem_of_getElem? hn'))
        have HKL := Lib.hid (show K.map Prod.fst ++ [n'] = l.take (K.length + 1) by rw [hKl.out, List.take_add_one, hn']; rfl)
        obtain ⟨b0, off, x0, y0, z0, rfl, hc, hk'⟩ := (HK.out.grown hW.out.G).at hn'
        have c0 : wr.cell? ⟨b0, off + K.length * 7, none⟩ = some (.int .i64 n'.kind) := hc 0 _ rfl
        have c1 := hc 1 _ rfl
        have c2 := hc 2 _ rfl
        have c3 := hc 3 _ rfl
        have c4 := hc 4 _ rfl
        have c5 := hc 5 _ rfl
        have c6 := hc 6 _ rfl
        have ga := World.grownBy_alloc wr (.cells #[.int .i64 n'.kind, .int .i64 n'.index, .int .u64 (wd n'.set 0), .int .u64 (wd n'.set 1), .int .u64 (wd n'.set 2), .int .u64 (wd n'.set 3), .slice x0 y0 z0] 27) none
        have KB := Lib.hid (heap_alloc_new wr (.cells #[.int .i64 n'.kind, .int .i64 n'.index, .int .u64 (wd n'.set 0), .int .u64 (wd n'.set 1), .int .u64 (wd n'.set 2), .int .u64 (wd n'.set 3), .slice x0 y0 z0] 27))
        have OB := Lib.hid (heap_grown ga hW.out.O)
        have K3 := Lib.hid (hk'.grown ga)
        have HWr := Lib.hid (show o < wr.heap.size from (Array.getElem?_eq_some_iff.1 hW.out.O).1)
        have HVB := Lib.hid (show ∀ b, (Value.slice va K.length vc).ownBlock = some b → o < b ∧ b < wr.heap.size from fun b e => by have := hW.out.W.O.lt b e; omega)
        have V2 := Lib.hid (hW.out.W.kept ga (by simp) (fun b hb => by have := HQ.out; omega))
        have N2 := Lib.hid (heap_grown ga hW.out.N)
        have G2 := Lib.hid (hW.out.G.trans ga)
        have hK200 : K.length ≤ 200 := by omega
        clear hc hk' hn' ga
        go_upto_region 5 with fail
        clear c0 c1 c2 c3 c4 c5 c6
        obtain ⟨kb, ekb⟩ : ∃ kb, kb = wr.heap.size := ⟨_, rfl⟩
        rw [← ekb] at KB HVB HWr ⊢
        clear ekb hW
        generalize wr.alloc _ = w2 at KB OB K3 V2 N2 G2 ⊢
        obtain ⟨iu, hiu, hu0, hu1, hu2⟩ := info_parts infoNd
        have IU := Lib.hid hiu; have ZU0 := Lib.hid hu0; have ZU1 := Lib.hid hu1; have ZU2 := Lib.hid hu2
        clear hiu hu0 hu1 hu2
        have CI := Lib.hid (fun W (g : w2.grownBy W none) => HI.out n' x0 y0 z0 W HS'.out (K3.out.grown g))
        have SK := Lib.hid (show ∀ W, w2.grownBy W none → (W.cell? ⟨o, 6, none⟩ = some (.slice va K.length vc) ∧ W.cell? ⟨kb, 0, none⟩ = some (.int .i64 n'.kind) ∧ W.cell? ⟨kb, 1, none⟩ = some (.int .i64 n'.index) ∧ W.cell? ⟨kb, 2, none⟩ = some (.int .u64 (wd n'.set 0)) ∧ W.cell? ⟨kb, 3, none⟩ = some (.int .u64 (wd n'.set 1)) ∧ W.cell? ⟨kb, 4, none⟩ = some (.int .u64 (wd n'.set 2)) ∧ W.cell? ⟨kb, 5, none⟩ = some (.int .u64 (wd n'.set 3)) ∧ W.cell? ⟨kb, 6, none⟩ = some (.slice x0 y0 z0)) from fun W g => ⟨(seven_cells (heap_grown g OB.out)).2.2.2.2.2.2, seven_cells (heap_grown g KB.out)⟩)
        obtain ⟨s0, s1, s2, s3, s4, s5, s6, s7⟩ := SK.out w2 (World.grownBy.refl _ _)
        have hno : some o ≠ (Value.slice va K.length vc).ownBlock := fun e => by have := HVB.out _ e.symm; omega
        have hnk : some kb ≠ (Value.slice va K.length vc).ownBlock := fun e => by have := HVB.out _ e.symm; omega
        have HNO := Lib.hid hno; have HNK := Lib.hid hnk
        clear hno hnk
        go_region_law (first
            | (refine step_callP (by rfl) 8 #[niV n' (.slice x0 y0 z0)] (by go_simp) (CI.out _ (grown_drew (World.grownBy.refl _ _))) ?_; rintro e w5 ⟨⟨xa, xm, xk, rfl, hk5⟩, g5⟩; refine ⟨_, rfl, ?_⟩; have OB5 := Lib.hid (heap_grown ((grown_drew (World.grownBy.refl _ _)).trans g5) OB.out); have KB5 := Lib.hid (heap_grown ((grown_drew (World.grownBy.refl _ _)).trans g5) KB.out); have q5 := (seven_cells OB5.out).2.2.2.2.2.2; have q6 := fun ob => (World.grownBy_alloc w5 ob none).cell q5 (by simp))
            | (refine step_append_lies _ (by rfl) _ _ 30 (by rfl) (o + 1) 32 iu _ 7 72 Tryd.underlying30 IU.out ZU0.out ZU1.out ZU2.out rfl (by decide) (.slice va K.length vc) K.length (flat7I K) (by rfl) ((V2.out.kept (((grown_drew (World.grownBy.refl _ _)).trans g5).trans (World.grownBy_alloc _ _ _)) (by simp) (fun b hb => by have := HQ.out; omega)).O) ⟨_, 0, none⟩ 1 1 (cellsN n' (.slice xa xm xk)) (by rfl) rfl (new_sevenI _ _ _ _ _ (by simp)) (seven_oneI _ _ _ _) (by decide) (by unfold maxLen; omega) (by omega) (by have h1 := (Array.getElem?_eq_some_iff.1 OB5.out).1; simp; omega) _ rfl ?_; intro gg cap w7 hown2 hgrow2 hat hlt2; have O7 := Lib.hid ((hgrow2.block o (by have h1 := (Array.getElem?_eq_some_iff.1 OB5.out).1; simp; omega) HNO.out).trans (heap_grown (World.grownBy_alloc _ _ _) OB5.out)); have KB7 := Lib.hid ((hgrow2.block kb (by have h1 := (Array.getElem?_eq_some_iff.1 KB5.out).1; simp; omega) HNK.out).trans (heap_grown (World.grownBy_alloc _ _ _) KB5.out)); have f7 := four_free O7.out 6; have q7 := (seven_cells O7.out).2.2.2.2.2.2))
        all_goals
          have W5 := Lib.hid (V2.out.kept (((grown_drew (World.grownBy.refl _ _)).trans g5).trans (World.grownBy_alloc w5 (.cells #[.int .i64 n'.kind, .int .i64 n'.index, .int .u64 (wd n'.set 0), .int .u64 (wd n'.set 1), .int .u64 (wd n'.set 2), .int .u64 (wd n'.set 3), .slice xa xm xk] 32) none)) (by simp) (fun b hb => by have := HQ.out; omega))
          have gA := World.grownBy_alloc w5 (.cells #[.int .i64 n'.kind, .int .i64 n'.index, .int .u64 (wd n'.set 0), .int .u64 (wd n'.set 1), .int .u64 (wd n'.set 2), .int .u64 (wd n'.set 3), .slice xa xm xk] 32) none
          have gW := ((grown_drew (World.grownBy.refl w2 none)).trans g5).trans gA
          have K5 := (hk5.weak (q := fun b => (w.heap.size ≤ b ∧ b ≠ q ∧ b ≠ o) ∧ some b ≠ (Value.slice va K.length vc).ownBlock) (fun b _ hb => by
            have h1 := (Array.getElem?_eq_some_iff.1 N2.out).1
            have h2 := (Array.getElem?_eq_some_iff.1 OB.out).1
            have h3 := (Array.getElem?_eq_some_iff.1 KB.out).1
            have h4 := G2.out.size
            have h5 : w2.heap.size ≤ b := hb
            refine ⟨by omega, fun e => ?_⟩
            have := HVB.out _ e.symm; omega)).grown gA
          have W7 := W5.out.step K5 hown2 hgrow2 hat
          have G7 := (G2.out.trans gW).andThen hgrow2 (fun b e => .inl (by have := HVB.out _ e; have := HQ.out; omega))
          have N7 := (hgrow2.block q (by have h1 := (Array.getElem?_eq_some_iff.1 (heap_grown gW N2.out)).1; exact h1) (fun e => by have := HVB.out _ e.symm; have := HQ.out; omega)).trans (heap_grown gW N2.out)
          have gs := grown_st w7 o 6 (.slice (some ⟨gg, 0, none⟩) (K.length + 1) cap)
          have HF := Lib.hid (show OfWI w q o n (K ++ [(n', .slice xa xm xk)]) (.slice (some ⟨gg, 0, none⟩) (K.length + 1) cap) (w7.setCell ⟨o, 6, none⟩ (.slice (some ⟨gg, 0, none⟩) (K.length + 1) cap)) from
            ⟨grown_set G7 _ _ (by have := HQ.out; omega), (heap_setCell_other w7 ⟨o, 6, none⟩ q _ (by have := HQ.out; show q ≠ o; omega)).trans N7, heap_setCell_same w7 o 6 _ _ _ O7.out,
             W7.kept gs (fun b hb => by simp only [ne_eq, Option.some.injEq]; exact hb.2.2) (fun b hb => by have := HQ.out; omega)⟩)
          clear W5 gA gW K5 W7 G7 N7 gs hown2 hgrow2 hat hlt2 q5 q6 q7 f7 g5 hk5
          go_wp2
          go_roundw
          case rel => exact ⟨_, _, by simp; omega, by simp, by rw [List.length_append]; exact Lib.hid (by rw [List.map_append]; exact HKL.out), HF⟩
          case measure => simp [intOf]; omega
      · have HKL := Lib.hid (show K.map Prod.fst = n.kids by rw [hKl.out, HL.out, List.take_of_length_le (by omega)])
        have KN := (hW.out.W.kids (fun b hb => by have := HQ.out; omega))
        rw [HKL.out] at KN
        have KN := Lib.hid KN
        have hd : decide (K.length < l.length) = false := decide_eq_false hlt
        have N1 := Lib.hid hW.out.N
        have O1 := Lib.hid hW.out.O
        have G1 := Lib.hid hW.out.G
        clear hW hKl HKL hj hlt
        generalize K.length = kl at *
        obtain ⟨r0, r1, r2, r3, r4, r5, r6⟩ := seven_cells N1.out
        obtain ⟨x0, x1, x2, x3, x4, x5, x6⟩ := seven_cells O1.out
        have fr := four_free N1.out
        go_wp2
        refine bodyPost_ret (v := niV n (.slice va kl vc)) (back_ni1 32 Tryd.underlying32 sizeNd Tryd.results8 rfl (set_seven N1.out _ _ _ _ _ _ _)) rfl ?_
        exact ⟨⟨va, kl, vc, rfl, (KN.out.seven _ _ _ _ _ _ _ fun b hb => hb.2.1).weak fun b _ hb => hb.1⟩, grown7 G1.out (by have := HQ.out; omega)⟩
end Go.Proofs.YtlkjejmmoalliaaDoor

/- Nodes of nodes that a law makes; whether two nodes span the same. A region that draws its order and only makes memory: what holds of each operation's answer, in any world that has grown. -/
import Derived.Test.YtlkjejmmoalliaaDoorDenAlive
import Derived.Test.YtlkjejmmoalliaaDoorPgLOf
import Derived.Deep.RegionHeld3
import Derived.Test.YtlkjejmmoalliaaDoorRegOwn
namespace Go.Proofs.YtlkjejmmoalliaaDoor
open Go.RowKit

/-- nodes in a new block -/
theorem kids_block {w : World} {b c : Nat} {T : TypeId} {L : List (Ni × Value)} (h : w.heap[b]? = some (.cells (flat7I L).toArray T (0, 0))) (hl : L ≠ []) (hc : L.length ≤ c) (hk : ∀ p ∈ L, KidsE w p.2 p.1.kids) :
    KidsE w (.slice (some ⟨b, 0, none⟩) L.length c) (L.map Prod.fst) := by
  have e : L.length = (L.map Prod.fst).length := by simp
  rw [e]
  refine .items b 0 c (L.map Prod.fst) (fun k => (L[k]?.map Prod.snd).getD undef) (by simpa using hl) trivial (by simpa using hc) (fun k n hn j u hu => ?_) (fun k n hn => ?_)
  · rw [List.getElem?_map] at hn
    cases hx : L[k]? with
    | none => rw [hx] at hn; cases hn
    | some p =>
      obtain ⟨n', kv⟩ := p
      rw [hx] at hn hu
      simp at hn hu
      subst hn
      have h1 := flat7I_get L k n' kv hx j u hu
      rw [show 0 + k * 7 + j = k * 7 + j by omega, cell_of_row w b (k * 7 + j) _ _ _ h]
      simpa using h1
  · rw [List.getElem?_map] at hn
    cases hx : L[k]? with
    | none => rw [hx] at hn; cases hn
    | some p =>
      rw [hx] at hn
      simp at hn ⊢
      subst hn
      exact hk p (List.mem_of_getElem? hx)
theorem run_row1 (n : Ni) (w : World) (a : Option Addr) (m c : Nat) : (Instr.buildSlice 25 1 #[(0, niV n (.slice a m c))]).run Tryd.prog w = .ok (.slice (some ⟨w.heap.size, 0, none⟩) 1 1) (w.alloc (.cells (cellsN n (.slice a m c)).toArray 27)) := by
  kernel_rfl
theorem run_row2 (n n' : Ni) (w : World) (a a' : Option Addr) (m c m' c' : Nat) : (Instr.buildSlice 25 2 #[(0, niV n (.slice a m c)), (1, niV n' (.slice a' m' c'))]).run Tryd.prog w = .ok (.slice (some ⟨w.heap.size, 0, none⟩) 2 2) (w.alloc (.cells (cellsN n (.slice a m c) ++ cellsN n' (.slice a' m' c')).toArray 27)) := by
  kernel_rfl
/-- a node as a value; a row of nodes -/
def NodeH (w : World) (v : Value) (n : Ni) : Prop := ∃ a m c, v = niV n (.slice a m c) ∧ KidsE w (.slice a m c) n.kids
def RowH (w : World) (v : Value) (l : List Ni) : Prop := ∃ a c, v = .slice a l.length c ∧ KidsE w (.slice a l.length c) l
theorem NodeH.grown {w w' : World} {v : Value} {n : Ni} (h : NodeH w v n) (g : w.grownBy w' none) : NodeH w' v n := by
  obtain ⟨a, m, c, e, hk⟩ := h; exact ⟨a, m, c, e, hk.grown g⟩
theorem RowH.grown {w w' : World} {v : Value} {l : List Ni} (h : RowH w v l) (g : w.grownBy w' none) : RowH w' v l := by
  obtain ⟨a, c, e, hk⟩ := h; exact ⟨a, c, e, hk.grown g⟩
theorem row1 {w : World} {b : Nat} {T : TypeId} {n : Ni} {a : Option Addr} {m c : Nat} (h : w.heap[b]? = some (.cells (cellsN n (.slice a m c)).toArray T (0, 0))) (hk : KidsE w (.slice a m c) n.kids) : KidsE w (.slice (some ⟨b, 0, none⟩) 1 1) [n] :=
  kids_block (L := [(n, .slice a m c)]) (by simpa [flat7I] using h) (by simp) (by simp) (fun p hp => by simp at hp; subst hp; exact hk)
theorem row2 {w : World} {b : Nat} {T : TypeId} {n n' : Ni} {a a' : Option Addr} {m c m' c' : Nat} (h : w.heap[b]? = some (.cells (cellsN n (.slice a m c) ++ cellsN n' (.slice a' m' c')).toArray T (0, 0))) (hk : KidsE w (.slice a m c) n.kids) (hk' : KidsE w (.slice a' m' c') n'.kids) :
    KidsE w (.slice (some ⟨b, 0, none⟩) 2 2) [n, n'] :=
  kids_block (L := [(n, .slice a m c), (n', .slice a' m' c')]) (by simpa [flat7I] using h) (by simp) (by simp) (fun p hp => by simp at hp; rcases hp with rfl | rfl; exact hk; exact hk')
abbrev zero7 : Array Value := #[.int .i64 0, .int .i64 0, .int .u64 0, .int .u64 0, .int .u64 0, .int .u64 0, .slice none 0 0]
theorem set_mk {w : World} {r : Nat} {T : TypeId} {a0 a1 a2 a3 a4 a5 a6 : Value} (k : Int) (l : List Ni) (v : Value) (h : w.heap[r]? = some (.cells #[a0, a1, a2, a3, a4, a5, a6] T (0, 0))) :
    (((((((w.setCell ⟨r, 0, none⟩ (.int .i64 k)).setCell ⟨r, 1, none⟩ (.int .i64 0)).setCell ⟨r, 2, none⟩ (.int .u64 0)).setCell ⟨r, 3, none⟩ (.int .u64 0)).setCell ⟨r, 4, none⟩ (.int .u64 0)).setCell ⟨r, 5, none⟩ (.int .u64 0)).setCell ⟨r, 6, none⟩ v).heap[r]? = some (.cells #[.int .i64 (Ni.mk k 0 emp l).kind, .int .i64 (Ni.mk k 0 emp l).index, .int .u64 (wd (Ni.mk k 0 emp l).set 0), .int .u64 (wd (Ni.mk k 0 emp l).set 1), .int .u64 (wd (Ni.mk k 0 emp l).set 2), .int .u64 (wd (Ni.mk k 0 emp l).set 3), v] T (0, 0)) := by
  show _ = some (Obj.cells #[.int .i64 k, .int .i64 0, .int .u64 (wd emp 0), .int .u64 (wd emp 1), .int .u64 (wd emp 2), .int .u64 (wd emp 3), _] T (0, 0))
  rw [wd_emp, wd_emp, wd_emp, wd_emp]; exact set_seven h _ _ _ _ _ _ _
theorem grown7K {w w1 : World} (h : w.grownBy w1 none) {b : Nat} (v0 v1 v2 v3 v4 v5 v6 : Value) (hb : w.heap.size ≤ b) :
    w.grownBy (((((((w1.setCell ⟨b, 0, none⟩ v0).setCell ⟨b, 1, none⟩ v1).setCell ⟨b, 2, none⟩ v2).setCell ⟨b, 3, none⟩ v3).setCell ⟨b, 4, none⟩ v4).setCell ⟨b, 5, none⟩ v5).setCell ⟨b, 6, none⟩ v6) none :=
  grown_set (grown_set (grown_set (grown_set (grown_set (grown_set (grown_set h _ _ hb) _ _ hb) _ _ hb) _ _ hb) _ _ hb) _ _ hb) _ _ hb
/-- what a call leaves that makes a node -/
def MakesN (n : Ni) (w : World) (e : Ending) (w' : World) : Prop := (∃ v, e = .returned v ∧ NodeH w' v n) ∧ w.grownBy w' none
set_option maxRecDepth 100000 in
set_option maxHeartbeats 2000000 in
theorem cStarN (n : Ni) (v : Value) (w : World) (h : NodeH w v n) : Calls Tryd.prog 18 #[v] w (MakesN (starI n) w) := by
  obtain ⟨a, m, c, rfl, hK⟩ := h
  obtain ⟨b1, b2, g⟩ := heap2 w (.cells #[.int .i64 n.kind, .int .i64 n.index, .int .u64 (wd n.set 0), .int .u64 (wd n.set 1), .int .u64 (wd n.set 2), .int .u64 (wd n.set 3), .slice a m c] 27) (.cells zero7 27)
  have B1 := Lib.hid b1
  have R1 := Lib.hid b2
  have K0 := Lib.hid hK
  have G1 := Lib.hid g
  clear b1 b2 g hK
  go_enter Tryd.func18, Tryd.ntmps18
  go_upto_region 1 with fail
  generalize World.alloc _ _ = w1 at B1 R1 G1 ⊢
  obtain ⟨q, eq⟩ : ∃ q, q = w.heap.size := ⟨_, rfl⟩
  obtain ⟨r, er⟩ : ∃ r, r = q + 1 := ⟨_, rfl⟩
  rw [← eq] at B1 R1 ⊢
  rw [← er] at R1 ⊢
  have HR := Lib.hid (show w.heap.size ≤ r by omega)
  clear eq er
  obtain ⟨c0, c1, c2, c3, c4, c5, c6⟩ := seven_cells B1.out
  have ga := World.grownBy_alloc w1 (.cells #[.int .i64 n.kind, .int .i64 n.index, .int .u64 (wd n.set 0), .int .u64 (wd n.set 1), .int .u64 (wd n.set 2), .int .u64 (wd n.set 3), .slice a m c] 27) none
  have R2 := Lib.hid (heap_grown ga R1.out)
  have N2 := Lib.hid (heap_alloc_new w1 (.cells #[.int .i64 n.kind, .int .i64 n.index, .int .u64 (wd n.set 0), .int .u64 (wd n.set 1), .int .u64 (wd n.set 2), .int .u64 (wd n.set 3), .slice a m c] 27))
  have G2 := Lib.hid (G1.out.trans ga)
  have HNE := Lib.hid (show w1.heap.size ≠ r by have := cells_lt R1.out; omega)
  clear ga
  obtain ⟨r0, r1, r2, r3, r4, r5, r6⟩ := seven_cells R2.out
  have f0 := four_free R2.out
  go_wp2
  refine bodyPost_ret (v := niV (starI n) (.slice (some ⟨w1.heap.size, 0, none⟩) 1 1)) (back_ni1 27 Tryd.underlying27 sizeNd28 Tryd.results18 rfl (set_mk 4 [n] _ R2.out)) rfl ?_
  have g7 := grown7K G2.out (.int .i64 4) (.int .i64 0) (.int .u64 0) (.int .u64 0) (.int .u64 0) (.int .u64 0) (.slice (some ⟨w1.heap.size, 0, none⟩) 1 1) HR.out
  refine ⟨⟨_, rfl, _, _, _, rfl, row1 (n := n) (a := a) (m := m) (c := c) (T := 27) ?_ (K0.out.grown g7)⟩, g7⟩
  rw [heap_setCell_other _ _ _ _ HNE.out, heap_setCell_other _ _ _ _ HNE.out, heap_setCell_other _ _ _ _ HNE.out, heap_setCell_other _ _ _ _ HNE.out, heap_setCell_other _ _ _ _ HNE.out, heap_setCell_other _ _ _ _ HNE.out, heap_setCell_other _ _ _ _ HNE.out]
  exact N2.out
set_option maxRecDepth 100000 in
set_option maxHeartbeats 2000000 in
theorem cCat (l : List Ni) (v : Value) (w : World) (h : RowH w v l) : Calls Tryd.prog 16 #[v] w (MakesN (catI l) w) := by
  obtain ⟨a, c, rfl, hK⟩ := h
  have R1 := Lib.hid (heap_alloc_new w (.cells zero7 27))
  have K0 := Lib.hid hK
  have G1 := Lib.hid (World.grownBy_alloc w (.cells zero7 27) none)
  have HR := Lib.hid (Nat.le_refl w.heap.size)
  clear hK
  go_enter Tryd.func16, Tryd.ntmps16
  go_upto_region 1 with fail
  generalize World.alloc _ _ = w1 at R1 G1 ⊢
  obtain ⟨r, er⟩ : ∃ r, r = w.heap.size := ⟨_, rfl⟩
  rw [← er] at R1 ⊢
  have HR := Lib.hid (show w.heap.size ≤ r by omega)
  clear er
  obtain ⟨r0, r1, r2, r3, r4, r5, r6⟩ := seven_cells R1.out
  have f0 := four_free R1.out
  go_wp2
  refine bodyPost_ret (v := niV (catI l) (.slice a l.length c)) (back_ni1 27 Tryd.underlying27 sizeNd28 Tryd.results16 rfl (set_mk 2 l _ R1.out)) rfl ?_
  have g7 := grown7K G1.out (.int .i64 2) (.int .i64 0) (.int .u64 0) (.int .u64 0) (.int .u64 0) (.int .u64 0) (.slice a l.length c) HR.out
  exact ⟨⟨_, rfl, _, _, _, rfl, K0.out.grown g7⟩, g7⟩
set_option maxRecDepth 100000 in
set_option maxHeartbeats 2000000 in
theorem cAlt2 (l : List Ni) (v : Value) (w : World) (h : RowH w v l) : Calls Tryd.prog 19 #[v] w (MakesN (altI l) w) := by
  obtain ⟨a, c, rfl, hK⟩ := h
  have R1 := Lib.hid (heap_alloc_new w (.cells zero7 27))
  have K0 := Lib.hid hK
  have G1 := Lib.hid (World.grownBy_alloc w (.cells zero7 27) none)
  clear hK
  go_enter Tryd.func19, Tryd.ntmps19
  go_upto_region 1 with fail
  generalize World.alloc _ _ = w1 at R1 G1 ⊢
  obtain ⟨r, er⟩ : ∃ r, r = w.heap.size := ⟨_, rfl⟩
  rw [← er] at R1 ⊢
  have HR := Lib.hid (show w.heap.size ≤ r by omega)
  clear er
  obtain ⟨r0, r1, r2, r3, r4, r5, r6⟩ := seven_cells R1.out
  have f0 := four_free R1.out
  go_wp2
  refine bodyPost_ret (v := niV (altI l) (.slice a l.length c)) (back_ni1 27 Tryd.underlying27 sizeNd28 Tryd.results19 rfl (set_mk 3 l _ R1.out)) rfl ?_
  have g7 := grown7K G1.out (.int .i64 3) (.int .i64 0) (.int .u64 0) (.int .u64 0) (.int .u64 0) (.int .u64 0) (.slice a l.length c) HR.out
  exact ⟨⟨_, rfl, _, _, _, rfl, K0.out.grown g7⟩, g7⟩
theorem EndsL.as {n n' : Ni} {s : ByteArray} {fr : Int} {l : List Nat} (h : EndsL n s fr l) (hr : rgtN n = true) (hr' : rgtN n' = true) (hs : SameI s n n') : EndsL n' s fr l :=
  ⟨h.1, fun r => by rw [h.2 r, hr, hr', hs]⟩
set_option maxRecDepth 100000 in
set_option maxHeartbeats 4000000 in
theorem cSame10 (x y : Ni) (v u : Value) (s : ByteArray) (w : World) (hx : NodeH w v x) (hy : NodeH w u y) (sx : szN x ≤ 200) (sy : szN y ≤ 200) (hs : s.size ≤ 100) (rx : rgtN x = true) (ry : rgtN y = true) (hS : SameI s x y) :
    Calls Tryd.prog 17 #[v, u, .string s] w fun e w' => e = .returned (.bool true) ∧ w.grownBy w' none := by
  obtain ⟨a, m, c, rfl, hK⟩ := hx
  obtain ⟨a', m', c', rfl, hK'⟩ := hy
  obtain ⟨b1, b2, g⟩ := heap2 w (.cells #[.int .i64 x.kind, .int .i64 x.index, .int .u64 (wd x.set 0), .int .u64 (wd x.set 1), .int .u64 (wd x.set 2), .int .u64 (wd x.set 3), .slice a m c] 27) (.cells #[.int .i64 y.kind, .int .i64 y.index, .int .u64 (wd y.set 0), .int .u64 (wd y.set 1), .int .u64 (wd y.set 2), .int .u64 (wd y.set 3), .slice a' m' c'] 27)
  have CX := Lib.hid (fun fr W (g : w.grownBy W none) => cEndsF x a m c fr s W sx hs (hK.grown g))
  have CY := Lib.hid (fun fr W (g : w.grownBy W none) => cEndsF y a' m' c' fr s W sy hs (hK'.grown g))
  have HA := Lib.hid (fun fr l (h : EndsL x s fr l) => h.as rx ry hS)
  have B1 := Lib.hid b1
  have B2 := Lib.hid b2
  have G1 := Lib.hid g
  clear b1 b2 g hK hK' sx sy rx ry hS
  go_enter Tryd.func17, Tryd.ntmps17
  go_upto_region 1 with fail
  generalize World.alloc _ _ = w1 at B1 B2 G1 ⊢
  generalize w.heap.size = q at B1 B2 ⊢
  obtain ⟨r, er⟩ : ∃ r, r = q + 1 := ⟨_, rfl⟩
  rw [← er] at B2 ⊢
  clear er
  go_wp2
  go_loopw [7] (fun i wr => ∃ f : Nat, f ≤ s.size + 1 ∧ i = .int .i64 f ∧ Hid (w1.grownBy wr none)) (fun i _ => s.size + 1 - (intOf i).toNat)
  case atStart => exact ⟨0, by omega, rfl, Lib.hid (World.grownBy.refl _ _)⟩
  case round =>
    obtain ⟨f, hf, rfl, hG⟩ := hrel
    by_cases hlt : f ≤ s.size
    · have SK := Lib.hid (show ∀ W, wr.grownBy W none → ((W.cell? ⟨q, 0, none⟩ = some (.int .i64 x.kind) ∧ W.cell? ⟨q, 1, none⟩ = some (.int .i64 x.index) ∧ W.cell? ⟨q, 2, none⟩ = some (.int .u64 (wd x.set 0)) ∧ W.cell? ⟨q, 3, none⟩ = some (.int .u64 (wd x.set 1)) ∧ W.cell? ⟨q, 4, none⟩ = some (.int .u64 (wd x.set 2)) ∧ W.cell? ⟨q, 5, none⟩ = some (.int .u64 (wd x.set 3)) ∧ W.cell? ⟨q, 6, none⟩ = some (.slice a m c)) ∧ (W.cell? ⟨r, 0, none⟩ = some (.int .i64 y.kind) ∧ W.cell? ⟨r, 1, none⟩ = some (.int .i64 y.index) ∧ W.cell? ⟨r, 2, none⟩ = some (.int .u64 (wd y.set 0)) ∧ W.cell? ⟨r, 3, none⟩ = some (.int .u64 (wd y.set 1)) ∧ W.cell? ⟨r, 4, none⟩ = some (.int .u64 (wd y.set 2)) ∧ W.cell? ⟨r, 5, none⟩ = some (.int .u64 (wd y.set 3)) ∧ W.cell? ⟨r, 6, none⟩ = some (.slice a' m' c'))) from fun W g => ⟨seven_cells (heap_grown (hG.out.trans g) B1.out), seven_cells (heap_grown (hG.out.trans g) B2.out)⟩)
      have CX2 := Lib.hid (fun W (g : wr.grownBy W none) => CX.out f W ((G1.out.trans hG.out).trans g))
      have CY2 := Lib.hid (fun W (g : wr.grownBy W none) => CY.out f W ((G1.out.trans hG.out).trans g))
      go_upto_region 4 with fail
      obtain ⟨⟨c0, c1, c2, c3, c4, c5, c6⟩, d0, d1, d2, d3, d4, d5, d6⟩ := SK.out _ (World.grownBy.refl _ _)
      have gd := grown_drew (World.grownBy.refl wr none)
      go_region_held3 (fun W => (W.cell? ⟨q, 0, none⟩ = some (.int .i64 x.kind) ∧ W.cell? ⟨q, 1, none⟩ = some (.int .i64 x.index) ∧ W.cell? ⟨q, 2, none⟩ = some (.int .u64 (wd x.set 0)) ∧ W.cell? ⟨q, 3, none⟩ = some (.int .u64 (wd x.set 1)) ∧ W.cell? ⟨q, 4, none⟩ = some (.int .u64 (wd x.set 2)) ∧ W.cell? ⟨q, 5, none⟩ = some (.int .u64 (wd x.set 3)) ∧ W.cell? ⟨q, 6, none⟩ = some (.slice a m c)) ∧ (W.cell? ⟨r, 0, none⟩ = some (.int .i64 y.kind) ∧ W.cell? ⟨r, 1, none⟩ = some (.int .i64 y.index) ∧ W.cell? ⟨r, 2, none⟩ = some (.int .u64 (wd y.set 0)) ∧ W.cell? ⟨r, 3, none⟩ = some (.int .u64 (wd y.set 1)) ∧ W.cell? ⟨r, 4, none⟩ = some (.int .u64 (wd y.set 2)) ∧ W.cell? ⟨r, 5, none⟩ = some (.int .u64 (wd y.set 3)) ∧ W.cell? ⟨r, 6, none⟩ = some (.slice a' m' c')))
        (first
          | exact SK.out _ (gd.trans (gx.trans (gy.trans gz)))
          | exact SK.out _ (gd.trans (gx.trans gy))
          | exact SK.out _ (gd.trans gx)
          | exact SK.out _ gd
          | (go_keep; done))
        (first
          | (go_at_call 11; (with_reducible refine (CX2.out _ gd).mono ?_); rintro e w9 ⟨gx, v9, l9, rfl, o9, hl9⟩; have I9 := Lib.hid (irow_owns o9); have HE9 := Lib.hid (HA.out _ _ hl9); have HN9 := Lib.hid hl9.len; obtain ⟨va9, vc9, rfl⟩ := owns_shape o9; clear o9 hl9)
          | (go_at_call 11; (with_reducible refine (CY2.out _ (gd.trans gx)).mono ?_); rintro e w10 ⟨gy, v10, l10, rfl, o10, hl10⟩; obtain rfl : l9 = l10 := (hl10.same HE9.out).symm; have CS := Lib.hid (cSameI (.slice va9 l9.length vc9) v10 (castN l9) w10 (by have := HN9.out; simp; omega) (I9.out.grown gy) (irow_owns o10)); obtain ⟨va10, vc10, rfl⟩ := owns_shape o10; clear o10 hl10)
          | (go_at_call 12; (with_reducible refine (CS.out).mono ?_); rintro e w11 ⟨rfl, gz⟩))
      have G11 := Lib.hid (hG.out.trans (gd.trans (gx.trans (gy.trans gz))))
      clear gd gx gy gz c0 c1 c2 c3 c4 c5 c6 d0 d1 d2 d3 d4 d5 d6
      go_wp2
      go_roundw
      case rel => exact ⟨f + 1, by omega, by go_num, G11⟩
      case measure => simp [intOf]; omega
    · go_wp2
      go_ret
      exact ⟨rfl, G1.out.trans hG.out⟩
end Go.Proofs.YtlkjejmmoalliaaDoor

namespace Go.Proofs.YtlkjejmmoalliaaDoor
open Go.RowKit

/-- what an operation's answer is -/
inductive Srt where
  | node (n : Ni) | row (l : List Ni) | bool (b : Bool) | text (s : ByteArray)
def Hld (w : World) (v : Value) : Srt → Prop
  | .node n => NodeH w v n
  | .row l => RowH w v l
  | .bool b => v = .bool b
  | .text s => v = .string s
theorem Hld.grown {w w' : World} {v : Value} {S : Srt} (h : Hld w v S) (g : w.grownBy w' none) : Hld w' v S := by
  cases S with
  | node n => exact NodeH.grown h g
  | row l => exact RowH.grown h g
  | bool b => exact h
  | text s => exact h
/-- some operations are done: each has given its slot what its answer is to be -/
structure MS (ops : Array Oper) (kO : Nat → Nat) (S : Nat → Srt) (w0 : World) (a0 : Act) (L : Nat → Bool) (a : Act) (w : World) : Prop where
  d : a.defers = a0.defers
  z : a.tmps.size = a0.tmps.size
  o : ∀ k, (∀ i, i < ops.size → kO i ≠ k) → a.tmps[k]? = a0.tmps[k]?
  g : w0.grownBy w none
  E : ∀ i, i < ops.size → L i = true → Hld w (sl a (kO i)) (S i)
section
variable {ops : Array Oper} {kO : Nat → Nat} {S : Nat → Srt} {w0 : World} {a0 : Act} {L : Nat → Bool} {a : Act} {w : World}
theorem MS.start (w : World) (a0 : Act) : MS ops kO S w a0 (fun _ => false) a0 w.drew :=
  ⟨rfl, rfl, fun _ _ => rfl, grown_drew (World.grownBy.refl w none), fun _ _ h => (by cases h)⟩
theorem MS.slot (h : MS ops kO S w0 a0 L a w) {k : Nat} {v : Value} (hk : ∀ i, i < ops.size → kO i ≠ k) (h0 : a0.tmps[k]? = some v) : a.eval (.tmp k) = v := by
  show sl a k = v
  unfold sl; rw [Array.getD_eq_getD_getElem?, h.o k hk, h0]; rfl
theorem MS.next (h : MS ops kO S w0 a0 L a w) {i : Nat} (hi : i < ops.size) (hinj : ∀ j, j < ops.size → kO j = kO i → j = i) (hk : kO i < a0.tmps.size) {w' : World} {v : Value} (g : w.grownBy w' none) (hv : Hld w' v (S i)) :
    MS ops kO S w0 a0 (fun j => j == i || L j) (a.put (some (kO i)) v) w' := by
  have hk' : kO i < a.tmps.size := by rw [h.z]; exact hk
  refine ⟨h.d, (put_size _ _ _).trans h.z, fun k hk0 => ?_, h.g.trans g, fun j hj hL => ?_⟩
  · rw [put_get _ (fun e => hk0 i hi e.symm)]; exact h.o k hk0
  · by_cases e : j = i
    · subst e; rw [sl_same _ hk']; exact hv
    · rw [sl_other _ (fun e2 => e (hinj j hj e2))]
      exact (h.E j hj (by simpa [e] using hL)).grown g
end
/-- one operation -/
theorem wp_calledE {P : Program} {o : Oper} {a : Act} {w : World} {K : Act → World → Prop} {Q : Exit → Act → World → Prop} {f : FuncId} {args : Array Value} {R : Value → World → Prop} (hrun : (execOp a.eval o).run P w = .ok (.enter f args) w)
    (hc : Calls P f args w fun e w' => ∃ v, e = .returned v ∧ R v w') (h : ∀ v w', R v w' → K (a.put o.dst v) w') : o.wp P a w K Q := by
  unfold Oper.wp
  rw [hrun, Oper.upon_enter]
  exact hc.mono fun e w' ⟨v, he, hr⟩ => by subst he; exact h v w' hr
theorem wpOp_grd {P : Program} {ops : Array Oper} {Q : Exit → Act → World → Prop} {i : Nat} {o : Oper} {K : Act → World → Prop} {a : Act} {w : World} (ho : ops[i]? = some o) (hg : Region.wanted o (yielded ops a.tmps) = true) (h : o.wp P a w K Q) : wpOp P ops Q i K a w := by
  unfold wpOp
  rw [ho]
  simp only [hg, if_true]
  exact .inl h
theorem wanted_none {o : Oper} {f : Nat → Option Bool} (h : o.guard = none) : Region.wanted o f = true := by unfold Region.wanted; rw [h]
theorem wanted_some {o oj : Oper} {ops : Array Oper} {a : Act} {j k : Nat} {b : Bool} (h : o.guard = some (j, b)) (hj : ops[j]? = some oj) (hd : oj.dst = some k) (hv : sl a k = .bool b) : Region.wanted o (yielded ops a.tmps) = true := by
  unfold Region.wanted
  rw [h]
  unfold yielded
  dsimp only
  rw [hj]
  simp only [Option.bind_some, hd]
  unfold sl at hv
  rw [Array.getD_eq_getD_getElem?] at hv
  cases e : a.tmps[k]? with
  | none => rw [e] at hv; simp [undef] at hv
  | some v => rw [e] at hv; simp at hv; subst hv; simp
/-- what is asked of each operation: its slot is its own -/
structure Fit (ops : Array Oper) (kO : Nat → Nat) (a0 : Act) : Prop where
  inj : ∀ i j, i < ops.size → j < ops.size → kO j = kO i → j = i
  lt : ∀ i, i < ops.size → kO i < a0.tmps.size
  dst : ∀ i o, ops[i]? = some o → o.dst = some (kO i)
theorem fit_of {ops : Array Oper} {kO : Nat → Nat} {a0 : Act} (h1 : ∀ i j, i < ops.size → j < ops.size → kO j = kO i → j = i) (h2 : ∀ i, i < ops.size → kO i < a0.tmps.size)
    (h3 : ((List.range ops.size).all fun i => match ops[i]? with | some o => o.dst == some (kO i) | none => true) = true) : Fit ops kO a0 :=
  ⟨h1, h2, fun i o ho => by
    have := List.all_eq_true.1 h3 i (by simpa using (Array.getElem?_eq_some_iff.1 ho).1)
    rw [ho] at this
    simpa using this⟩
/-- a region that draws its order, by what each operation's answer is -/
theorem wp_region_srt {P : Program} {id : Nat} {Q : Exit → Act → World → Prop} {a : Act} {w : World} {ops : Array Oper} (hm : P.follows .mixedOrders = true) (hB : lexOnly ops = true) (kO : Nat → Nat) (S : Nat → Srt) (ks : List Nat) (hks : (List.range ops.size).map kO = ks) (F : Fit ops kO a)
    (hstep : Fit ops kO a → ∀ L a' w' i o, ops[i]? = some o → MS ops kO S w a L a' w' → L i = false → (∀ j ∈ depsOf o, L j = true) → wpOp P ops Q i (fun a'' w'' => MS ops kO S w a (fun j => j == i || L j) a'' w'') a' w')
    (hend : ∀ (u : Nat → Value) (w' : World), w.grownBy w' none → (∀ i, i < ops.size → Hld w' (u (kO i)) (S i)) → Q .normal (putL a (ks.map fun k => (k, u k))) w') : (Code.region id ops true).wp P Q a w := by
  refine wp_region_inv hm (fun a0 L a' w' => MS ops kO S w a0 L a' w') (MS.start w a) (hstep F) fun L a' w' h hall => ?_
  have done := all_done hB hall ops.size
  have e : a' = putL a ((List.range ops.size).map fun i => (kO i, sl a' (kO i))) := by
    obtain ⟨ta, da⟩ := a'
    obtain ⟨t0, d0⟩ := a
    have hd := h.d
    simp only at hd
    subst hd
    unfold putL
    congr 1
    apply Array.ext_getElem?
    intro k
    rw [putL_get _ _ (fun k => sl ⟨ta, da⟩ k) (fun p hp => by obtain ⟨i, -, rfl⟩ := List.mem_map.1 hp; rfl) k]
    by_cases h1 : k ∈ (((List.range ops.size).map fun i => (kO i, sl ⟨ta, da⟩ (kO i))).map Prod.fst)
    · have hk2 : ∃ i, i < ops.size ∧ kO i = k := by
        rw [List.map_map] at h1
        obtain ⟨i, hi, rfl⟩ := List.mem_map.1 h1
        exact ⟨i, by simpa using hi, rfl⟩
      obtain ⟨i, hi, rfl⟩ := hk2
      have h2 := F.lt i hi
      have h3 : kO i < ta.size := by have := h.z; simp only at this h2; omega
      rw [if_pos ⟨h1, h2⟩]
      unfold sl
      simp [h3]
    · rw [if_neg (fun e => h1 e.1)]
      refine h.o k fun i hi e => h1 ?_
      rw [List.map_map]
      exact List.mem_map.2 ⟨i, by simpa using hi, e⟩
  have hl := hend (sl a') w' h.g fun i hi => h.E i hi (done i hi hi)
  rw [← hks, List.map_map] at hl
  rw [e]
  exact hl
section
variable {ops : Array Oper} {kO : Nat → Nat} {S : Nat → Srt} {w0 : World} {a0 : Act} {L : Nat → Bool} {a : Act} {w : World} {Q : Exit → Act → World → Prop} {i j1 j2 : Nat} {o : Oper}
theorem lt_of_at (ho : ops[i]? = some o) : i < ops.size := (Array.getElem?_eq_some_iff.1 ho).1
theorem MS.val (R : MS ops kO S w0 a0 L a w) (F : Fit ops kO a0) (ho : ops[i]? = some o) (hw : Region.wanted o (yielded ops a.tmps) = true) {v : Value} {w' : World} (hrun : (execOp a.eval o).run Tryd.prog w = .ok (.value v) w') (g : w.grownBy w' none) (hv : Hld w' v (S i)) :
    wpOp Tryd.prog ops Q i (fun a'' w'' => MS ops kO S w0 a0 (fun j => j == i || L j) a'' w'') a w := by
  refine wpOp_grd ho hw (wp_made hrun ?_)
  rw [F.dst i o ho]
  exact R.next (lt_of_at ho) (fun j hj e => F.inj i j (lt_of_at ho) hj e) (F.lt i (lt_of_at ho)) g hv
theorem MS.called (R : MS ops kO S w0 a0 L a w) (F : Fit ops kO a0) (ho : ops[i]? = some o) (hw : Region.wanted o (yielded ops a.tmps) = true) {f : FuncId} {args : Array Value} (hrun : (execOp a.eval o).run Tryd.prog w = .ok (.enter f args) w)
    (hc : Calls Tryd.prog f args w fun e w' => ∃ v, e = .returned v ∧ Hld w' v (S i) ∧ w.grownBy w' none) : wpOp Tryd.prog ops Q i (fun a'' w'' => MS ops kO S w0 a0 (fun j => j == i || L j) a'' w'') a w := by
  refine wpOp_grd ho hw (wp_calledE (R := fun v w' => Hld w' v (S i) ∧ w.grownBy w' none) hrun hc fun v w' ⟨hv, g⟩ => ?_)
  rw [F.dst i o ho]
  exact R.next (lt_of_at ho) (fun j hj e => F.inj i j (lt_of_at ho) hj e) (F.lt i (lt_of_at ho)) g hv
theorem MS.at (R : MS ops kO S w0 a0 L a w) (h : j1 < ops.size) (l : L j1 = true) {x : Srt} (s : S j1 = x) : Hld w (a.eval (.tmp (kO j1))) x := s ▸ R.E j1 h l
theorem MS.load (R : MS ops kO S w0 a0 L a w) (F : Fit ops kO a0) (ho : ops[i]? = some o) (hw : Region.wanted o (yielded ops a.tmps) = true) {p q : Nat} {n : Ni} {av : Option Addr} {m c : Nat} (hop : o.op = .load 27 (.tmp p)) (hp : ∀ j, j < ops.size → kO j ≠ p) (h0 : a0.tmps[p]? = some (.pointer (some ⟨q, 0, none⟩)))
    (hB : w0.heap[q]? = some (.cells #[.int .i64 n.kind, .int .i64 n.index, .int .u64 (wd n.set 0), .int .u64 (wd n.set 1), .int .u64 (wd n.set 2), .int .u64 (wd n.set 3), .slice av m c] 27 (0, 0))) (hK : KidsE w0 (.slice av m c) n.kids) (hS : S i = .node n) :
    wpOp Tryd.prog ops Q i (fun a'' w'' => MS ops kO S w0 a0 (fun j => j == i || L j) a'' w'') a w := by
  refine wpOp_grd ho hw (wp_load_row 27 (.tmp p) hop q (R.slot hp h0) 27 _ (0, 0) _ (heap_grown R.g hB) Tryd.underlying27 rfl sizeNd28 ?_)
  rw [F.dst i o ho]
  refine R.next (lt_of_at ho) (fun j hj e => F.inj i j (lt_of_at ho) hj e) (F.lt i (lt_of_at ho)) (World.grownBy.refl _ _) ?_
  rw [hS]
  exact ⟨av, m, c, rfl, hK.grown R.g⟩
theorem MS.row1 (R : MS ops kO S w0 a0 L a w) (F : Fit ops kO a0) (ho : ops[i]? = some o) (hw : Region.wanted o (yielded ops a.tmps) = true) {n : Ni} (hop : o.op = .buildSlice 25 1 #[(0, .tmp (kO j1))]) (h1 : Hld w (a.eval (.tmp (kO j1))) (.node n)) (hS : S i = .row [n]) :
    wpOp Tryd.prog ops Q i (fun a'' w'' => MS ops kO S w0 a0 (fun j => j == i || L j) a'' w'') a w := by
  obtain ⟨av, m, c, e, hK⟩ := h1
  have ga := World.grownBy_alloc w (.cells (cellsN n (.slice av m c)).toArray 27) none
  refine R.val F ho hw (v := .slice (some ⟨w.heap.size, 0, none⟩) 1 1) (w' := w.alloc (.cells (cellsN n (.slice av m c)).toArray 27)) ?_ ga ?_
  · unfold execOp
    simp only [hop, List.map_toArray, List.map_cons, List.map_nil, e, Sem.run_bind, run_row1, Result.andThen_ok, Sem.run_pure]
  · rw [hS]
    exact ⟨_, _, rfl, Go.Proofs.YtlkjejmmoalliaaDoor.row1 (heap_alloc_new w _) (hK.grown ga)⟩
theorem MS.row2 (R : MS ops kO S w0 a0 L a w) (F : Fit ops kO a0) (ho : ops[i]? = some o) (hw : Region.wanted o (yielded ops a.tmps) = true) {n n' : Ni} (hop : o.op = .buildSlice 25 2 #[(0, .tmp (kO j1)), (1, .tmp (kO j2))]) (h1 : Hld w (a.eval (.tmp (kO j1))) (.node n)) (h2 : Hld w (a.eval (.tmp (kO j2))) (.node n')) (hS : S i = .row [n, n']) :
    wpOp Tryd.prog ops Q i (fun a'' w'' => MS ops kO S w0 a0 (fun j => j == i || L j) a'' w'') a w := by
  obtain ⟨av, m, c, e, hK⟩ := h1
  obtain ⟨av', m', c', e', hK'⟩ := h2
  have ga := World.grownBy_alloc w (.cells (cellsN n (.slice av m c) ++ cellsN n' (.slice av' m' c')).toArray 27) none
  refine R.val F ho hw (v := .slice (some ⟨w.heap.size, 0, none⟩) 2 2) (w' := w.alloc (.cells (cellsN n (.slice av m c) ++ cellsN n' (.slice av' m' c')).toArray 27)) ?_ ga ?_
  · unfold execOp
    simp only [hop, List.map_toArray, List.map_cons, List.map_nil, e, e', Sem.run_bind, run_row2, Result.andThen_ok, Sem.run_pure]
  · rw [hS]
    exact ⟨_, _, rfl, Go.Proofs.YtlkjejmmoalliaaDoor.row2 (heap_alloc_new w _) (hK.grown ga) (hK'.grown ga)⟩
theorem MS.not (R : MS ops kO S w0 a0 L a w) (F : Fit ops kO a0) (ho : ops[i]? = some o) (hw : Region.wanted o (yielded ops a.tmps) = true) {T : TypeId} {b : Bool} (hop : o.op = .unOp .not T (.tmp (kO j1))) (h1 : Hld w (a.eval (.tmp (kO j1))) (.bool b)) (hS : S i = .bool (!b)) :
    wpOp Tryd.prog ops Q i (fun a'' w'' => MS ops kO S w0 a0 (fun j => j == i || L j) a'' w'') a w := by
  have e : a.eval (.tmp (kO j1)) = .bool b := h1
  refine R.val F ho hw (v := .bool (!b)) (w' := w) ?_ (World.grownBy.refl _ _) (by rw [hS]; rfl)
  unfold execOp
  simp only [hop, e]
  kernel_rfl
theorem MS.move (R : MS ops kO S w0 a0 L a w) (F : Fit ops kO a0) (ho : ops[i]? = some o) (hw : Region.wanted o (yielded ops a.tmps) = true) {x : Operand} {y : Srt} (hop : o.op = .move x ∨ o.op = .assign x) (h1 : Hld w (a.eval x) y) (hS : S i = y) :
    wpOp Tryd.prog ops Q i (fun a'' w'' => MS ops kO S w0 a0 (fun j => j == i || L j) a'' w'') a w := by
  refine R.val F ho hw (v := a.eval x) (w' := w) ?_ (World.grownBy.refl _ _) (by rw [hS]; exact h1)
  unfold execOp
  rcases hop with hop | hop <;> simp only [hop, Sem.run_pure]
theorem MS.pick (R : MS ops kO S w0 a0 L a w) (F : Fit ops kO a0) (ho : ops[i]? = some o) (hw : Region.wanted o (yielded ops a.tmps) = true) {c x y : Operand} {b : Bool} {z : Srt} (hop : o.op = .pick c x y) (hc : a.eval c = .bool b) (h1 : Hld w (if b then a.eval x else a.eval y) z) (hS : S i = z) :
    wpOp Tryd.prog ops Q i (fun a'' w'' => MS ops kO S w0 a0 (fun j => j == i || L j) a'' w'') a w := by
  refine R.val F ho hw (v := if b then a.eval x else a.eval y) (w' := w) ?_ (World.grownBy.refl _ _) (by rw [hS]; exact h1)
  unfold execOp
  simp only [hop, hc]
  cases b <;> rfl
end
theorem mk_star {w : World} {v : Value} {n : Ni} (h : Hld w v (.node n)) : Calls Tryd.prog 18 #[v] w fun e w' => ∃ u, e = .returned u ∧ Hld w' u (.node (starI n)) ∧ w.grownBy w' none :=
  (cStarN n v w h).mono fun _ _ ⟨⟨u, e, hu⟩, g⟩ => ⟨u, e, hu, g⟩
theorem mk_cat {w : World} {v : Value} {l : List Ni} (h : Hld w v (.row l)) : Calls Tryd.prog 16 #[v] w fun e w' => ∃ u, e = .returned u ∧ Hld w' u (.node (catI l)) ∧ w.grownBy w' none :=
  (cCat l v w h).mono fun _ _ ⟨⟨u, e, hu⟩, g⟩ => ⟨u, e, hu, g⟩
theorem mk_alt {w : World} {v : Value} {l : List Ni} (h : Hld w v (.row l)) : Calls Tryd.prog 19 #[v] w fun e w' => ∃ u, e = .returned u ∧ Hld w' u (.node (altI l)) ∧ w.grownBy w' none :=
  (cAlt2 l v w h).mono fun _ _ ⟨⟨u, e, hu⟩, g⟩ => ⟨u, e, hu, g⟩
/-- two nodes that are right, not great, and span the same -/
structure Twin (s : ByteArray) (x y : Ni) : Prop where
  sx : szN x ≤ 200
  sy : szN y ≤ 200
  rx : rgtN x = true
  ry : rgtN y = true
  e : SameI s x y
theorem mk_same {w : World} {v u t : Value} {x y : Ni} {s : ByteArray} (h : Hld w v (.node x)) (h' : Hld w u (.node y)) (ht : Hld w t (.text s)) (hs : s.size ≤ 100) (T : Twin s x y) : Calls Tryd.prog 17 #[v, u, t] w fun e w' => ∃ z, e = .returned z ∧ Hld w' z (.bool true) ∧ w.grownBy w' none := by
  have e : t = .string s := ht
  subst e
  exact (cSame10 x y v u s w h h' T.sx T.sy hs T.rx T.ry T.e).mono fun _ _ ⟨e, g⟩ => ⟨_, e, rfl, g⟩
end Go.Proofs.YtlkjejmmoalliaaDoor

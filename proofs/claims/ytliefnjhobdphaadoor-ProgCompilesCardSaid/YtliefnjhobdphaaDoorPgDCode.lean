/- The document's codes: nodes without kids, with one. -/
import Derived.Test.YtliefnjhobdphaaDoorPgApp
import Derived.Test.YtliefnjhobdphaaDoorPgDoc
import Derived.Test.YtliefnjhobdphaaDoorPgCl
namespace Go.Proofs.YtliefnjhobdphaaDoor
open Go.RowKit

/-- what Code answers -/
def CodOut (w : World) (r : List Ins) (e : Ending) (w' : World) : Prop := (∃ v, e = .returned v ∧ w'.ownsRow w.heap.size 66 7 v r.length (flatC r)) ∧ w.grownBy w' none
/-- a node's code is answered -/
def DocC (n : Ni) : Prop := ∀ (t : Nat) (a : Option Addr) (m c : Nat) (w : World), t + lenN n ≤ 9000 → KidsE w (.slice a m c) n.kids →
  Calls Tryd.prog 26 #[niV n (.slice a m c), .int .i64 t] w (CodOut w (codN n t))
theorem own_weak {w : World} {b b' : Nat} {T : TypeId} {s n : Nat} {v : Value} {xs : List Value} (h : w.ownsRow b T s v n xs) (hb : b' ≤ b) : w.ownsRow b' T s v n xs := by
  refine ⟨h.1, ?_⟩
  rcases h.2 with h0 | ⟨g, cap, cur, e, h1, h2⟩
  · exact .inl h0
  · exact .inr ⟨g, cap, cur, e, Nat.le_trans hb h1, h2⟩

theorem own_is {w : World} {b : Nat} {T : TypeId} {n : Nat} {v : Value} {L r : List Ins} (h : w.ownsRow b T 7 v n (flatC L)) (e : L = r) : w.ownsRow b T 7 v r.length (flatC r) := by
  subst e
  have h1 := h.1
  rw [flatC_len] at h1
  have : n = L.length := by omega
  subst this
  exact h

set_option maxRecDepth 100000 in
set_option maxHeartbeats 8000000 in
theorem dCode1 (n : Ni) (hs : szN n ≤ 200) (hR : rgtN n = true) (hk : n.kind ≠ 2) (hk3 : n.kind ≠ 3) (hk7 : n.kind ≠ 7) (HC : ∀ n' ∈ n.kids, DocC n') : DocC n := by
  intro t a m c w hl hK
  obtain rfl := hK.len
  have HD := Lib.hid (fun w h => dLength 200 n a n.kids.length c w hs (Nat.le_refl _) hR h)
  have hR2 := hR
  rw [rgt_eq] at hR
  simp only [Bool.and_eq_true] at hR
  obtain ⟨⟨⟨hko, hix⟩, -⟩, hr⟩ := hR
  have HQ := Lib.hid (cod_eq n t)
  have HLN := Lib.hid (len_eq n)
  obtain ⟨r, hr0⟩ : ∃ r, r = codN n t := ⟨_, rfl⟩
  obtain ⟨q, hq⟩ : ∃ q, q = n.kids := ⟨_, rfl⟩
  obtain ⟨x, hx⟩ : ∃ x, x = n.kind := ⟨_, rfl⟩
  obtain ⟨i, hi⟩ : ∃ i, i = n.index := ⟨_, rfl⟩
  obtain ⟨s, hs'⟩ : ∃ s, s = n.set := ⟨_, rfl⟩
  obtain ⟨z, hz⟩ : ∃ z, z = lenN n := ⟨_, rfl⟩
  have e0 : niV n (.slice a n.kids.length c) = .agg #[.int .i64 x, .int .i64 i, .int .u64 (wd s 0), .int .u64 (wd s 1), .int .u64 (wd s 2), .int .u64 (wd s 3), .slice a q.length c] := by unfold niV; rw [hx, hi, hs', hq]
  rw [e0] at HD ⊢
  rw [← hr0] at HQ ⊢
  rw [← hq, ← hx, ← hi, ← hs'] at HQ
  rw [← hz] at HLN HD hl
  rw [← hq] at hK hko hr HC HLN HD
  rw [← hx] at hko hix hk hk3 hk7 HLN
  rw [← hi] at hix
  have HS := Lib.hid HC
  have HR := Lib.hid hr
  have HIX := Lib.hid hix
  have HKO := Lib.hid hko
  have HKN := Lib.hid (kids_kind hko)
  clear hr hr0 e0 hx hi hs' hq hix hz HC hR2 hs
  have ga := World.grownBy_alloc w (.cells #[.int .i64 x, .int .i64 i, .int .u64 (wd s 0), .int .u64 (wd s 1), .int .u64 (wd s 2), .int .u64 (wd s 3), .slice a q.length c] 32) none
  have B1 := Lib.hid (heap_alloc_new w (.cells #[.int .i64 x, .int .i64 i, .int .u64 (wd s 0), .int .u64 (wd s 1), .int .u64 (wd s 2), .int .u64 (wd s 3), .slice a q.length c] 32))
  have N1 := Lib.hid (hK.grown ga)
  have G1 := Lib.hid ga
  clear ga hK hko
  have hc : x = 0 ∨ x = 8 ∨ x = 9 ∨ x = 1 ∨ x = 4 ∨ x = 5 ∨ x = 6 := by have := HKN.out; omega
  clear HKN hk hk3 hk7
  rcases hc with rfl | rfl | rfl | rfl | rfl | rfl | rfl
  · have HQ := Lib.hid (show r = [] from HQ.out)
    go_enter Tryd.func26, Tryd.ntmps26
    go_upto_region 1 with fail
    generalize w.alloc _ = w1 at B1 N1 G1 ⊢
    generalize w.heap.size = b at B1 ⊢
    obtain ⟨c0, c1, c2, c3, c4, c5, c6⟩ := seven_cells B1.out
    go_upto_region 2 with (go_at_call 19; refine (HD.out _ N1.out).mono ?_; rintro e w2 ⟨rfl, g2⟩)
    have G2 := Lib.hid (G1.out.trans g2); have B2 := Lib.hid (heap_grown g2 B1.out)
    clear c0 c1 c2 c3 c4 c5 c6 g2 B1 HD
    obtain ⟨c0, c1, c2, c3, c4, c5, c6⟩ := seven_cells B2.out
    go_wp2
    go_ret
    exact ⟨⟨_, rfl, by rw [HQ.out]; exact World.ownsRow_nil _ _ _ _⟩, G2.out⟩
  · have HQ := Lib.hid (show r = [⟨4, 0, 0, emp⟩] from HQ.out)
    go_enter Tryd.func26, Tryd.ntmps26
    go_upto_region 1 with fail
    generalize w.alloc _ = w1 at B1 N1 G1 ⊢
    generalize w.heap.size = b at B1 ⊢
    obtain ⟨c0, c1, c2, c3, c4, c5, c6⟩ := seven_cells B1.out
    go_upto_region 2 with (go_at_call 19; refine (HD.out _ N1.out).mono ?_; rintro e w2 ⟨rfl, g2⟩)
    have G2 := Lib.hid (G1.out.trans g2); have B2 := Lib.hid (heap_grown g2 B1.out); have N2 := Lib.hid (N1.out.grown g2)
    clear c0 c1 c2 c3 c4 c5 c6 g2 B1 HD N1
    obtain ⟨c0, c1, c2, c3, c4, c5, c6⟩ := seven_cells B2.out
    go_wp2
    go_ret
    exact ⟨⟨_, rfl, by rw [HQ.out]; exact own_plain w2 4 0 0 _ _ G2.out.size⟩, G2.out.trans (World.grownBy_alloc _ _ _)⟩
  · have HQ := Lib.hid (show r = [⟨5, 0, 0, emp⟩] from HQ.out)
    go_enter Tryd.func26, Tryd.ntmps26
    go_upto_region 1 with fail
    generalize w.alloc _ = w1 at B1 N1 G1 ⊢
    generalize w.heap.size = b at B1 ⊢
    obtain ⟨c0, c1, c2, c3, c4, c5, c6⟩ := seven_cells B1.out
    go_upto_region 2 with (go_at_call 19; refine (HD.out _ N1.out).mono ?_; rintro e w2 ⟨rfl, g2⟩)
    have G2 := Lib.hid (G1.out.trans g2); have B2 := Lib.hid (heap_grown g2 B1.out); have N2 := Lib.hid (N1.out.grown g2)
    clear c0 c1 c2 c3 c4 c5 c6 g2 B1 HD N1
    obtain ⟨c0, c1, c2, c3, c4, c5, c6⟩ := seven_cells B2.out
    go_wp2
    go_ret
    exact ⟨⟨_, rfl, by rw [HQ.out]; exact own_plain w2 5 0 0 _ _ G2.out.size⟩, G2.out.trans (World.grownBy_alloc _ _ _)⟩
  · have HQ := Lib.hid (show r = [⟨0, 0, 0, s⟩] from HQ.out)
    go_enter Tryd.func26, Tryd.ntmps26
    go_upto_region 1 with fail
    generalize w.alloc _ = w1 at B1 N1 G1 ⊢
    generalize w.heap.size = b at B1 ⊢
    obtain ⟨c0, c1, c2, c3, c4, c5, c6⟩ := seven_cells B1.out
    go_upto_region 2 with (go_at_call 19; refine (HD.out _ N1.out).mono ?_; rintro e w2 ⟨rfl, g2⟩)
    have G2 := Lib.hid (G1.out.trans g2); have B2 := Lib.hid (heap_grown g2 B1.out); have N2 := Lib.hid (N1.out.grown g2)
    clear c0 c1 c2 c3 c4 c5 c6 g2 B1 HD N1
    obtain ⟨c0, c1, c2, c3, c4, c5, c6⟩ := seven_cells B2.out
    go_wp2
    go_ret
    exact ⟨⟨_, rfl, by rw [HQ.out]; exact own_set w2 s _ _ G2.out.size⟩, G2.out.trans (World.grownBy_alloc _ _ _)⟩
  all_goals
    have h1 := kids_single HKO.out (by first | exact .inl rfl | exact .inr (.inl rfl) | exact .inr (.inr (.inl rfl)))
    obtain ⟨k, rfl⟩ : ∃ k, q = [k] := by
      match q, h1 with
      | [k], _ => exact ⟨k, rfl⟩
    have hcz := HS.out k (by simp)
    have hrz := rgtL_mem HR.out (show k ∈ [k] by simp)
    have hln := HLN.out
    rw [lenL_one] at hln
    clear h1 HS HR HLN HKO
  · have hz : z = lenN k + 2 := hln
    have HQ2 := Lib.hid (show r = [(⟨1, (t : Int) + 1, (t : Int) + (z : Int), emp⟩ : Ins)] ++ codN k (t + 1) ++ [⟨2, t, 0, emp⟩] by
      have e2 : ((t + lenL [k] + 2 : Nat) : Int) = (t : Int) + (z : Int) := by rw [lenL_one]; omega
      have h0 : r = ⟨1, (t + 1 : Nat), (t + lenL [k] + 2 : Nat), emp⟩ :: (codL [k] (t + 1) ++ [⟨2, t, 0, emp⟩]) := HQ.out
      rw [h0, e2, codL_one]; rfl)
    have HCL := Lib.hid (show (codN k (t + 1)).length ≤ 9000 by rw [cod_len k (t + 1) hrz]; omega)
    have hkb : t + lenN k + 2 ≤ 9000 := by omega
    clear HQ hz hln
    go_enter Tryd.func26, Tryd.ntmps26
    go_upto_region 1 with fail
    generalize w.alloc _ = w1 at B1 N1 G1 ⊢
    generalize w.heap.size = b at B1 ⊢
    obtain ⟨c0, c1, c2, c3, c4, c5, c6⟩ := seven_cells B1.out
    go_upto_region 2 with (go_at_call 19; refine (HD.out _ N1.out).mono ?_; rintro e w2 ⟨rfl, g2⟩)
    have G2 := Lib.hid (G1.out.trans g2); have B2 := Lib.hid (heap_grown g2 B1.out); have N2 := Lib.hid (N1.out.grown g2)
    clear c0 c1 c2 c3 c4 c5 c6 g2 B1 HD N1
    obtain ⟨c0, c1, c2, c3, c4, c5, c6⟩ := seven_cells B2.out
    obtain ⟨b0, off, x0, y0, z0, rfl, hc, hk'⟩ := N2.out.at (show [k][0]? = some k from rfl)
    have d0 : w2.cell? ⟨b0, off, none⟩ = some (.int .i64 k.kind) := hc 0 _ rfl
    have d1 : w2.cell? ⟨b0, off + 1, none⟩ = some (.int .i64 k.index) := hc 1 _ rfl
    have d2 : w2.cell? ⟨b0, off + 2, none⟩ = some (.int .u64 (wd k.set 0)) := hc 2 _ rfl
    have d3 : w2.cell? ⟨b0, off + 3, none⟩ = some (.int .u64 (wd k.set 1)) := hc 3 _ rfl
    have d4 : w2.cell? ⟨b0, off + 4, none⟩ = some (.int .u64 (wd k.set 2)) := hc 4 _ rfl
    have d5 : w2.cell? ⟨b0, off + 5, none⟩ = some (.int .u64 (wd k.set 3)) := hc 5 _ rfl
    have d6 : w2.cell? ⟨b0, off + 6, none⟩ = some (.slice x0 y0 z0) := hc 6 _ rfl
    clear hc
    have k1 := fun ob => cell_al c1 ob
    have k6 := fun ob => cell_al c6 ob
    have e0 := fun ob => cell_al d0 ob
    have e1 := fun ob => cell_al d1 ob
    have e2 := fun ob => cell_al d2 ob
    have e3 := fun ob => cell_al d3 ob
    have e4 := fun ob => cell_al d4 ob
    have e5 := fun ob => cell_al d5 ob
    have e6 := fun ob => cell_al d6 ob
    have HK := Lib.hid (fun W (g : w2.grownBy W none) => (show Calls Tryd.prog 26 #[niV k (.slice x0 y0 z0), .int .i64 ((t : Int) + 1)] W (CodOut W (codN k (t + 1))) from hcz (t + 1) x0 y0 z0 W (by omega) (hk'.grown g)))
    clear hk' hcz
    have hbd := HCL.out
    go_wp2_with (first
      | (go_at_call 26; (with_reducible refine (HK.out _ (World.grownBy_alloc _ _ _)).mono ?_); rintro e w4 ⟨⟨u, rfl, o4⟩, g4⟩; have O4 := Lib.hid o4; have OL := Lib.hid ((own_plain w2 1 ((t : Int) + 1) ((t : Int) + (z : Int)) 66 w.heap.size G2.out.size).kept g4 (.inr (by simp [Value.ownBlock]))); have G4 := Lib.hid ((G2.out.trans (World.grownBy_alloc w2 _ none)).trans g4); clear g4 o4 c0 c1 c2 c3 c4 c5 c6 d0 d1 d2 d3 d4 d5 d6 e0 e1 e2 e3 e4 e5 e6 k1 k6 HK B2 N2 G2)
      | (at_builtin; refine wp_app2 _ _ _ rfl rfl w.heap.size _ _ _ _ _ _ _ rfl rfl OL.out O4.out (by omega) G4.out.size ?_; intro v5 w5 o5 g5; have O5 := Lib.hid o5; have G5 := Lib.hid (grown_own G4.out g5 OL.out (Nat.le_refl _)); clear o5 g5 OL O4 G4)
      | (at_builtin; refine wp_app2 _ _ _ rfl rfl w.heap.size _ _ _ _ _ _ _ rfl rfl (O5.out.alloc _) (own_plain w5 2 t 0 66 w5.heap.size (Nat.le_refl _)) (by omega) (by have := G5.out.size; simp; omega) ?_; intro v7 w7 o7 g7; have O7 := Lib.hid o7; have G7 := Lib.hid (grown_own (G5.out.trans (World.grownBy_alloc w5 _ none)) g7 (O5.out.alloc _) (Nat.le_refl _)); clear o7 g7 O5))
    go_ret
    exact ⟨⟨_, rfl, own_is O7.out HQ2.out.symm⟩, G7.out⟩
  · have hz : z = lenN k + 1 := hln
    have HQ2 := Lib.hid (show r = codN k t ++ [⟨1, t, (t : Int) + (z : Int), emp⟩] by
      have e2 : ((t + lenL [k] + 1 : Nat) : Int) = (t : Int) + (z : Int) := by rw [lenL_one]; omega
      have h0 : r = codL [k] t ++ [⟨1, t, (t + lenL [k] + 1 : Nat), emp⟩] := HQ.out
      rw [h0, e2, codL_one])
    have HCL := Lib.hid (show (codN k t).length ≤ 9000 by rw [cod_len k t hrz]; omega)
    have hkb : t + lenN k ≤ 9000 := by omega
    clear HQ hz hln
    go_enter Tryd.func26, Tryd.ntmps26
    go_upto_region 1 with fail
    generalize w.alloc _ = w1 at B1 N1 G1 ⊢
    generalize w.heap.size = b at B1 ⊢
    obtain ⟨c0, c1, c2, c3, c4, c5, c6⟩ := seven_cells B1.out
    go_upto_region 2 with (go_at_call 19; refine (HD.out _ N1.out).mono ?_; rintro e w2 ⟨rfl, g2⟩)
    have G2 := Lib.hid (G1.out.trans g2); have B2 := Lib.hid (heap_grown g2 B1.out); have N2 := Lib.hid (N1.out.grown g2)
    clear c0 c1 c2 c3 c4 c5 c6 g2 B1 HD N1
    obtain ⟨c0, c1, c2, c3, c4, c5, c6⟩ := seven_cells B2.out
    obtain ⟨b0, off, x0, y0, z0, rfl, hc, hk'⟩ := N2.out.at (show [k][0]? = some k from rfl)
    have d0 : w2.cell? ⟨b0, off, none⟩ = some (.int .i64 k.kind) := hc 0 _ rfl
    have d1 : w2.cell? ⟨b0, off + 1, none⟩ = some (.int .i64 k.index) := hc 1 _ rfl
    have d2 : w2.cell? ⟨b0, off + 2, none⟩ = some (.int .u64 (wd k.set 0)) := hc 2 _ rfl
    have d3 : w2.cell? ⟨b0, off + 3, none⟩ = some (.int .u64 (wd k.set 1)) := hc 3 _ rfl
    have d4 : w2.cell? ⟨b0, off + 4, none⟩ = some (.int .u64 (wd k.set 2)) := hc 4 _ rfl
    have d5 : w2.cell? ⟨b0, off + 5, none⟩ = some (.int .u64 (wd k.set 3)) := hc 5 _ rfl
    have d6 : w2.cell? ⟨b0, off + 6, none⟩ = some (.slice x0 y0 z0) := hc 6 _ rfl
    clear hc
    have HK := Lib.hid (hcz t x0 y0 z0 w2 hkb hk')
    clear hk' hcz
    have hbd := HCL.out
    go_wp2_with (first
      | (go_at_call 26; (with_reducible refine HK.out.mono ?_); rintro e w4 ⟨⟨u, rfl, o4⟩, g4⟩; have O4 := Lib.hid (own_weak o4 G2.out.size); have G4 := Lib.hid (G2.out.trans g4); clear g4 o4 c0 c1 c2 c3 c4 c5 c6 d0 d1 d2 d3 d4 d5 d6 HK B2 N2 G2)
      | (at_builtin; refine wp_app2 _ _ _ rfl rfl w.heap.size _ _ _ _ _ _ _ rfl rfl (O4.out.alloc _) (own_plain w4 1 t ((t : Int) + (z : Int)) 66 w4.heap.size (Nat.le_refl _)) (by omega) (by have := G4.out.size; simp; omega) ?_; intro v7 w7 o7 g7; have O7 := Lib.hid o7; have G7 := Lib.hid (grown_own (G4.out.trans (World.grownBy_alloc w4 _ none)) g7 (O4.out.alloc _) (Nat.le_refl _)); clear o7 g7 O4))
    go_ret
    exact ⟨⟨_, rfl, own_is O7.out HQ2.out.symm⟩, G7.out⟩
  · have hz : z = lenN k + 1 := hln
    have HQ2 := Lib.hid (show r = [(⟨1, (t : Int) + 1, (t : Int) + (z : Int), emp⟩ : Ins)] ++ codN k (t + 1) by
      have e2 : ((t + lenL [k] + 1 : Nat) : Int) = (t : Int) + (z : Int) := by rw [lenL_one]; omega
      have h0 : r = ⟨1, (t + 1 : Nat), (t + lenL [k] + 1 : Nat), emp⟩ :: codL [k] (t + 1) := HQ.out
      rw [h0, e2, codL_one]; rfl)
    have HCL := Lib.hid (show (codN k (t + 1)).length ≤ 9000 by rw [cod_len k (t + 1) hrz]; omega)
    have hkb : t + lenN k + 1 ≤ 9000 := by omega
    clear HQ hz hln
    go_enter Tryd.func26, Tryd.ntmps26
    go_upto_region 1 with fail
    generalize w.alloc _ = w1 at B1 N1 G1 ⊢
    generalize w.heap.size = b at B1 ⊢
    obtain ⟨c0, c1, c2, c3, c4, c5, c6⟩ := seven_cells B1.out
    go_upto_region 2 with (go_at_call 19; refine (HD.out _ N1.out).mono ?_; rintro e w2 ⟨rfl, g2⟩)
    have G2 := Lib.hid (G1.out.trans g2); have B2 := Lib.hid (heap_grown g2 B1.out); have N2 := Lib.hid (N1.out.grown g2)
    clear c0 c1 c2 c3 c4 c5 c6 g2 B1 HD N1
    obtain ⟨c0, c1, c2, c3, c4, c5, c6⟩ := seven_cells B2.out
    obtain ⟨b0, off, x0, y0, z0, rfl, hc, hk'⟩ := N2.out.at (show [k][0]? = some k from rfl)
    have d0 : w2.cell? ⟨b0, off, none⟩ = some (.int .i64 k.kind) := hc 0 _ rfl
    have d1 : w2.cell? ⟨b0, off + 1, none⟩ = some (.int .i64 k.index) := hc 1 _ rfl
    have d2 : w2.cell? ⟨b0, off + 2, none⟩ = some (.int .u64 (wd k.set 0)) := hc 2 _ rfl
    have d3 : w2.cell? ⟨b0, off + 3, none⟩ = some (.int .u64 (wd k.set 1)) := hc 3 _ rfl
    have d4 : w2.cell? ⟨b0, off + 4, none⟩ = some (.int .u64 (wd k.set 2)) := hc 4 _ rfl
    have d5 : w2.cell? ⟨b0, off + 5, none⟩ = some (.int .u64 (wd k.set 3)) := hc 5 _ rfl
    have d6 : w2.cell? ⟨b0, off + 6, none⟩ = some (.slice x0 y0 z0) := hc 6 _ rfl
    clear hc
    have k1 := fun ob => cell_al c1 ob
    have k6 := fun ob => cell_al c6 ob
    have e0 := fun ob => cell_al d0 ob
    have e1 := fun ob => cell_al d1 ob
    have e2 := fun ob => cell_al d2 ob
    have e3 := fun ob => cell_al d3 ob
    have e4 := fun ob => cell_al d4 ob
    have e5 := fun ob => cell_al d5 ob
    have e6 := fun ob => cell_al d6 ob
    have HK := Lib.hid (fun W (g : w2.grownBy W none) => (show Calls Tryd.prog 26 #[niV k (.slice x0 y0 z0), .int .i64 ((t : Int) + 1)] W (CodOut W (codN k (t + 1))) from hcz (t + 1) x0 y0 z0 W (by omega) (hk'.grown g)))
    clear hk' hcz
    have hbd := HCL.out
    go_wp2_with (first
      | (go_at_call 26; (with_reducible refine (HK.out _ (World.grownBy_alloc _ _ _)).mono ?_); rintro e w4 ⟨⟨u, rfl, o4⟩, g4⟩; have O4 := Lib.hid o4; have OL := Lib.hid ((own_plain w2 1 ((t : Int) + 1) ((t : Int) + (z : Int)) 66 w.heap.size G2.out.size).kept g4 (.inr (by simp [Value.ownBlock]))); have G4 := Lib.hid ((G2.out.trans (World.grownBy_alloc w2 _ none)).trans g4); clear g4 o4 c0 c1 c2 c3 c4 c5 c6 d0 d1 d2 d3 d4 d5 d6 e0 e1 e2 e3 e4 e5 e6 k1 k6 HK B2 N2 G2)
      | (at_builtin; refine wp_app2 _ _ _ rfl rfl w.heap.size _ _ _ _ _ _ _ rfl rfl OL.out O4.out (by omega) G4.out.size ?_; intro v5 w5 o5 g5; have O5 := Lib.hid o5; have G5 := Lib.hid (grown_own G4.out g5 OL.out (Nat.le_refl _)); clear o5 g5 OL O4 G4))
    go_ret
    exact ⟨⟨_, rfl, own_is O5.out HQ2.out.symm⟩, G5.out⟩
end Go.Proofs.YtliefnjhobdphaaDoor

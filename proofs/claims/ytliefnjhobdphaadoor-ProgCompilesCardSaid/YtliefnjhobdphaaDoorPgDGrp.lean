/- The document's codes: groups. -/
import Derived.Test.YtliefnjhobdphaaDoorPgDCode
import Derived.Deep.RegionHeld3
namespace Go.Proofs.YtliefnjhobdphaaDoor
open Go.RowKit

theorem grp_grown {w2 w4 w5 : World} {cs : Array Value} {T : TypeId} (g4 : (w2.alloc (.cells cs T)).drew.grownBy w4 none) (g5 : w4.grownBy w5 (Value.slice (some ⟨w2.heap.size, 0, none⟩) 1 1).ownBlock) : w2.grownBy w5 none :=
  ((grown_drew (World.grownBy_alloc w2 _ none)).trans g4).andThen g5 (fun j e => .inl (by cases e; exact Nat.le_refl _))
theorem grp_grown2 {w2 w4 w5 : World} {cs : Array Value} {T : TypeId} (g4 : w2.drew.grownBy w4 none) (g5 : (w4.alloc (.cells cs T)).grownBy w5 (Value.slice (some ⟨w4.heap.size, 0, none⟩) 1 1).ownBlock) : w2.grownBy w5 none :=
  (((grown_drew (World.grownBy.refl w2 none)).trans g4).trans (World.grownBy_alloc w4 _ none)).andThen g5 (fun j e => .inl (by cases e; exact g4.size))

set_option maxRecDepth 100000 in
set_option maxHeartbeats 8000000 in
theorem dGroup (n : Ni) (hs : szN n ≤ 200) (hR : rgtN n = true) (hk : n.kind = 7) (HC : ∀ n' ∈ n.kids, DocC n') : DocC n := by
  intro t a m c w hl hK
  obtain rfl := hK.len
  have HD := Lib.hid (fun w h => dLength 200 n a n.kids.length c w hs (Nat.le_refl _) hR h)
  have hR2 := hR
  rw [rgt_eq] at hR
  simp only [Bool.and_eq_true] at hR
  obtain ⟨⟨⟨hko, hix⟩, -⟩, hr⟩ := hR
  have HQ := Lib.hid (cod_eq n t)
  have HLN := Lib.hid (len_eq n)
  obtain ⟨r, hr0⟩ : ∃ r, r = codN n t := ⟨_, rfl⟩
  obtain ⟨q, hq⟩ : ∃ q, q = n.kids := ⟨_, rfl⟩
  obtain ⟨x, hx⟩ : ∃ x, x = n.kind := ⟨_, rfl⟩
  obtain ⟨i, hi⟩ : ∃ i, i = n.index := ⟨_, rfl⟩
  obtain ⟨s, hs'⟩ : ∃ s, s = n.set := ⟨_, rfl⟩
  obtain ⟨z, hz⟩ : ∃ z, z = lenN n := ⟨_, rfl⟩
  have e0 : niV n (.slice a n.kids.length c) = .agg #[.int .i64 x, .int .i64 i, .int .u64 (wd s 0), .int .u64 (wd s 1), .int .u64 (wd s 2), .int .u64 (wd s 3), .slice a q.length c] := by unfold niV; rw [hx, hi, hs', hq]
  rw [e0] at HD ⊢
  rw [← hr0] at HQ ⊢
  rw [← hq, ← hx, ← hi, ← hs'] at HQ
  rw [← hz] at HLN HD hl
  rw [← hq] at hK hko hr HC HLN HD
  rw [← hx] at hko hix hk HLN
  rw [← hi] at hix
  have HS := Lib.hid HC
  have HR := Lib.hid hr
  have HIX := Lib.hid hix
  have HKO := Lib.hid hko
  clear hr hr0 e0 hx hi hs' hq hix hz HC hR2 hs
  have ga := World.grownBy_alloc w (.cells #[.int .i64 x, .int .i64 i, .int .u64 (wd s 0), .int .u64 (wd s 1), .int .u64 (wd s 2), .int .u64 (wd s 3), .slice a q.length c] 32) none
  have B1 := Lib.hid (heap_alloc_new w (.cells #[.int .i64 x, .int .i64 i, .int .u64 (wd s 0), .int .u64 (wd s 1), .int .u64 (wd s 2), .int .u64 (wd s 3), .slice a q.length c] 32))
  have N1 := Lib.hid (hK.grown ga)
  have G1 := Lib.hid ga
  clear ga hK hko
  subst hk
  have h1 := kids_single HKO.out (.inr (.inr (.inr rfl)))
  obtain ⟨k, rfl⟩ : ∃ k, q = [k] := by
    match q, h1 with
    | [k], _ => exact ⟨k, rfl⟩
  have hcz := HS.out k (by simp)
  have hrz := rgtL_mem HR.out (show k ∈ [k] by simp)
  have hln := HLN.out
  rw [lenL_one] at hln
  clear h1 HS HR HLN HKO
  have hz : z = lenN k + 2 := hln
  have hi : 1 ≤ i ∧ i ≤ 9 := by have := HIX.out; unfold idxOk at this; simpa using this
  have hwr : IntKind.i64.wrap (i * 2) = i * 2 := by rw [IntKind.wrap_i64]; omega
  have hwr2 : IntKind.i64.wrap ((t : Int) + 1) = (t : Int) + 1 := by rw [IntKind.wrap_i64]; omega
  have HQ2 := Lib.hid (show r = [(⟨3, i * 2, 0, emp⟩ : Ins)] ++ codN k (t + 1) ++ [⟨3, i * 2 + 1, 0, emp⟩] by
    have h0 : r = ⟨3, 2 * i, 0, emp⟩ :: (codL [k] (t + 1) ++ [⟨3, 2 * i + 1, 0, emp⟩]) := HQ.out
    rw [h0, codL_one, Int.mul_comm]; rfl)
  have HCL := Lib.hid (show (codN k (t + 1)).length ≤ 9000 by rw [cod_len k (t + 1) hrz]; omega)
  have hkb : t + lenN k + 2 ≤ 9000 := by omega
  clear HQ hz hln
  go_enter Tryd.func26, Tryd.ntmps26
  go_upto_region 1 with fail
  generalize w.alloc _ = w1 at B1 N1 G1 ⊢
  generalize w.heap.size = b at B1 ⊢
  obtain ⟨c0, c1, c2, c3, c4, c5, c6⟩ := seven_cells B1.out
  go_upto_region 2 with (go_at_call 19; refine (HD.out _ N1.out).mono ?_; rintro e w2 ⟨rfl, g2⟩)
  have G2 := Lib.hid (G1.out.trans g2); have B2 := Lib.hid (heap_grown g2 B1.out); have N2 := Lib.hid (N1.out.grown g2)
  clear c0 c1 c2 c3 c4 c5 c6 g2 B1 HD N1
  obtain ⟨c0, c1, c2, c3, c4, c5, c6⟩ := seven_cells B2.out
  obtain ⟨b0, off, x0, y0, z0, rfl, hc, hk'⟩ := N2.out.at (show [k][0]? = some k from rfl)
  have d0 : w2.cell? ⟨b0, off, none⟩ = some (.int .i64 k.kind) := hc 0 _ rfl
  have d1 : w2.cell? ⟨b0, off + 1, none⟩ = some (.int .i64 k.index) := hc 1 _ rfl
  have d2 : w2.cell? ⟨b0, off + 2, none⟩ = some (.int .u64 (wd k.set 0)) := hc 2 _ rfl
  have d3 : w2.cell? ⟨b0, off + 3, none⟩ = some (.int .u64 (wd k.set 1)) := hc 3 _ rfl
  have d4 : w2.cell? ⟨b0, off + 4, none⟩ = some (.int .u64 (wd k.set 2)) := hc 4 _ rfl
  have d5 : w2.cell? ⟨b0, off + 5, none⟩ = some (.int .u64 (wd k.set 3)) := hc 5 _ rfl
  have d6 : w2.cell? ⟨b0, off + 6, none⟩ = some (.slice x0 y0 z0) := hc 6 _ rfl
  clear hc
  have SK := Lib.hid (show ∀ W, w2.grownBy W none → ((W.cell? ⟨b, 1, none⟩ = some (.int .i64 i) ∧ W.cell? ⟨b, 6, none⟩ = some (.slice (some ⟨b0, off, none⟩) 1 c)) ∧ (W.cell? ⟨b0, off, none⟩ = some (.int .i64 k.kind) ∧ W.cell? ⟨b0, off + 1, none⟩ = some (.int .i64 k.index) ∧ W.cell? ⟨b0, off + 2, none⟩ = some (.int .u64 (wd k.set 0)) ∧ W.cell? ⟨b0, off + 3, none⟩ = some (.int .u64 (wd k.set 1)) ∧ W.cell? ⟨b0, off + 4, none⟩ = some (.int .u64 (wd k.set 2)) ∧ W.cell? ⟨b0, off + 5, none⟩ = some (.int .u64 (wd k.set 3)) ∧ W.cell? ⟨b0, off + 6, none⟩ = some (.slice x0 y0 z0))) from fun W g => ⟨⟨g.cell c1 (by simp), g.cell c6 (by simp)⟩, g.cell d0 (by simp), g.cell d1 (by simp), g.cell d2 (by simp), g.cell d3 (by simp), g.cell d4 (by simp), g.cell d5 (by simp), g.cell d6 (by simp)⟩)
  have HK := Lib.hid (fun W (g : w2.grownBy W none) => (show Calls Tryd.prog 26 #[niV k (.slice x0 y0 z0), .int .i64 ((t : Int) + 1)] W (CodOut W (codN k (t + 1))) from hcz (t + 1) x0 y0 z0 W (by omega) (hk'.grown g)))
  clear hk' hcz
  have hbd := HCL.out
  go_upto_region 34 with fail
  have gd := grown_drew (World.grownBy.refl w2 none)
  go_region_held3 (fun W => (W.cell? ⟨b, 1, none⟩ = some (.int .i64 i) ∧ W.cell? ⟨b, 6, none⟩ = some (.slice (some ⟨b0, off, none⟩) 1 c)) ∧ (W.cell? ⟨b0, off, none⟩ = some (.int .i64 k.kind) ∧ W.cell? ⟨b0, off + 1, none⟩ = some (.int .i64 k.index) ∧ W.cell? ⟨b0, off + 2, none⟩ = some (.int .u64 (wd k.set 0)) ∧ W.cell? ⟨b0, off + 3, none⟩ = some (.int .u64 (wd k.set 1)) ∧ W.cell? ⟨b0, off + 4, none⟩ = some (.int .u64 (wd k.set 2)) ∧ W.cell? ⟨b0, off + 5, none⟩ = some (.int .u64 (wd k.set 3)) ∧ W.cell? ⟨b0, off + 6, none⟩ = some (.slice x0 y0 z0)))
    (first
      | exact SK.out _ gd
      | exact SK.out _ (gd.trans (World.grownBy_alloc _ _ _))
      | exact SK.out _ (gd.trans g4)
      | exact SK.out _ ((gd.trans (World.grownBy_alloc _ _ _)).trans g4)
      | exact SK.out _ ((gd.trans g4).trans (World.grownBy_alloc _ _ _))
      | exact SK.out _ (grp_grown g4 g5)
      | exact SK.out _ (grp_grown2 g4 g5)
      | (go_keep; done))
    (first
      | (go_at_call 26; (with_reducible refine (HK.out _ (by first | exact gd | exact gd.trans (World.grownBy_alloc _ _ _))).mono ?_); rintro e w4 ⟨⟨u, rfl, o4⟩, g4⟩)
      | (refine step_app2 _ _ _ rfl rfl w.heap.size _ _ _ _ _ _ _ (by rfl) (by rfl) (((own_plain w2 3 (i * 2) 0 66 w.heap.size G2.out.size).kept (grown_drew (World.grownBy.refl _ none)) (.inr (by simp [Value.ownBlock]))).kept g4 (.inr (by simp [Value.ownBlock]))) o4 (by omega) (G2.out.trans ((grown_drew (World.grownBy_alloc w2 _ none)).trans g4)).size ?_; intro v5 w5 o5 g5)
      | (refine step_app2 _ _ _ rfl rfl w.heap.size _ _ _ _ _ _ _ (by rfl) (by rfl) (own_plain w4 3 (i * 2) 0 66 w.heap.size (G2.out.trans (gd.trans g4)).size) (o4.alloc _) (by omega) ((G2.out.trans (gd.trans g4)).trans (World.grownBy_alloc w4 _ none)).size ?_; intro v5 w5 o5 g5))
  all_goals
    have g25 : w2.grownBy w5 none := by first | exact grp_grown g4 g5 | exact grp_grown2 g4 g5
    have O5 := Lib.hid o5
    have G5 := Lib.hid (G2.out.trans g25)
    have B5 := Lib.hid (heap_grown g25 B2.out)
    clear o5 g5 g25 g4 o4 gd SK HK c0 c1 c2 c3 c4 c5 c6 d0 d1 d2 d3 d4 d5 d6
    obtain ⟨c0, c1, c2, c3, c4, c5, c6⟩ := seven_cells B5.out
    go_wp2_with (at_builtin; refine wp_app2 _ _ _ rfl rfl w.heap.size _ _ _ _ _ _ _ rfl rfl (O5.out.alloc _) (own_plain w5 3 (i * 2 + 1) 0 66 w5.heap.size (Nat.le_refl _)) (by omega) (by have := G5.out.size; simp; omega) ?_; intro v7 w7 o7 g7; have O7 := Lib.hid o7; have G7 := Lib.hid (grown_own (G5.out.trans (World.grownBy_alloc w5 _ none)) g7 (O5.out.alloc _) (Nat.le_refl _)); clear o7 g7 O5)
    go_ret
    exact ⟨⟨_, rfl, own_is O7.out HQ2.out.symm⟩, G7.out⟩
end Go.Proofs.YtliefnjhobdphaaDoor

/- The document's codes: rows, alternatives. -/
import Derived.Test.YtliefnjhobdphaaDoorPgDCode
namespace Go.Proofs.YtliefnjhobdphaaDoor
open Go.RowKit

theorem own_grown {w w' : World} {b : Nat} {T : TypeId} {s n : Nat} {v : Value} {xs : List Value} (h : w.ownsRow b T s v n xs) (g : w.grownBy w' none) : w'.ownsRow b T s v n xs := h.kept g (by cases v.ownBlock <;> simp)
theorem keep_block {w w' : World} {b base n s : Nat} {cs : Array Value} {T' T : TypeId} {v : Value} {xs : List Value} (hb : w.heap[b]? = some (.cells cs T' (0, 0))) (o : w.ownsRow base T s v n xs) (hT : T' ≠ T) (g : w.grownBy w' v.ownBlock) : w'.heap[b]? = some (.cells cs T' (0, 0)) := by
  refine (g.block b (Array.getElem?_eq_some_iff.1 hb).1 (fun e => ?_)).trans hb
  rcases o.2 with ⟨rfl, -⟩ | ⟨gg, cap, cur, rfl, -, hg, -⟩
  · cases e
  · have e' : b = gg := Option.some.inj e
    subst e'
    rw [hg] at hb
    simp only [Option.some.injEq, Obj.cells.injEq] at hb
    exact hT hb.2.1.symm
theorem rgtL_takeD {L : List Ni} (h : rgtL L = true) (i : Nat) : rgtL (L.take i) = true := by
  rw [← List.take_append_drop i L, rgtL_append, Bool.and_eq_true] at h; exact h.1
theorem preC_takeD {L : List Ni} {i : Nat} {n : Ni} (h : L[i]? = some n) : preC (L.take (i + 1)) = preC (L.take i) + 2 + lenN n := by
  rw [List.take_add_one, h]; exact preC_snoc _ _

set_option maxRecDepth 100000 in
set_option maxHeartbeats 8000000 in
theorem dCat (n : Ni) (hs : szN n ≤ 200) (hR : rgtN n = true) (hk : n.kind = 2) (HC : ∀ n' ∈ n.kids, DocC n') : DocC n := by
  intro t a m c w hl hK
  have hq200 : n.kids.length ≤ 200 := by have h1 := sz_eq n; have h2 := len_le_sz n.kids; omega
  have HSZ := Lib.hid (show ∀ n' ∈ n.kids, szN n' ≤ 200 from fun n' h' => by have h1 := sz_eq n; have h2 := szL_mem h'; omega)
  obtain rfl := hK.len
  have HD := Lib.hid (fun w h => dLength 200 n a n.kids.length c w hs (Nat.le_refl _) hR h)
  have hR2 := hR
  rw [rgt_eq] at hR
  simp only [Bool.and_eq_true] at hR
  obtain ⟨⟨⟨hko, hix⟩, -⟩, hr⟩ := hR
  have HQ := Lib.hid (cod_eq n t)
  have HLN := Lib.hid (len_eq n)
  obtain ⟨r, hr0⟩ : ∃ r, r = codN n t := ⟨_, rfl⟩
  obtain ⟨q, hq⟩ : ∃ q, q = n.kids := ⟨_, rfl⟩
  obtain ⟨x, hx⟩ : ∃ x, x = n.kind := ⟨_, rfl⟩
  obtain ⟨i, hi⟩ : ∃ i, i = n.index := ⟨_, rfl⟩
  obtain ⟨s, hs'⟩ : ∃ s, s = n.set := ⟨_, rfl⟩
  obtain ⟨z, hz⟩ : ∃ z, z = lenN n := ⟨_, rfl⟩
  have e0 : niV n (.slice a n.kids.length c) = .agg #[.int .i64 x, .int .i64 i, .int .u64 (wd s 0), .int .u64 (wd s 1), .int .u64 (wd s 2), .int .u64 (wd s 3), .slice a q.length c] := by unfold niV; rw [hx, hi, hs', hq]
  rw [e0] at HD ⊢
  rw [← hr0] at HQ ⊢
  rw [← hq, ← hx, ← hi, ← hs'] at HQ
  rw [← hz] at HLN HD hl
  rw [← hq] at hK hko hr HC HLN HD hq200 HSZ
  rw [← hx] at hko hix hk HLN
  rw [← hi] at hix
  have HS := Lib.hid HC
  have HR := Lib.hid hr
  have HIX := Lib.hid hix
  have HKO := Lib.hid hko
  clear hr hr0 e0 hx hi hs' hq hix hz HC hR2 hs
  have ga := World.grownBy_alloc w (.cells #[.int .i64 x, .int .i64 i, .int .u64 (wd s 0), .int .u64 (wd s 1), .int .u64 (wd s 2), .int .u64 (wd s 3), .slice a q.length c] 32) none
  have B1 := Lib.hid (heap_alloc_new w (.cells #[.int .i64 x, .int .i64 i, .int .u64 (wd s 0), .int .u64 (wd s 1), .int .u64 (wd s 2), .int .u64 (wd s 3), .slice a q.length c] 32))
  have N0 := Lib.hid hK
  have N1 := Lib.hid (hK.grown ga)
  have G1 := Lib.hid ga
  clear ga hK hko
  subst hk
  have HQ2 := Lib.hid (show r = codL q t from HQ.out)
  have HZ := Lib.hid (show z = lenL q from HLN.out)
  clear HQ HLN HIX HKO
  go_enter Tryd.func26, Tryd.ntmps26
  go_upto_region 1 with fail
  generalize w.alloc _ = w1 at B1 N1 G1 ⊢
  generalize w.heap.size = b at B1 ⊢
  obtain ⟨c0, c1, c2, c3, c4, c5, c6⟩ := seven_cells B1.out
  go_upto_region 2 with (go_at_call 19; refine (HD.out _ N1.out).mono ?_; rintro e w2 ⟨rfl, g2⟩)
  have G2 := Lib.hid (G1.out.trans g2); have B2 := Lib.hid (heap_grown g2 B1.out); have N2 := Lib.hid (N1.out.grown g2)
  clear c0 c1 c2 c3 c4 c5 c6 g2 B1 HD N1
  obtain ⟨c0, c1, c2, c3, c4, c5, c6⟩ := seven_cells B2.out
  clear c1 c2 c3 c4 c5
  have ga := World.grownBy_alloc w2 (.cells #[] 66) none
  have O3 := Lib.hid (own_zero w2 66 w.heap.size G2.out.size)
  have G3 := Lib.hid (G2.out.trans ga)
  have k6 := ga.cell c6 (by simp)
  clear ga
  go_upto_region 7 with fail
  clear c0 c6
  generalize w2.alloc _ = w3 at O3 G3 k6 ⊢
  generalize w2.heap.size = b2 at O3 ⊢
  go_wp2
  clear k6
  go_loopw [6, 8, 33] (fun vo _ i wr => ∃ j : Nat, j ≤ q.length ∧ i = .int .i64 j ∧ Hid (wr.ownsRow w.heap.size 66 7 vo (lenL (q.take j)) (flatC (codL (q.take j) t))) ∧ Hid (w.grownBy wr none)) (fun _ _ i _ => q.length - (intOf i).toNat)
  case atStart => exact ⟨0, Nat.zero_le _, rfl, by rw [List.take_zero, codL, lenL]; exact O3, G3⟩
  case round =>
    obtain ⟨j, hj, rfl, hO, hG⟩ := hrel
    obtain ⟨va, vc, rfl⟩ := owns_shape hO.out
    by_cases hlt : j < q.length
    · obtain ⟨n', hn'⟩ : ∃ n', q[j]? = some n' := ⟨_, List.getElem?_eq_getElem hlt⟩
      have HT := Lib.hid (show codL (q.take (j + 1)) t = codL (q.take j) t ++ codN n' (t + lenL (q.take j)) by rw [List.take_add_one, hn']; exact codL_snoc _ _ _)
      have HTL := Lib.hid (lenL_take hn')
      have hle := lenL_take_le q (j + 1)
      rw [HTL.out, ← HZ.out] at hle
      have HN := HS.out n' (List.mem_of_getElem? hn')
      have HCL := Lib.hid (cod_len n' (t + lenL (q.take j)) (rgtL_mem HR.out (List.mem_of_getElem? hn')))
      obtain ⟨b0, off, x0, y0, z0, rfl, hc, hk'⟩ := (N0.out.grown hG.out).at hn'
      have c0 : wr.cell? ⟨b0, off + j * 7, none⟩ = some (.int .i64 n'.kind) := hc 0 _ rfl
      have c1 := hc 1 _ rfl
      have c2 := hc 2 _ rfl
      have c3 := hc 3 _ rfl
      have c4 := hc 4 _ rfl
      have c5 := hc 5 _ rfl
      have c6 := hc 6 _ rfl
      have ga := World.grownBy_alloc wr (.cells #[.int .i64 n'.kind, .int .i64 n'.index, .int .u64 (wd n'.set 0), .int .u64 (wd n'.set 1), .int .u64 (wd n'.set 2), .int .u64 (wd n'.set 3), .slice x0 y0 z0] 32) none
      have B4 := Lib.hid (heap_alloc_new wr (.cells #[.int .i64 n'.kind, .int .i64 n'.index, .int .u64 (wd n'.set 0), .int .u64 (wd n'.set 1), .int .u64 (wd n'.set 2), .int .u64 (wd n'.set 3), .slice x0 y0 z0] 32))
      have O4 := Lib.hid (own_grown hO.out ga)
      have G4 := Lib.hid (hG.out.trans ga)
      obtain ⟨u, hu⟩ : ∃ u, u = lenL (q.take j) := ⟨_, rfl⟩
      rw [← hu] at HT HCL O4 hle HTL ⊢
      have HK := Lib.hid (show Calls Tryd.prog 26 #[niV n' (.slice x0 y0 z0), .int .i64 ((t : Int) + (u : Int))] _ (CodOut _ (codN n' (t + u))) from HN (t + u) x0 y0 z0 (wr.alloc (.cells #[.int .i64 n'.kind, .int .i64 n'.index, .int .u64 (wd n'.set 0), .int .u64 (wd n'.set 1), .int .u64 (wd n'.set 2), .int .u64 (wd n'.set 3), .slice x0 y0 z0] 32)) (by omega) (hk'.grown ga))
      have hcb : (codN n' (t + u)).length ≤ 9000 := by rw [HCL.out]; omega
      clear hc hk' hn' ga hO hG HN hu
      go_upto_region 10 with fail
      clear c0 c1 c2 c3 c4 c5 c6
      generalize wr.alloc _ = w4 at B4 O4 G4 HK ⊢
      generalize wr.heap.size = q4 at B4 ⊢
      obtain ⟨c0, c1, c2, c3, c4, c5, c6⟩ := seven_cells B4.out
      go_wp2_with (first
        | (go_at_call 26; (with_reducible refine (HK.out).mono ?_); rintro e w5 ⟨⟨x5, rfl, o5⟩, g5⟩; have OX := Lib.hid o5; have O5 := Lib.hid (own_grown O4.out g5); have G5 := Lib.hid (G4.out.trans g5); clear o5 g5)
        | (at_builtin; refine wp_app2 _ _ _ rfl rfl w.heap.size _ _ _ _ _ _ _ rfl rfl O5.out OX.out (by omega) G5.out.size ?_; intro v6 w6 o6 g6; have O6 := Lib.hid o6; have G6 := Lib.hid (grown_own G5.out g6 O5.out (Nat.le_refl _)); clear o6 g6 O5 OX))
      go_roundw
      case rel => exact ⟨j + 1, by omega, by go_num, by rw [HTL.out, HT.out, ← HCL.out]; exact O6, G6⟩
      case measure => simp [intOf]; omega
    · obtain rfl : j = q.length := by omega
      go_wp2
      go_ret
      exact ⟨⟨_, rfl, own_is hO.out (by rw [List.take_length, HQ2.out])⟩, hG.out⟩

set_option maxRecDepth 100000 in
set_option maxHeartbeats 8000000 in
theorem dAlt (n : Ni) (hs : szN n ≤ 200) (hR : rgtN n = true) (hk : n.kind = 3) (HC : ∀ n' ∈ n.kids, DocC n') : DocC n := by
  intro t a m c w hl hK
  have hq200 : n.kids.length ≤ 200 := by have h1 := sz_eq n; have h2 := len_le_sz n.kids; omega
  have HSZ := Lib.hid (show ∀ n' ∈ n.kids, szN n' ≤ 200 from fun n' h' => by have h1 := sz_eq n; have h2 := szL_mem h'; omega)
  obtain rfl := hK.len
  have HD := Lib.hid (fun w h => dLength 200 n a n.kids.length c w hs (Nat.le_refl _) hR h)
  have hR2 := hR
  rw [rgt_eq] at hR
  simp only [Bool.and_eq_true] at hR
  obtain ⟨⟨⟨hko, hix⟩, -⟩, hr⟩ := hR
  have HQ := Lib.hid (cod_eq n t)
  have HLN := Lib.hid (len_eq n)
  obtain ⟨r, hr0⟩ : ∃ r, r = codN n t := ⟨_, rfl⟩
  obtain ⟨q, hq⟩ : ∃ q, q = n.kids := ⟨_, rfl⟩
  obtain ⟨x, hx⟩ : ∃ x, x = n.kind := ⟨_, rfl⟩
  obtain ⟨i, hi⟩ : ∃ i, i = n.index := ⟨_, rfl⟩
  obtain ⟨s, hs'⟩ : ∃ s, s = n.set := ⟨_, rfl⟩
  obtain ⟨z, hz⟩ : ∃ z, z = lenN n := ⟨_, rfl⟩
  have e0 : niV n (.slice a n.kids.length c) = .agg #[.int .i64 x, .int .i64 i, .int .u64 (wd s 0), .int .u64 (wd s 1), .int .u64 (wd s 2), .int .u64 (wd s 3), .slice a q.length c] := by unfold niV; rw [hx, hi, hs', hq]
  rw [e0] at HD ⊢
  rw [← hr0] at HQ ⊢
  rw [← hq, ← hx, ← hi, ← hs'] at HQ
  rw [← hz] at HLN HD hl
  rw [← hq] at hK hko hr HC HLN HD hq200 HSZ
  rw [← hx] at hko hix hk HLN
  rw [← hi] at hix
  have HS := Lib.hid HC
  have HR := Lib.hid hr
  have HIX := Lib.hid hix
  have HKO := Lib.hid hko
  clear hr hr0 e0 hx hi hs' hq hix hz HC hR2 hs
  have ga := World.grownBy_alloc w (.cells #[.int .i64 x, .int .i64 i, .int .u64 (wd s 0), .int .u64 (wd s 1), .int .u64 (wd s 2), .int .u64 (wd s 3), .slice a q.length c] 32) none
  have B1 := Lib.hid (heap_alloc_new w (.cells #[.int .i64 x, .int .i64 i, .int .u64 (wd s 0), .int .u64 (wd s 1), .int .u64 (wd s 2), .int .u64 (wd s 3), .slice a q.length c] 32))
  have N0 := Lib.hid hK
  have N1 := Lib.hid (hK.grown ga)
  have G1 := Lib.hid ga
  clear ga hK hko
  subst hk
  have h2 := kids_two HKO.out (.inr rfl)
  have HQ1 := Lib.hid (show r = codA (t + (lenL q + 2 * (q.length - 1))) q t from HQ.out)
  have HZ := Lib.hid (show z = lenL q + 2 * (q.length - 1) from HLN.out)
  clear HQ HLN HIX HKO
  obtain ⟨L, k, hqk⟩ : ∃ L k, q = L ++ [k] := by
    have hne : q ≠ [] := by rintro rfl; simp at h2
    exact ⟨q.dropLast, q.getLast hne, (List.dropLast_concat_getLast hne).symm⟩
  have hlz : q.length = L.length + 1 := by rw [hqk, List.length_append]; rfl
  have HZ2 := Lib.hid (show z = preC L + lenN k by rw [HZ.out, hlz, hqk, lenL_append, lenL_one]; unfold preC; omega)
  have HQ2 := Lib.hid (show r = preA ((t : Int) + (z : Int)) L t ++ codN k (t + preC L) by
    rw [HQ1.out, ← HZ.out, hqk, codA_snoc]; rfl)
  have HQJ := Lib.hid (show ∀ j, j < L.length → q[j]? = L[j]? from fun j hj => by rw [hqk, List.getElem?_append_left hj])
  have HQK := Lib.hid (show q[L.length]? = some k by rw [hqk]; simp)
  have HRL := Lib.hid (show rgtL L = true by have := HR.out; rw [hqk, rgtL_append, Bool.and_eq_true] at this; exact this.1)
  have HPT := Lib.hid (show ∀ j, preC (L.take j) ≤ preC L from fun j => by
    unfold preC
    have h1 := lenL_take_le L j
    have h3 : (L.take j).length ≤ L.length := by rw [List.length_take]; omega
    omega)
  rw [hlz] at HD B1 N0 N1 G1 hq200 ⊢
  clear HQ1 HZ hqk h2 hlz
  go_enter Tryd.func26, Tryd.ntmps26
  go_upto_region 1 with fail
  generalize w.alloc _ = w1 at B1 N1 G1 ⊢
  generalize w.heap.size = b at B1 ⊢
  obtain ⟨c0, c1, c2, c3, c4, c5, c6⟩ := seven_cells B1.out
  go_upto_region 2 with (go_at_call 19; refine (HD.out _ N1.out).mono ?_; rintro e w2 ⟨rfl, g2⟩)
  have G2 := Lib.hid (G1.out.trans g2); have B2 := Lib.hid (heap_grown g2 B1.out); have N2 := Lib.hid (N1.out.grown g2)
  clear c0 c1 c2 c3 c4 c5 c6 g2 B1 HD N1
  obtain ⟨c0, c1, c2, c3, c4, c5, c6⟩ := seven_cells B2.out
  clear c1 c2 c3 c4 c5
  have ga := World.grownBy_alloc w2 (.cells #[] 66) none
  have O3 := Lib.hid (own_zero w2 66 w.heap.size G2.out.size)
  have G3 := Lib.hid (G2.out.trans ga)
  have B3 := Lib.hid (heap_grown ga B2.out)
  have k6 := ga.cell c6 (by simp)
  clear ga
  go_upto_region 15 with fail
  clear c0 c6 B2
  generalize w2.alloc _ = w3 at O3 G3 B3 k6 ⊢
  generalize w2.heap.size = b2 at O3 ⊢
  go_wp2
  clear k6
  go_loopw [9, 10, 11, 12, 53] (fun vo _ _ _ y wr => ∃ (j : Nat) (R : List Ins), j ≤ L.length + 1 ∧ y = .int .i64 j ∧ Hid (R = if j ≤ L.length then preA ((t : Int) + (z : Int)) (L.take j) t else r) ∧ Hid (wr.ownsRow w.heap.size 66 7 vo R.length (flatC R)) ∧ Hid (w.grownBy wr none) ∧ Hid (wr.heap[b]? = some (.cells #[.int .i64 3, .int .i64 i, .int .u64 (wd s 0), .int .u64 (wd s 1), .int .u64 (wd s 2), .int .u64 (wd s 3), .slice a (L.length + 1) c] 32 (0, 0)))) (fun _ _ _ _ y _ => L.length + 1 - (intOf y).toNat)
  case atStart => exact ⟨0, [], Nat.zero_le _, rfl, Lib.hid (by rw [if_pos (Nat.zero_le _), List.take_zero, preA]), O3, G3, B3⟩
  case round =>
    obtain ⟨j, R, hj, rfl, hRR, hO, hG, hB⟩ := hrel
    obtain ⟨va, vc, rfl⟩ := owns_shape hO.out
    by_cases hlt : j < L.length
    · obtain ⟨n', hn'⟩ : ∃ n', L[j]? = some n' := ⟨_, List.getElem?_eq_getElem hlt⟩
      have hR1 : R = preA ((t : Int) + (z : Int)) (L.take j) t := by rw [hRR.out, if_pos (by omega)]
      obtain ⟨u, hu⟩ : ∃ u, u = R.length := ⟨_, rfl⟩
      have huC : u = preC (L.take j) := by rw [hu, hR1, preA_len _ _ _ (rgtL_takeD HRL.out j)]
      have hpt := preC_takeD hn'
      have hb1 := HPT.out (j + 1)
      have hb2 := HZ2.out
      have hrn := rgtL_mem HRL.out (List.mem_of_getElem? hn')
      have HPN := Lib.hid (show preA ((t : Int) + (z : Int)) (L.take (j + 1)) t = R ++ [⟨1, (t : Int) + (u : Int) + 1, (t : Int) + (u : Int) + 2 + (lenN n' : Int), emp⟩] ++ codN n' (t + u + 1) ++ [⟨2, (t : Int) + (z : Int), 0, emp⟩] by
        rw [List.take_add_one, hn']
        simp only [Option.toList_some]
        rw [preA_snoc, ← hR1, ← huC]
        simp)
      have hnq : n' ∈ q := List.mem_of_getElem? ((HQJ.out j hlt).trans hn')
      have HN := HS.out n' hnq
      have HCL := Lib.hid (cod_len n' (t + u + 1) hrn)
      have huz : u + 2 + lenN n' ≤ z := by omega
      obtain ⟨b0, off, x0, y0, z0, rfl, hc, hk'⟩ := N0.out.at ((HQJ.out j hlt).trans hn')
      have c0 : wr.cell? ⟨b0, off + j * 7, none⟩ = some (.int .i64 n'.kind) := hG.out.cell (hc 0 _ rfl) (by simp)
      have c1 := hG.out.cell (hc 1 _ rfl) (by simp)
      have c2 := hG.out.cell (hc 2 _ rfl) (by simp)
      have c3 := hG.out.cell (hc 3 _ rfl) (by simp)
      have c4 := hG.out.cell (hc 4 _ rfl) (by simp)
      have c5 := hG.out.cell (hc 5 _ rfl) (by simp)
      have c6 := hG.out.cell (hc 6 _ rfl) (by simp)
      have ga := World.grownBy_alloc wr (.cells #[.int .i64 n'.kind, .int .i64 n'.index, .int .u64 (wd n'.set 0), .int .u64 (wd n'.set 1), .int .u64 (wd n'.set 2), .int .u64 (wd n'.set 3), .slice x0 y0 z0] 32) none
      have B4 := Lib.hid (heap_alloc_new wr (.cells #[.int .i64 n'.kind, .int .i64 n'.index, .int .u64 (wd n'.set 0), .int .u64 (wd n'.set 1), .int .u64 (wd n'.set 2), .int .u64 (wd n'.set 3), .slice x0 y0 z0] 32))
      have O4 := Lib.hid (own_grown hO.out ga)
      have G4 := Lib.hid (hG.out.trans ga)
      have D4 := Lib.hid (heap_grown ga hB.out)
      rw [← hu] at O4 ⊢
      have HK := Lib.hid (fun W (g : w.grownBy W none) => (show Calls Tryd.prog 26 #[niV n' (.slice x0 y0 z0), .int .i64 ((t : Int) + (u : Int) + 1)] W (CodOut W (codN n' (t + u + 1))) from HN (t + u + 1) x0 y0 z0 W (by omega) (hk'.grown g)))
      have HLE := Lib.hid (fun W (g : w.grownBy W none) => dLength 200 n' x0 y0 z0 W (HSZ.out n' hnq) (Nat.le_refl _) hrn (hk'.grown g))
      obtain ⟨ln, hln⟩ : ∃ ln, ln = lenN n' := ⟨_, rfl⟩
      rw [← hln] at HPN HLE HCL huz
      have hcb : (codN n' (t + u + 1)).length ≤ 9000 := by rw [HCL.out]; omega
      have hne : ((j : Int) == (L.length : Int)) = false := by simp; omega
      have hne2 : (j == L.length) = false := by simp; omega
      clear hc hk' hn' ga hO hG HN hR1 hu huC hpt hb1 hb2 hrn hnq hln hRR hB
      go_upto_region 18 with fail
      clear c0 c1 c2 c3 c4 c5 c6
      generalize wr.alloc _ = w4 at B4 O4 G4 D4 ⊢
      generalize wr.heap.size = q4 at B4 ⊢
      obtain ⟨p0, p1, p2, p3, p4, p5, p6⟩ := seven_cells D4.out
      obtain ⟨c0, c1, c2, c3, c4, c5, c6⟩ := seven_cells B4.out
      go_upto_region 22 with (first
        | (go_at_call 19; (with_reducible refine (HLE.out _ G4.out).mono ?_); rintro e w5 ⟨rfl, g5⟩; have O5 := Lib.hid (own_grown O4.out g5); have G5 := Lib.hid (G4.out.trans g5); have B5 := Lib.hid (heap_grown g5 B4.out); have D5 := Lib.hid (heap_grown g5 D4.out); clear g5 O4 B4 D4)
        | (at_builtin; refine wp_app2 _ _ _ rfl rfl w.heap.size w5.heap.size _ _ _ _ _ _ rfl rfl (O5.out.alloc _) (own_plain w5 1 ((t : Int) + (u : Int) + 1) ((t : Int) + (u : Int) + 2 + (ln : Int)) 66 w5.heap.size (Nat.le_refl _)) (by omega) (by have := G5.out.size; simp; omega) ?_; intro v7 w7 o7 g7; have O7 := Lib.hid o7; have G7 := Lib.hid (grown_own (G5.out.trans (World.grownBy_alloc w5 _ none)) g7 (O5.out.alloc _) (Nat.le_refl _)); have B7 := Lib.hid (keep_block (heap_grown (World.grownBy_alloc w5 _ none) B5.out) (O5.out.alloc _) (by decide) g7); have D7 := Lib.hid (keep_block (heap_grown (World.grownBy_alloc w5 _ none) D5.out) (O5.out.alloc _) (by decide) g7); clear o7 g7 O5 B5 D5))
      clear p0 p1 p2 p3 p4 p5 p6 c0 c1 c2 c3 c4 c5 c6 HLE
      obtain ⟨c0, c1, c2, c3, c4, c5, c6⟩ := seven_cells B7.out
      go_wp2_with (first
        | (go_at_call 26; (with_reducible refine (HK.out _ G7.out).mono ?_); rintro e w8 ⟨⟨x8, rfl, o8⟩, g8⟩; have OX := Lib.hid o8; have O8 := Lib.hid (own_grown O7.out g8); have G8 := Lib.hid (G7.out.trans g8); have D8 := Lib.hid (heap_grown g8 D7.out); clear o8 g8 O7 D7)
        | (at_builtin; refine wp_app2 _ _ _ rfl rfl w.heap.size _ _ _ _ _ _ _ rfl rfl O8.out OX.out (by omega) G8.out.size ?_; intro v9 w9 o9 g9; have O9 := Lib.hid o9; have G9 := Lib.hid (grown_own G8.out g9 O8.out (Nat.le_refl _)); have D9 := Lib.hid (keep_block D8.out O8.out (by decide) g9); clear o9 g9 O8 OX D8)
        | (at_builtin; refine wp_app2 _ _ _ rfl rfl w.heap.size w9.heap.size _ _ _ _ _ _ rfl rfl (O9.out.alloc _) (own_plain w9 2 ((t : Int) + (z : Int)) 0 66 w9.heap.size (Nat.le_refl _)) (by omega) (by have := G9.out.size; simp; omega) ?_; intro v11 w11 o11 g11; have O11 := Lib.hid o11; have G11 := Lib.hid (grown_own (G9.out.trans (World.grownBy_alloc w9 _ none)) g11 (O9.out.alloc _) (Nat.le_refl _)); have D11 := Lib.hid (keep_block (heap_grown (World.grownBy_alloc w9 _ none) D9.out) (O9.out.alloc _) (by decide) g11); clear o11 g11 O9 D9))
      go_roundw
      case rel => exact ⟨j + 1, _, by omega, by go_num, Lib.hid (by rw [if_pos (by omega), HPN.out]), Lib.hid (own_is O11.out rfl), G11, D11⟩
      case measure => simp [intOf]; omega
    · by_cases heq : j = L.length
      · have hR1 : R = preA ((t : Int) + (z : Int)) L t := by rw [hRR.out, if_pos (by omega), heq, List.take_length]
        obtain ⟨u, hu⟩ : ∃ u, u = R.length := ⟨_, rfl⟩
        have huC : u = preC L := by rw [hu, hR1, preA_len _ _ _ HRL.out]
        have hb2 := HZ2.out
        have hrn := rgtL_mem HR.out (List.mem_of_getElem? HQK.out)
        have HPN := Lib.hid (show r = R ++ codN k (t + u) by rw [HQ2.out, ← hR1, ← huC])
        have HN := HS.out k (List.mem_of_getElem? HQK.out)
        have HCL := Lib.hid (cod_len k (t + u) hrn)
        have huz : u + lenN k ≤ z := by omega
        obtain ⟨b0, off, x0, y0, z0, rfl, hc, hk'⟩ := N0.out.at HQK.out
        have c0 : wr.cell? ⟨b0, off + L.length * 7, none⟩ = some (.int .i64 k.kind) := hG.out.cell (hc 0 _ rfl) (by simp)
        have c1 := hG.out.cell (hc 1 _ rfl) (by simp)
        have c2 := hG.out.cell (hc 2 _ rfl) (by simp)
        have c3 := hG.out.cell (hc 3 _ rfl) (by simp)
        have c4 := hG.out.cell (hc 4 _ rfl) (by simp)
        have c5 := hG.out.cell (hc 5 _ rfl) (by simp)
        have c6 := hG.out.cell (hc 6 _ rfl) (by simp)
        have ga := World.grownBy_alloc wr (.cells #[.int .i64 k.kind, .int .i64 k.index, .int .u64 (wd k.set 0), .int .u64 (wd k.set 1), .int .u64 (wd k.set 2), .int .u64 (wd k.set 3), .slice x0 y0 z0] 32) none
        have B4 := Lib.hid (heap_alloc_new wr (.cells #[.int .i64 k.kind, .int .i64 k.index, .int .u64 (wd k.set 0), .int .u64 (wd k.set 1), .int .u64 (wd k.set 2), .int .u64 (wd k.set 3), .slice x0 y0 z0] 32))
        have O4 := Lib.hid (own_grown hO.out ga)
        have G4 := Lib.hid (hG.out.trans ga)
        have D4 := Lib.hid (heap_grown ga hB.out)
        rw [← hu] at O4 ⊢
        have HK := Lib.hid (show Calls Tryd.prog 26 #[niV k (.slice x0 y0 z0), .int .i64 ((t : Int) + (u : Int))] _ (CodOut _ (codN k (t + u))) from HN (t + u) x0 y0 z0 _ (by omega) (hk'.grown G4.out))
        have hcb : (codN k (t + u)).length ≤ 9000 := by rw [HCL.out]; omega
        have heq1 : ((j : Int) == (L.length : Int)) = true := by simp; omega
        have heq2 : (j == L.length) = true := by simp; omega
        have hju : u ≤ 9000 := by omega
        rw [heq]
        have HJ := Lib.hid heq
        clear hc hk' ga hO hG HN hR1 hu huC hb2 hrn hRR hB heq heq1 heq2 hlt hj
        go_upto_region 18 with fail
        clear c0 c1 c2 c3 c4 c5 c6
        generalize wr.alloc _ = w4 at B4 O4 G4 D4 HK ⊢
        generalize wr.heap.size = q4 at B4 ⊢
        obtain ⟨p0, p1, p2, p3, p4, p5, p6⟩ := seven_cells D4.out
        obtain ⟨c0, c1, c2, c3, c4, c5, c6⟩ := seven_cells B4.out
        go_wp2_with (first
          | (go_at_call 26; (with_reducible refine (HK.out).mono ?_); rintro e w8 ⟨⟨x8, rfl, o8⟩, g8⟩; have OX := Lib.hid o8; have O8 := Lib.hid (own_grown O4.out g8); have G8 := Lib.hid (G4.out.trans g8); have D8 := Lib.hid (heap_grown g8 D4.out); clear o8 g8 O4 D4)
          | (at_builtin; refine wp_app2 _ _ _ rfl rfl w.heap.size _ _ _ _ _ _ _ rfl rfl O8.out OX.out (by omega) G8.out.size ?_; intro v9 w9 o9 g9; have O9 := Lib.hid o9; have G9 := Lib.hid (grown_own G8.out g9 O8.out (Nat.le_refl _)); have D9 := Lib.hid (keep_block D8.out O8.out (by decide) g9); clear o9 g9 O8 OX D8))
        go_roundw
        case rel => exact ⟨L.length + 1, _, by omega, by go_num, Lib.hid (by rw [if_neg (by omega), HPN.out]), Lib.hid (own_is O9.out rfl), G9, D9⟩
        case measure => simp [intOf]
      · obtain rfl : j = L.length + 1 := by omega
        have hR1 : R = r := by rw [hRR.out, if_neg (by omega)]
        go_wp2
        go_ret
        exact ⟨⟨_, rfl, own_is hO.out hR1⟩, hG.out⟩
end Go.Proofs.YtliefnjhobdphaaDoor

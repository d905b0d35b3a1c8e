/- The writer's code of any right node. -/
import Derived.Test.YtliefnjhobdphaaDoorPgAlt
namespace Go.Proofs.YtliefnjhobdphaaDoor
open Go.RowKit

theorem wr_eq {p : Nat} {v : Value} {l : List Ins} {w : World} {r r' : List Ins} {f : FuncId} {args : Array Value} (e : r = r') (h : Calls Tryd.prog f args w (WrOut p v l w r)) : Calls Tryd.prog f args w (WrOut p v l w r') := e ▸ h

set_option maxRecDepth 100000 in
set_option maxHeartbeats 8000000 in
theorem cNode : ∀ (N : Nat) (n : Ni), szN n ≤ N → N ≤ 200 → rgtN n = true → NodeC n := by
  intro N
  induction N with
  | zero => intro n h; rw [sz_eq] at h; omega
  | succ N ih =>
    intro n hN hN2 hR p v l a m c w h hl hK
    have hz := sz_eq n
    have hl200 : n.kids.length ≤ 200 := by have := len_le_sz n.kids; omega
    rw [rgt_eq] at hR
    simp only [Bool.and_eq_true] at hR
    obtain ⟨⟨⟨hk, hix⟩, -⟩, hr⟩ := hR
    rw [len_eq] at hl
    have HQ := Lib.hid (cod_eq n l.length)
    obtain rfl := hK.len
    obtain ⟨r, hr0⟩ : ∃ r, r = codN n l.length := ⟨_, rfl⟩
    rw [← hr0] at HQ ⊢
    obtain ⟨q, hq⟩ : ∃ q, q = n.kids := ⟨_, rfl⟩
    obtain ⟨x, hx⟩ : ∃ x, x = n.kind := ⟨_, rfl⟩
    obtain ⟨i, hi⟩ : ∃ i, i = n.index := ⟨_, rfl⟩
    obtain ⟨s, hs⟩ : ∃ s, s = n.set := ⟨_, rfl⟩
    have e0 : niV n (.slice a n.kids.length c) = .agg #[.int .i64 x, .int .i64 i, .int .u64 (wd s 0), .int .u64 (wd s 1), .int .u64 (wd s 2), .int .u64 (wd s 3), .slice a q.length c] := by unfold niV; rw [hx, hi, hs, hq]
    rw [e0]
    rw [← hq, ← hx, ← hi, ← hs] at HQ
    rw [← hq] at hK hz hl200 hk hr hl
    rw [← hx] at hk hix hl
    rw [← hi] at hix
    have HS := Lib.hid (show ∀ n' ∈ q, NodeC n' from fun n' h' => ih n' (by have := szL_mem h'; omega) (by omega) (rgtL_mem hr h'))
    have HR := Lib.hid hr
    have HKO := Lib.hid hk
    have HIX := Lib.hid hix
    have HL := Lib.hid hl
    clear ih hN hN2 hz hr hr0 e0 hx hi hs hq hix hl
    have ga := World.grownBy_alloc w (.cells #[.int .i64 x, .int .i64 i, .int .u64 (wd s 0), .int .u64 (wd s 1), .int .u64 (wd s 2), .int .u64 (wd s 3), .slice a q.length c] 44) none
    have B1 := Lib.hid (heap_alloc_new w (.cells #[.int .i64 x, .int .i64 i, .int .u64 (wd s 0), .int .u64 (wd s 1), .int .u64 (wd s 2), .int .u64 (wd s 3), .slice a q.length c] 44))
    have W1 := Lib.hid (h.kept ga)
    have K1 := Lib.hid (Kp.ofGrown (p := p) (v := v) ga)
    have N1 := Lib.hid (hK.grown ga)
    have HKN := Lib.hid (kids_kind hk)
    clear ga h hK hk
    have hc : x = 0 ∨ x = 8 ∨ x = 9 ∨ x = 1 ∨ x = 2 ∨ x = 3 ∨ x = 4 ∨ x = 5 ∨ x = 6 ∨ x = 7 := by have := HKN.out; omega
    clear HKN
    rcases hc with rfl | rfl | rfl | rfl | rfl | rfl | rfl | rfl | rfl | rfl
    · have HQ := Lib.hid (show r = [] from HQ.out)
      go_enter Tryd.func48, Tryd.ntmps48
      go_upto_region 1 with fail
      generalize w.alloc _ = w1 at B1 W1 K1 N1 ⊢
      generalize w.heap.size = b at B1 ⊢
      obtain ⟨c0, c1, c2, c3, c4, c5, c6⟩ := seven_cells B1.out
      go_wp2
      go_end0
      exact ⟨rfl, v, by rw [HQ.out, List.append_nil]; exact W1.out, K1.out⟩
    · have HQ := Lib.hid (show r = [⟨4, 0, 0, emp⟩] from HQ.out)
      go_enter Tryd.func48, Tryd.ntmps48
      go_upto_region 1 with fail
      generalize w.alloc _ = w1 at B1 W1 K1 N1 ⊢
      generalize w.heap.size = b at B1 ⊢
      obtain ⟨c0, c1, c2, c3, c4, c5, c6⟩ := seven_cells B1.out
      have HP := Lib.hid (cPut0 p v l 4 0 0 w1 W1.out (by have := HL.out; omega))
      go_wp2_with (go_at_call 32; (with_reducible refine (HP.out).mono ?_); rintro e w2 ⟨rfl, v2, W2, K2⟩; have W2 := Lib.hid W2; have K2 := Lib.hid K2)
      go_end0
      exact ⟨rfl, v2, by rw [HQ.out]; exact W2.out, K1.out.trans K2.out⟩
    · have HQ := Lib.hid (show r = [⟨5, 0, 0, emp⟩] from HQ.out)
      go_enter Tryd.func48, Tryd.ntmps48
      go_upto_region 1 with fail
      generalize w.alloc _ = w1 at B1 W1 K1 N1 ⊢
      generalize w.heap.size = b at B1 ⊢
      obtain ⟨c0, c1, c2, c3, c4, c5, c6⟩ := seven_cells B1.out
      have HP := Lib.hid (cPut0 p v l 5 0 0 w1 W1.out (by have := HL.out; omega))
      go_wp2_with (go_at_call 32; (with_reducible refine (HP.out).mono ?_); rintro e w2 ⟨rfl, v2, W2, K2⟩; have W2 := Lib.hid W2; have K2 := Lib.hid K2)
      go_end0
      exact ⟨rfl, v2, by rw [HQ.out]; exact W2.out, K1.out.trans K2.out⟩
    · have HQ := Lib.hid (show r = [⟨0, 0, 0, s⟩] from HQ.out)
      go_enter Tryd.func48, Tryd.ntmps48
      go_upto_region 1 with fail
      generalize w.alloc _ = w1 at B1 W1 K1 N1 ⊢
      generalize w.heap.size = b at B1 ⊢
      obtain ⟨c0, c1, c2, c3, c4, c5, c6⟩ := seven_cells B1.out
      have HP := Lib.hid (cPut p v l ⟨0, 0, 0, s⟩ w1 W1.out (by have := HL.out; omega))
      go_wp2_with (go_at_call 32; (with_reducible refine (HP.out).mono ?_); rintro e w2 ⟨rfl, v2, W2, K2⟩; have W2 := Lib.hid W2; have K2 := Lib.hid K2)
      go_end0
      exact ⟨rfl, v2, by rw [HQ.out]; exact W2.out, K1.out.trans K2.out⟩
    · have HQ := Lib.hid (show r = codL q l.length from HQ.out)
      go_enter Tryd.func48, Tryd.ntmps48
      go_upto_region 1 with fail
      generalize w.alloc _ = w1 at B1 W1 K1 N1 ⊢
      generalize w.heap.size = b at B1 ⊢
      obtain ⟨c0, c1, c2, c3, c4, c5, c6⟩ := seven_cells B1.out
      have HP := Lib.hid (cNodes q HS.out HR.out p v l a _ c w1 W1.out (by have := HL.out; omega) hl200 N1.out)
      go_wp2_with (go_at_call 57; (with_reducible refine (HP.out).mono ?_); rintro e w2 ⟨rfl, v2, W2, K2⟩; have W2 := Lib.hid W2; have K2 := Lib.hid K2)
      go_end0
      exact ⟨rfl, v2, by rw [HQ.out]; exact W2.out, K1.out.trans K2.out⟩
    · have h2 := kids_two HKO.out (.inr rfl)
      have HQ := Lib.hid (show r = codA (l.length + (lenL q + 2 * (q.length - 1))) q l.length from HQ.out)
      obtain ⟨L, z, hq⟩ : ∃ L z, q = L ++ [z] := by
        have hne : q ≠ [] := by rintro rfl; simp at h2
        exact ⟨q.dropLast, q.getLast hne, (List.dropLast_concat_getLast hne).symm⟩
      have hlz : L.length + 1 = q.length := by rw [hq, List.length_append]; rfl
      have HP : ∀ w1, Wr p v l w1 → KidsI w1 (fun b => b < p) (.slice a q.length c) q → Calls Tryd.prog 58 #[.pointer (some ⟨p, 0, none⟩), .slice a q.length c] w1 (WrOut p v l w1 r) := fun w1 V1 M1 => by
        have hs := HS.out; have hr := HR.out; have hll := HL.out; have hQ := HQ.out
        rw [show q.length - 1 = L.length by omega] at hQ
        rw [show ownC 3 q.length = 2 * (q.length - 1) from rfl, show q.length - 1 = L.length by omega] at hll
        rw [hQ]
        generalize q.length = m at M1 ⊢
        subst hq
        exact cAlt L z (by rintro rfl; simp at h2) (fun n hn => hs n (List.mem_append_left _ hn)) (hs z (by simp)) hr p v l a m c w1 V1 hll (by omega) M1
      have HP := Lib.hid HP
      clear hq hlz h2
      go_enter Tryd.func48, Tryd.ntmps48
      go_upto_region 1 with fail
      generalize w.alloc _ = w1 at B1 W1 K1 N1 ⊢
      generalize w.heap.size = b at B1 ⊢
      obtain ⟨c0, c1, c2, c3, c4, c5, c6⟩ := seven_cells B1.out
      have HP := Lib.hid (HP.out w1 W1.out N1.out)
      go_wp2_with (go_at_call 58; (with_reducible refine (HP.out).mono ?_); rintro e w2 ⟨rfl, v2, W2, K2⟩; have W2 := Lib.hid W2; have K2 := Lib.hid K2)
      go_end0
      exact ⟨rfl, v2, W2.out, K1.out.trans K2.out⟩
    all_goals
      have h1 := kids_single HKO.out (by first | exact .inl rfl | exact .inr (.inl rfl) | exact .inr (.inr (.inl rfl)) | exact .inr (.inr (.inr rfl)))
      obtain ⟨z, rfl⟩ : ∃ z, q = [z] := by
        match q, h1 with
        | [z], _ => exact ⟨z, rfl⟩
      have hcz := HS.out z (by simp)
      have hrz := rgtL_mem HR.out (show z ∈ [z] by simp)
      have hl0 := HL.out
      rw [lenL_one] at hl0
      clear h1 HS HR HL hl200
    · have HQ2 := Lib.hid (show r = ⟨1, (l.length + 1 : Nat), (l.length + lenN z + 2 : Nat), emp⟩ :: (codN z (l.length + 1) ++ [⟨2, l.length, 0, emp⟩]) by rw [HQ.out, ← lenL_one, ← codL_one]; rfl)
      clear HQ
      have hll : l.length + (lenN z + 2) ≤ 9000 := hl0
      go_enter Tryd.func48, Tryd.ntmps48
      go_upto_region 1 with fail
      generalize w.alloc _ = w1 at B1 W1 K1 N1 ⊢
      generalize w.heap.size = b at B1 ⊢
      obtain ⟨c0, c1, c2, c3, c4, c5, c6⟩ := seven_cells B1.out
      obtain ⟨b0, off, x0, y0, z0, rfl, hc, hk'⟩ := N1.out.at (show [z][0]? = some z from rfl)
      have d0 : w1.cell? ⟨b0, off, none⟩ = some (.int .i64 z.kind) := hc 0 _ rfl
      have d1 : w1.cell? ⟨b0, off + 1, none⟩ = some (.int .i64 z.index) := hc 1 _ rfl
      have d2 : w1.cell? ⟨b0, off + 2, none⟩ = some (.int .u64 (wd z.set 0)) := hc 2 _ rfl
      have d3 : w1.cell? ⟨b0, off + 3, none⟩ = some (.int .u64 (wd z.set 1)) := hc 3 _ rfl
      have d4 : w1.cell? ⟨b0, off + 4, none⟩ = some (.int .u64 (wd z.set 2)) := hc 4 _ rfl
      have d5 : w1.cell? ⟨b0, off + 5, none⟩ = some (.int .u64 (wd z.set 3)) := hc 5 _ rfl
      have d6 : w1.cell? ⟨b0, off + 6, none⟩ = some (.slice x0 y0 z0) := hc 6 _ rfl
      have HP := Lib.hid (cStar z hcz hrz p v l x0 y0 z0 w1 W1.out (by omega) hk')
      clear hc hk'
      go_wp2_with (go_at_call 59; (with_reducible refine (HP.out).mono ?_); rintro e w2 ⟨rfl, v2, W2, K2⟩; have W2 := Lib.hid W2; have K2 := Lib.hid K2)
      go_end0
      exact ⟨rfl, v2, by rw [HQ2.out]; exact W2.out, K1.out.trans K2.out⟩
    · have HQ2 := Lib.hid (show r = codN z l.length ++ [⟨1, l.length, (l.length + lenN z + 1 : Nat), emp⟩] by rw [HQ.out, ← lenL_one, ← codL_one]; rfl)
      clear HQ
      have hll : l.length + (lenN z + 1) ≤ 9000 := hl0
      go_enter Tryd.func48, Tryd.ntmps48
      go_upto_region 1 with fail
      generalize w.alloc _ = w1 at B1 W1 K1 N1 ⊢
      generalize w.heap.size = b at B1 ⊢
      obtain ⟨c0, c1, c2, c3, c4, c5, c6⟩ := seven_cells B1.out
      obtain ⟨b0, off, x0, y0, z0, rfl, hc, hk'⟩ := N1.out.at (show [z][0]? = some z from rfl)
      have d0 : w1.cell? ⟨b0, off, none⟩ = some (.int .i64 z.kind) := hc 0 _ rfl
      have d1 : w1.cell? ⟨b0, off + 1, none⟩ = some (.int .i64 z.index) := hc 1 _ rfl
      have d2 : w1.cell? ⟨b0, off + 2, none⟩ = some (.int .u64 (wd z.set 0)) := hc 2 _ rfl
      have d3 : w1.cell? ⟨b0, off + 3, none⟩ = some (.int .u64 (wd z.set 1)) := hc 3 _ rfl
      have d4 : w1.cell? ⟨b0, off + 4, none⟩ = some (.int .u64 (wd z.set 2)) := hc 4 _ rfl
      have d5 : w1.cell? ⟨b0, off + 5, none⟩ = some (.int .u64 (wd z.set 3)) := hc 5 _ rfl
      have d6 : w1.cell? ⟨b0, off + 6, none⟩ = some (.slice x0 y0 z0) := hc 6 _ rfl
      have HP := Lib.hid (cPlus z hcz hrz p v l x0 y0 z0 w1 W1.out (by omega) hk')
      clear hc hk'
      go_wp2_with (go_at_call 60; (with_reducible refine (HP.out).mono ?_); rintro e w2 ⟨rfl, v2, W2, K2⟩; have W2 := Lib.hid W2; have K2 := Lib.hid K2)
      go_end0
      exact ⟨rfl, v2, by rw [HQ2.out]; exact W2.out, K1.out.trans K2.out⟩
    · have HQ2 := Lib.hid (show r = ⟨1, (l.length + 1 : Nat), (l.length + lenN z + 1 : Nat), emp⟩ :: codN z (l.length + 1) by rw [HQ.out, ← lenL_one, ← codL_one]; rfl)
      clear HQ
      have hll : l.length + (lenN z + 1) ≤ 9000 := hl0
      go_enter Tryd.func48, Tryd.ntmps48
      go_upto_region 1 with fail
      generalize w.alloc _ = w1 at B1 W1 K1 N1 ⊢
      generalize w.heap.size = b at B1 ⊢
      obtain ⟨c0, c1, c2, c3, c4, c5, c6⟩ := seven_cells B1.out
      obtain ⟨b0, off, x0, y0, z0, rfl, hc, hk'⟩ := N1.out.at (show [z][0]? = some z from rfl)
      have d0 : w1.cell? ⟨b0, off, none⟩ = some (.int .i64 z.kind) := hc 0 _ rfl
      have d1 : w1.cell? ⟨b0, off + 1, none⟩ = some (.int .i64 z.index) := hc 1 _ rfl
      have d2 : w1.cell? ⟨b0, off + 2, none⟩ = some (.int .u64 (wd z.set 0)) := hc 2 _ rfl
      have d3 : w1.cell? ⟨b0, off + 3, none⟩ = some (.int .u64 (wd z.set 1)) := hc 3 _ rfl
      have d4 : w1.cell? ⟨b0, off + 4, none⟩ = some (.int .u64 (wd z.set 2)) := hc 4 _ rfl
      have d5 : w1.cell? ⟨b0, off + 5, none⟩ = some (.int .u64 (wd z.set 3)) := hc 5 _ rfl
      have d6 : w1.cell? ⟨b0, off + 6, none⟩ = some (.slice x0 y0 z0) := hc 6 _ rfl
      have HP := Lib.hid (cMaybe z hcz hrz p v l x0 y0 z0 w1 W1.out (by omega) hk')
      clear hc hk'
      go_wp2_with (go_at_call 61; (with_reducible refine (HP.out).mono ?_); rintro e w2 ⟨rfl, v2, W2, K2⟩; have W2 := Lib.hid W2; have K2 := Lib.hid K2)
      go_end0
      exact ⟨rfl, v2, by rw [HQ2.out]; exact W2.out, K1.out.trans K2.out⟩
    · have HQ2 := Lib.hid (show r = ⟨3, 2 * i, 0, emp⟩ :: (codN z (l.length + 1) ++ [⟨3, 2 * i + 1, 0, emp⟩]) by rw [HQ.out, ← codL_one]; rfl)
      clear HQ
      have hll : l.length + (lenN z + 2) ≤ 9000 := hl0
      go_enter Tryd.func48, Tryd.ntmps48
      go_upto_region 1 with fail
      generalize w.alloc _ = w1 at B1 W1 K1 N1 ⊢
      generalize w.heap.size = b at B1 ⊢
      obtain ⟨c0, c1, c2, c3, c4, c5, c6⟩ := seven_cells B1.out
      obtain ⟨b0, off, x0, y0, z0, rfl, hc, hk'⟩ := N1.out.at (show [z][0]? = some z from rfl)
      have d0 : w1.cell? ⟨b0, off, none⟩ = some (.int .i64 z.kind) := hc 0 _ rfl
      have d1 : w1.cell? ⟨b0, off + 1, none⟩ = some (.int .i64 z.index) := hc 1 _ rfl
      have d2 : w1.cell? ⟨b0, off + 2, none⟩ = some (.int .u64 (wd z.set 0)) := hc 2 _ rfl
      have d3 : w1.cell? ⟨b0, off + 3, none⟩ = some (.int .u64 (wd z.set 1)) := hc 3 _ rfl
      have d4 : w1.cell? ⟨b0, off + 4, none⟩ = some (.int .u64 (wd z.set 2)) := hc 4 _ rfl
      have d5 : w1.cell? ⟨b0, off + 5, none⟩ = some (.int .u64 (wd z.set 3)) := hc 5 _ rfl
      have d6 : w1.cell? ⟨b0, off + 6, none⟩ = some (.slice x0 y0 z0) := hc 6 _ rfl
      have hi : 1 ≤ i ∧ i ≤ 9 := by have := HIX.out; unfold idxOk at this; simpa using this
      have hwr : IntKind.i64.wrap (2 * i) = 2 * i := by rw [IntKind.wrap_i64]; omega
      have HP := Lib.hid (fun W (g : w1.grownBy W none) => cBetween z hcz (2 * i) (by omega) (by omega) p v l x0 y0 z0 W (W1.out.kept g) (by omega) hrz (hk'.grown g))
      clear hc hk'
      go_upto_region 15 with fail
      go_region_law (refine step_callP (by rfl) 31 #[.pointer (some ⟨p, 0, none⟩), .int .i64 (2 * i), niV z (.slice x0 y0 z0)] (by go_simp) (HP.out _ (grown_drew (World.grownBy.refl _ _))) ?_; rintro e w2 ⟨rfl, v2, W2, K2⟩; refine ⟨_, rfl, ?_⟩)
      all_goals
        have W2 := Lib.hid W2
        have K2 := Lib.hid ((Kp.ofGrown (grown_drew (World.grownBy.refl w1 none))).trans K2)
        go_wp2
        go_end0
        exact ⟨rfl, v2, by rw [HQ2.out]; exact W2.out, K1.out.trans K2.out⟩
end Go.Proofs.YtliefnjhobdphaaDoor

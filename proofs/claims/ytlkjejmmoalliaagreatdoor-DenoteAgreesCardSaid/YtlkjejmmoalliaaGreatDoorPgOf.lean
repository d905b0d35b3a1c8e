/- The writer's code of any right node. Programs: Compile and Of. Of: a text's program; the chapter's example. -/
import Derived.Test.YtlkjejmmoalliaaGreatDoorPgAlt
import Derived.Test.YtlkjejmmoalliaaGreatDoorPgMem
import Derived.Test.YtlkjejmmoalliaaGreatDoorRexV
namespace Go.Proofs.YtlkjejmmoalliaaGreatDoor
open Go.RowKit

theorem wr_eq {p : Nat} {v : Value} {l : List Ins} {w : World} {r r' : List Ins} {f : FuncId} {args : Array Value} (e : r = r') (h : Calls Tryz.prog f args w (WrOut p v l w r)) : Calls Tryz.prog f args w (WrOut p v l w r') := e ▸ h

set_option maxRecDepth 100000 in
set_option maxHeartbeats 8000000 in
theorem cNode : ∀ (N : Nat) (n : Ni), szN n ≤ N → N ≤ 200 → rgtN n = true → NodeC n := by
  intro N
  induction N with
  | zero => intro n h; rw [sz_eq] at h; omega
  | succ N ih =>
    intro n hN hN2 hR p v l a m c w h hl hK
    have hz := sz_eq n
    have hl200 : n.kids.length ≤ 200 := by have := len_le_sz n.kids; omega
    rw [rgt_eq] at hR
    simp only [Bool.and_eq_true] at hR
    obtain ⟨⟨⟨hk, hix⟩, -⟩, hr⟩ := hR
    rw [len_eq] at hl
    have HQ := Lib.hid (cod_eq n l.length)
    obtain rfl := hK.len
    obtain ⟨r, hr0⟩ : ∃ r, r = codN n l.length := ⟨_, rfl⟩
    rw [← hr0] at HQ ⊢
    obtain ⟨q, hq⟩ : ∃ q, q = n.kids := ⟨_, rfl⟩
    obtain ⟨x, hx⟩ : ∃ x, x = n.kind := ⟨_, rfl⟩
    obtain ⟨i, hi⟩ : ∃ i, i = n.index := ⟨_, rfl⟩
    obtain ⟨s, hs⟩ : ∃ s, s = n.set := ⟨_, rfl⟩
    have e0 : niV n (.slice a n.kids.length c) = .agg #[.int .i64 x, .int .i64 i, .int .u64 (wd s 0), .int .u64 (wd s 1), .int .u64 (wd s 2), .int .u64 (wd s 3), .slice a q.length c] := by unfold niV; rw [hx, hi, hs, hq]
    rw [e0]
    rw [← hq, ← hx, ← hi, ← hs] at HQ
    rw [← hq] at hK hz hl200 hk hr hl
    rw [← hx] at hk hix hl
    rw [← hi] at hix
    have HS := Lib.hid (show ∀ n' ∈ q, NodeC n' from fun n' h' => ih n' (by have := szL_mem h'; omega) (by omega) (rgtL_mem hr h'))
    have HR := Lib.hid hr
    have HKO := Lib.hid hk
    have HIX := Lib.hid hix
    have HL := Lib.hid hl
    clear ih hN hN2 hz hr hr0 e0 hx hi hs hq hix hl
    have ga := World.grownBy_alloc w (.cells #[.int .i64 x, .int .i64 i, .int .u64 (wd s 0), .int .u64 (wd s 1), .int .u64 (wd s 2), .int .u64 (wd s 3), .slice a q.length c] 28) none
    have B1 := Lib.hid (heap_alloc_new w (.cells #[.int .i64 x, .int .i64 i, .int .u64 (wd s 0), .int .u64 (wd s 1), .int .u64 (wd s 2), .int .u64 (wd s 3), .slice a q.length c] 28))
    have W1 := Lib.hid (h.kept ga)
    have K1 := Lib.hid (Kp.ofGrown (p := p) (v := v) ga)
    have N1 := Lib.hid (hK.grown ga)
    have HKN := Lib.hid (kids_kind hk)
    clear ga h hK hk
    have hc : x = 0 ∨ x = 8 ∨ x = 9 ∨ x = 1 ∨ x = 2 ∨ x = 3 ∨ x = 4 ∨ x = 5 ∨ x = 6 ∨ x = 7 := by have := HKN.out; omega
    clear HKN
    rcases hc with rfl | rfl | rfl | rfl | rfl | rfl | rfl | rfl | rfl | rfl
    · have HQ := Lib.hid (show r = [] from HQ.out)
      go_enter Tryz.func55, Tryz.ntmps55
      go_upto_region 1 with fail
      generalize w.alloc _ = w1 at B1 W1 K1 N1 ⊢
      generalize w.heap.size = b at B1 ⊢
      obtain ⟨c0, c1, c2, c3, c4, c5, c6⟩ := seven_cells B1.out
      go_wp2
      go_end0
      exact ⟨rfl, v, by rw [HQ.out, List.append_nil]; exact W1.out, K1.out⟩
    · have HQ := Lib.hid (show r = [⟨4, 0, 0, emp⟩] from HQ.out)
      go_enter Tryz.func55, Tryz.ntmps55
      go_upto_region 1 with fail
      generalize w.alloc _ = w1 at B1 W1 K1 N1 ⊢
      generalize w.heap.size = b at B1 ⊢
      obtain ⟨c0, c1, c2, c3, c4, c5, c6⟩ := seven_cells B1.out
      have HP := Lib.hid (cPut0 p v l 4 0 0 w1 W1.out (by have := HL.out; omega))
      go_wp2_with (go_at_call 31; (with_reducible refine (HP.out).mono ?_); rintro e w2 ⟨rfl, v2, W2, K2⟩; have W2 := Lib.hid W2; have K2 := Lib.hid K2)
      go_end0
      exact ⟨rfl, v2, by rw [HQ.out]; exact W2.out, K1.out.trans K2.out⟩
    · have HQ := Lib.hid (show r = [⟨5, 0, 0, emp⟩] from HQ.out)
      go_enter Tryz.func55, Tryz.ntmps55
      go_upto_region 1 with fail
      generalize w.alloc _ = w1 at B1 W1 K1 N1 ⊢
      generalize w.heap.size = b at B1 ⊢
      obtain ⟨c0, c1, c2, c3, c4, c5, c6⟩ := seven_cells B1.out
      have HP := Lib.hid (cPut0 p v l 5 0 0 w1 W1.out (by have := HL.out; omega))
      go_wp2_with (go_at_call 31; (with_reducible refine (HP.out).mono ?_); rintro e w2 ⟨rfl, v2, W2, K2⟩; have W2 := Lib.hid W2; have K2 := Lib.hid K2)
      go_end0
      exact ⟨rfl, v2, by rw [HQ.out]; exact W2.out, K1.out.trans K2.out⟩
    · have HQ := Lib.hid (show r = [⟨0, 0, 0, s⟩] from HQ.out)
      go_enter Tryz.func55, Tryz.ntmps55
      go_upto_region 1 with fail
      generalize w.alloc _ = w1 at B1 W1 K1 N1 ⊢
      generalize w.heap.size = b at B1 ⊢
      obtain ⟨c0, c1, c2, c3, c4, c5, c6⟩ := seven_cells B1.out
      have HP := Lib.hid (cPut p v l ⟨0, 0, 0, s⟩ w1 W1.out (by have := HL.out; omega))
      go_wp2_with (go_at_call 31; (with_reducible refine (HP.out).mono ?_); rintro e w2 ⟨rfl, v2, W2, K2⟩; have W2 := Lib.hid W2; have K2 := Lib.hid K2)
      go_end0
      exact ⟨rfl, v2, by rw [HQ.out]; exact W2.out, K1.out.trans K2.out⟩
    · have HQ := Lib.hid (show r = codL q l.length from HQ.out)
      go_enter Tryz.func55, Tryz.ntmps55
      go_upto_region 1 with fail
      generalize w.alloc _ = w1 at B1 W1 K1 N1 ⊢
      generalize w.heap.size = b at B1 ⊢
      obtain ⟨c0, c1, c2, c3, c4, c5, c6⟩ := seven_cells B1.out
      have HP := Lib.hid (cNodes q HS.out HR.out p v l a _ c w1 W1.out (by have := HL.out; omega) hl200 N1.out)
      go_wp2_with (go_at_call 68; (with_reducible refine (HP.out).mono ?_); rintro e w2 ⟨rfl, v2, W2, K2⟩; have W2 := Lib.hid W2; have K2 := Lib.hid K2)
      go_end0
      exact ⟨rfl, v2, by rw [HQ.out]; exact W2.out, K1.out.trans K2.out⟩
    · have h2 := kids_two HKO.out (.inr rfl)
      have HQ := Lib.hid (show r = codA (l.length + (lenL q + 2 * (q.length - 1))) q l.length from HQ.out)
      obtain ⟨L, z, hq⟩ : ∃ L z, q = L ++ [z] := by
        have hne : q ≠ [] := by rintro rfl; simp at h2
        exact ⟨q.dropLast, q.getLast hne, (List.dropLast_concat_getLast hne).symm⟩
      have hlz : L.length + 1 = q.length := by rw [hq, List.length_append]; rfl
      have HP : ∀ w1, Wr p v l w1 → KidsI w1 (fun b => b < p) (.slice a q.length c) q → Calls Tryz.prog 69 #[.pointer (some ⟨p, 0, none⟩), .slice a q.length c] w1 (WrOut p v l w1 r) := fun w1 V1 M1 => by
        have hs := HS.out; have hr := HR.out; have hll := HL.out; have hQ := HQ.out
        rw [show q.length - 1 = L.length by omega] at hQ
        rw [show ownC 3 q.length = 2 * (q.length - 1) from rfl, show q.length - 1 = L.length by omega] at hll
        rw [hQ]
        generalize q.length = m at M1 ⊢
        subst hq
        exact cAlt L z (by rintro rfl; simp at h2) (fun n hn => hs n (List.mem_append_left _ hn)) (hs z (by simp)) hr p v l a m c w1 V1 hll (by omega) M1
      have HP := Lib.hid HP
      clear hq hlz h2
      go_enter Tryz.func55, Tryz.ntmps55
      go_upto_region 1 with fail
      generalize w.alloc _ = w1 at B1 W1 K1 N1 ⊢
      generalize w.heap.size = b at B1 ⊢
      obtain ⟨c0, c1, c2, c3, c4, c5, c6⟩ := seven_cells B1.out
      have HP := Lib.hid (HP.out w1 W1.out N1.out)
      go_wp2_with (go_at_call 69; (with_reducible refine (HP.out).mono ?_); rintro e w2 ⟨rfl, v2, W2, K2⟩; have W2 := Lib.hid W2; have K2 := Lib.hid K2)
      go_end0
      exact ⟨rfl, v2, W2.out, K1.out.trans K2.out⟩
    all_goals
      have h1 := kids_single HKO.out (by first | exact .inl rfl | exact .inr (.inl rfl) | exact .inr (.inr (.inl rfl)) | exact .inr (.inr (.inr rfl)))
      obtain ⟨z, rfl⟩ : ∃ z, q = [z] := by
        match q, h1 with
        | [z], _ => exact ⟨z, rfl⟩
      have hcz := HS.out z (by simp)
      have hrz := rgtL_mem HR.out (show z ∈ [z] by simp)
      have hl0 := HL.out
      rw [lenL_one] at hl0
      clear h1 HS HR HL hl200
    · have HQ2 := Lib.hid (show r = ⟨1, (l.length + 1 : Nat), (l.length + lenN z + 2 : Nat), emp⟩ :: (codN z (l.length + 1) ++ [⟨2, l.length, 0, emp⟩]) by rw [HQ.out, ← lenL_one, ← codL_one]; rfl)
      clear HQ
      have hll : l.length + (lenN z + 2) ≤ 9000 := hl0
      go_enter Tryz.func55, Tryz.ntmps55
      go_upto_region 1 with fail
      generalize w.alloc _ = w1 at B1 W1 K1 N1 ⊢
      generalize w.heap.size = b at B1 ⊢
      obtain ⟨c0, c1, c2, c3, c4, c5, c6⟩ := seven_cells B1.out
      obtain ⟨b0, off, x0, y0, z0, rfl, hc, hk'⟩ := N1.out.at (show [z][0]? = some z from rfl)
      have d0 : w1.cell? ⟨b0, off, none⟩ = some (.int .i64 z.kind) := hc 0 _ rfl
      have d1 : w1.cell? ⟨b0, off + 1, none⟩ = some (.int .i64 z.index) := hc 1 _ rfl
      have d2 : w1.cell? ⟨b0, off + 2, none⟩ = some (.int .u64 (wd z.set 0)) := hc 2 _ rfl
      have d3 : w1.cell? ⟨b0, off + 3, none⟩ = some (.int .u64 (wd z.set 1)) := hc 3 _ rfl
      have d4 : w1.cell? ⟨b0, off + 4, none⟩ = some (.int .u64 (wd z.set 2)) := hc 4 _ rfl
      have d5 : w1.cell? ⟨b0, off + 5, none⟩ = some (.int .u64 (wd z.set 3)) := hc 5 _ rfl
      have d6 : w1.cell? ⟨b0, off + 6, none⟩ = some (.slice x0 y0 z0) := hc 6 _ rfl
      have HP := Lib.hid (cStar z hcz hrz p v l x0 y0 z0 w1 W1.out (by omega) hk')
      clear hc hk'
      go_wp2_with (go_at_call 70; (with_reducible refine (HP.out).mono ?_); rintro e w2 ⟨rfl, v2, W2, K2⟩; have W2 := Lib.hid W2; have K2 := Lib.hid K2)
      go_end0
      exact ⟨rfl, v2, by rw [HQ2.out]; exact W2.out, K1.out.trans K2.out⟩
    · have HQ2 := Lib.hid (show r = codN z l.length ++ [⟨1, l.length, (l.length + lenN z + 1 : Nat), emp⟩] by rw [HQ.out, ← lenL_one, ← codL_one]; rfl)
      clear HQ
      have hll : l.length + (lenN z + 1) ≤ 9000 := hl0
      go_enter Tryz.func55, Tryz.ntmps55
      go_upto_region 1 with fail
      generalize w.alloc _ = w1 at B1 W1 K1 N1 ⊢
      generalize w.heap.size = b at B1 ⊢
      obtain ⟨c0, c1, c2, c3, c4, c5, c6⟩ := seven_cells B1.out
      obtain ⟨b0, off, x0, y0, z0, rfl, hc, hk'⟩ := N1.out.at (show [z][0]? = some z from rfl)
      have d0 : w1.cell? ⟨b0, off, none⟩ = some (.int .i64 z.kind) := hc 0 _ rfl
      have d1 : w1.cell? ⟨b0, off + 1, none⟩ = some (.int .i64 z.index) := hc 1 _ rfl
      have d2 : w1.cell? ⟨b0, off + 2, none⟩ = some (.int .u64 (wd z.set 0)) := hc 2 _ rfl
      have d3 : w1.cell? ⟨b0, off + 3, none⟩ = some (.int .u64 (wd z.set 1)) := hc 3 _ rfl
      have d4 : w1.cell? ⟨b0, off + 4, none⟩ = some (.int .u64 (wd z.set 2)) := hc 4 _ rfl
      have d5 : w1.cell? ⟨b0, off + 5, none⟩ = some (.int .u64 (wd z.set 3)) := hc 5 _ rfl
      have d6 : w1.cell? ⟨b0, off + 6, none⟩ = some (.slice x0 y0 z0) := hc 6 _ rfl
      have HP := Lib.hid (cPlus z hcz hrz p v l x0 y0 z0 w1 W1.out (by omega) hk')
      clear hc hk'
      go_wp2_with (go_at_call 71; (with_reducible refine (HP.out).mono ?_); rintro e w2 ⟨rfl, v2, W2, K2⟩; have W2 := Lib.hid W2; have K2 := Lib.hid K2)
      go_end0
      exact ⟨rfl, v2, by rw [HQ2.out]; exact W2.out, K1.out.trans K2.out⟩
    · have HQ2 := Lib.hid (show r = ⟨1, (l.length + 1 : Nat), (l.length + lenN z + 1 : Nat), emp⟩ :: codN z (l.length + 1) by rw [HQ.out, ← lenL_one, ← codL_one]; rfl)
      clear HQ
      have hll : l.length + (lenN z + 1) ≤ 9000 := hl0
      go_enter Tryz.func55, Tryz.ntmps55
      go_upto_region 1 with fail
      generalize w.alloc _ = w1 at B1 W1 K1 N1 ⊢
      generalize w.heap.size = b at B1 ⊢
      obtain ⟨c0, c1, c2, c3, c4, c5, c6⟩ := seven_cells B1.out
      obtain ⟨b0, off, x0, y0, z0, rfl, hc, hk'⟩ := N1.out.at (show [z][0]? = some z from rfl)
      have d0 : w1.cell? ⟨b0, off, none⟩ = some (.int .i64 z.kind) := hc 0 _ rfl
      have d1 : w1.cell? ⟨b0, off + 1, none⟩ = some (.int .i64 z.index) := hc 1 _ rfl
      have d2 : w1.cell? ⟨b0, off + 2, none⟩ = some (.int .u64 (wd z.set 0)) := hc 2 _ rfl
      have d3 : w1.cell? ⟨b0, off + 3, none⟩ = some (.int .u64 (wd z.set 1)) := hc 3 _ rfl
      have d4 : w1.cell? ⟨b0, off + 4, none⟩ = some (.int .u64 (wd z.set 2)) := hc 4 _ rfl
      have d5 : w1.cell? ⟨b0, off + 5, none⟩ = some (.int .u64 (wd z.set 3)) := hc 5 _ rfl
      have d6 : w1.cell? ⟨b0, off + 6, none⟩ = some (.slice x0 y0 z0) := hc 6 _ rfl
      have HP := Lib.hid (cMaybe z hcz hrz p v l x0 y0 z0 w1 W1.out (by omega) hk')
      clear hc hk'
      go_wp2_with (go_at_call 72; (with_reducible refine (HP.out).mono ?_); rintro e w2 ⟨rfl, v2, W2, K2⟩; have W2 := Lib.hid W2; have K2 := Lib.hid K2)
      go_end0
      exact ⟨rfl, v2, by rw [HQ2.out]; exact W2.out, K1.out.trans K2.out⟩
    · have HQ2 := Lib.hid (show r = ⟨3, 2 * i, 0, emp⟩ :: (codN z (l.length + 1) ++ [⟨3, 2 * i + 1, 0, emp⟩]) by rw [HQ.out, ← codL_one]; rfl)
      clear HQ
      have hll : l.length + (lenN z + 2) ≤ 9000 := hl0
      go_enter Tryz.func55, Tryz.ntmps55
      go_upto_region 1 with fail
      generalize w.alloc _ = w1 at B1 W1 K1 N1 ⊢
      generalize w.heap.size = b at B1 ⊢
      obtain ⟨c0, c1, c2, c3, c4, c5, c6⟩ := seven_cells B1.out
      obtain ⟨b0, off, x0, y0, z0, rfl, hc, hk'⟩ := N1.out.at (show [z][0]? = some z from rfl)
      have d0 : w1.cell? ⟨b0, off, none⟩ = some (.int .i64 z.kind) := hc 0 _ rfl
      have d1 : w1.cell? ⟨b0, off + 1, none⟩ = some (.int .i64 z.index) := hc 1 _ rfl
      have d2 : w1.cell? ⟨b0, off + 2, none⟩ = some (.int .u64 (wd z.set 0)) := hc 2 _ rfl
      have d3 : w1.cell? ⟨b0, off + 3, none⟩ = some (.int .u64 (wd z.set 1)) := hc 3 _ rfl
      have d4 : w1.cell? ⟨b0, off + 4, none⟩ = some (.int .u64 (wd z.set 2)) := hc 4 _ rfl
      have d5 : w1.cell? ⟨b0, off + 5, none⟩ = some (.int .u64 (wd z.set 3)) := hc 5 _ rfl
      have d6 : w1.cell? ⟨b0, off + 6, none⟩ = some (.slice x0 y0 z0) := hc 6 _ rfl
      have hi : 1 ≤ i ∧ i ≤ 9 := by have := HIX.out; unfold idxOk at this; simpa using this
      have hwr : IntKind.i64.wrap (2 * i) = 2 * i := by rw [IntKind.wrap_i64]; omega
      have HP := Lib.hid (fun W (g : w1.grownBy W none) => cBetween z hcz (2 * i) (by omega) (by omega) p v l x0 y0 z0 W (W1.out.kept g) (by omega) hrz (hk'.grown g))
      clear hc hk'
      go_upto_region 15 with fail
      go_region_law (refine step_callP (by rfl) 30 #[.pointer (some ⟨p, 0, none⟩), .int .i64 (2 * i), niV z (.slice x0 y0 z0)] (by go_simp) (HP.out _ (grown_drew (World.grownBy.refl _ _))) ?_; rintro e w2 ⟨rfl, v2, W2, K2⟩; refine ⟨_, rfl, ?_⟩)
      all_goals
        have W2 := Lib.hid W2
        have K2 := Lib.hid ((Kp.ofGrown (grown_drew (World.grownBy.refl w1 none))).trans K2)
        go_wp2
        go_end0
        exact ⟨rfl, v2, by rw [HQ2.out]; exact W2.out, K1.out.trans K2.out⟩
end Go.Proofs.YtlkjejmmoalliaaGreatDoor

namespace Go.Proofs.YtlkjejmmoalliaaGreatDoor
open Go.RowKit

/-- the errors of Compile -/
def LP : List (Nat × Nat) := [(17, 3), (10, 2)]
/-- the number of a node's error, and its program -/
def cmpE (n : Ni) : Nat := if rgtN n then (if lenN n > 197 then 10 else 0) else 17
def cmpL (n : Ni) : List Ins := if cmpE n = 0 then prgN n else []
def ProgOut (A : Nat → Addr) (l : List Ins) (k : Nat) (e : Ending) (w' : World) : Prop := ∃ a c, e = .returned (.tuple #[.slice a l.length c, errV A k]) ∧ CRow w' (.slice a l.length c) l
theorem row_nil (w : World) : CRow w (.slice none 0 0) [] := ⟨none, 0, rfl, fun k x hx => by simp at hx⟩

set_option maxRecDepth 100000 in
set_option maxHeartbeats 4000000 in
theorem cCompile (A : Nat → Addr) (n : Ni) (a : Option Addr) (m c : Nat) (w : World) (hs : szN n ≤ 200) (hK : KidsE w (.slice a m c) n.kids) (hE : Sents LP A w) :
    Calls Tryz.prog 14 #[niV n (.slice a m c)] w fun e w' => ProgOut A (cmpL n) (cmpE n) e w' ∧ w.grownBy w' none := by
  have HR := Lib.hid (fun w h => cRight 200 n a m c w hs (Nat.le_refl _) h)
  have HL := Lib.hid (fun w hr h => cLength0 200 n a m c w hs (Nat.le_refl _) hr h)
  have HC := Lib.hid (fun hr => cNode 200 n hs (Nat.le_refl _) hr)
  have HLN := Lib.hid (show lenN n ≤ 800 by have := lenN_le n; omega)
  have ga := World.grownBy_alloc w (.cells #[.int .i64 n.kind, .int .i64 n.index, .int .u64 (wd n.set 0), .int .u64 (wd n.set 1), .int .u64 (wd n.set 2), .int .u64 (wd n.set 3), .slice a m c] 28) none
  have B1 := Lib.hid (heap_alloc_new w (.cells #[.int .i64 n.kind, .int .i64 n.index, .int .u64 (wd n.set 0), .int .u64 (wd n.set 1), .int .u64 (wd n.set 2), .int .u64 (wd n.set 3), .slice a m c] 28))
  have K1 := Lib.hid (hK.grown ga)
  have E1 := Lib.hid (hE.grown ga)
  have G1 := Lib.hid ga
  clear ga hK hs hE
  cases hb : rgtN n
  · have HO := Lib.hid (show cmpE n = 17 ∧ cmpL n = [] by have : cmpE n = 17 := by unfold cmpE; rw [hb]; rfl
                                                          exact ⟨this, by unfold cmpL; rw [this]; rfl⟩)
    rw [hb] at HR
    clear hb
    go_enter Tryz.func14, Tryz.ntmps14
    go_upto_region 1 with fail
    generalize w.alloc _ = w1 at B1 K1 G1 E1 ⊢
    generalize w.heap.size = q at B1 ⊢
    obtain ⟨c0, c1, c2, c3, c4, c5, c6⟩ := seven_cells B1.out
    go_upto_region 2 with (go_at_call 28; refine (HR.out _ K1.out).mono ?_; rintro e w2 ⟨rfl, g2⟩)
    have s17 := (E1.out.grown g2) (17, 3) (by simp [LP])
    have G2 := Lib.hid (G1.out.trans g2)
    clear g2 c0 c1 c2 c3 c4 c5 c6
    simp only at s17
    go_quiet (fail)
    go_wp2
    go_ret2
    exact ⟨⟨none, 0, by rw [HO.out.1, HO.out.2]; rfl, by rw [HO.out.2]; exact row_nil _⟩, grown_drewN G2.out _⟩
  · rw [hb] at HR HL HC
    have HL2 := Lib.hid (fun w h => HL.out w rfl h)
    have HC2 := Lib.hid (HC.out rfl)
    clear HL HC
    by_cases h197 : lenN n > 197
    · have HO := Lib.hid (show cmpE n = 10 ∧ cmpL n = [] by have : cmpE n = 10 := by unfold cmpE; rw [hb, if_pos rfl, if_pos h197]
                                                            exact ⟨this, by unfold cmpL; rw [this]; rfl⟩)
      have hz := HLN.out
      have hd : decide ((lenN n : Int) + 3 > 200) = true := by simp; omega
      clear hb
      go_enter Tryz.func14, Tryz.ntmps14
      go_upto_region 1 with fail
      generalize w.alloc _ = w1 at B1 K1 G1 E1 ⊢
      generalize w.heap.size = q at B1 ⊢
      obtain ⟨c0, c1, c2, c3, c4, c5, c6⟩ := seven_cells B1.out
      go_upto_region 4 with (first
        | (go_at_call 28; refine (HR.out _ K1.out).mono ?_; rintro e w2 ⟨rfl, g2⟩; clear c0 c1 c2 c3 c4 c5 c6; have B2 := Lib.hid (heap_grown g2 B1.out); have G2 := Lib.hid (G1.out.trans g2); have K2 := Lib.hid (K1.out.grown g2); have E2 := Lib.hid (E1.out.grown g2); clear g2; obtain ⟨c0, c1, c2, c3, c4, c5, c6⟩ := seven_cells B2.out)
        | (go_at_call 29; refine (HL2.out _ K2.out).mono ?_; rintro e w3 ⟨rfl, g3⟩; have G3 := Lib.hid (G2.out.trans g3); have E3 := Lib.hid (E2.out.grown g3); clear g3 c0 c1 c2 c3 c4 c5 c6))
      have s10 := E3.out (10, 2) (by simp [LP])
      simp only at s10
      go_quiet (fail)
      go_wp2
      go_ret2
      exact ⟨⟨none, 0, by rw [HO.out.1, HO.out.2]; rfl, by rw [HO.out.2]; exact row_nil _⟩, grown_drewN G3.out _⟩
    · have HO := Lib.hid (show cmpE n = 0 ∧ cmpL n = prgN n by have : cmpE n = 0 := by unfold cmpE; rw [hb, if_pos rfl, if_neg h197]
                                                               exact ⟨this, by unfold cmpL; rw [this]; rfl⟩)
      have HRB := Lib.hid hb
      have hz : lenN n ≤ 197 := by omega
      have hd : decide ((lenN n : Int) + 3 > 200) = false := by simp; omega
      clear hb h197
      go_enter Tryz.func14, Tryz.ntmps14
      go_upto_region 1 with fail
      generalize w.alloc _ = w1 at B1 K1 G1 E1 ⊢
      generalize w.heap.size = q at B1 ⊢
      obtain ⟨c0, c1, c2, c3, c4, c5, c6⟩ := seven_cells B1.out
      go_upto_region 5 with (first
        | (go_at_call 28; refine (HR.out _ K1.out).mono ?_; rintro e w2 ⟨rfl, g2⟩; clear c0 c1 c2 c3 c4 c5 c6; have B2 := Lib.hid (heap_grown g2 B1.out); have G2 := Lib.hid (G1.out.trans g2); have K2 := Lib.hid (K1.out.grown g2); clear g2; obtain ⟨c0, c1, c2, c3, c4, c5, c6⟩ := seven_cells B2.out)
        | (go_at_call 29; refine (HL2.out _ K2.out).mono ?_; rintro e w3 ⟨rfl, g3⟩; have G3 := Lib.hid (G2.out.trans g3); have B3 := Lib.hid (heap_grown g3 B2.out); have K3 := Lib.hid (K2.out.grown g3); clear g3 c0 c1 c2 c3 c4 c5 c6))
      have ga := World.grownBy_alloc w3 (.cells #[.slice none 0 0] 70) none
      have W4 := Lib.hid (show Wr w3.heap.size (.slice none 0 0) [] (w3.alloc (.cells #[.slice none 0 0] 70)) from ⟨heap_alloc_new w3 _, World.ownsRow_nil _ _ _ _⟩)
      have G4 := Lib.hid (G3.out.trans ga)
      have B4 := Lib.hid (heap_grown ga B3.out)
      have K4 := Lib.hid ((K3.out.weak (q := fun b => b < w3.heap.size) (fun b hb _ => hb)).grown ga)
      have HP := Lib.hid (show w.heap.size ≤ w3.heap.size from G3.out.size)
      clear ga
      go_upto_region 6 with fail
      generalize w3.alloc _ = w4 at W4 G4 B4 K4 ⊢
      generalize w3.heap.size = p at W4 K4 HP ⊢
      obtain ⟨c0, c1, c2, c3, c4, c5, c6⟩ := seven_cells B4.out
      have HB := Lib.hid (cBetween n HC2.out 0 (by omega) (by omega) p _ [] a m c w4 W4.out (by simp; omega) HRB.out K4.out)
      go_upto_region 7 with (go_at_call 30; (with_reducible refine (HB.out).mono ?_); rintro e w5 ⟨rfl, v5, W5, K5⟩)
      clear c0 c1 c2 c3 c4 c5 c6 HB
      have K5 := Lib.hid K5
      have HPT := Lib.hid (cPut0 p v5 _ 6 0 0 w5 W5 (by simp [cod_len n _ HRB.out]; omega))
      clear W5
      go_upto_region 8 with (go_at_call 31; (with_reducible refine (HPT.out).mono ?_); rintro e w6 ⟨rfl, v6, W6, K6⟩)
      have hprg : [] ++ ((⟨3, 0, 0, emp⟩ : Ins) :: (codN n ([] : List Ins).length.succ ++ [⟨3, 0 + 1, 0, emp⟩])) ++ [⟨6, 0, 0, emp⟩] = prgN n := by unfold prgN; simp
      have W6 : Wr p v6 (prgN n) w6 := by rw [← hprg]; exact W6
      have W6 := Lib.hid W6
      have G6 := Lib.hid ((K5.out.trans K6).grown W4.out G4.out HP.out)
      clear K6 HPT hprg
      obtain ⟨va, vc, rfl⟩ := owns_shape W6.out.O
      have p0 := one_cell W6.out.P
      have HRW := Lib.hid (crow_of_owns W6.out.O)
      go_wp2
      go_ret2
      exact ⟨⟨va, vc, by rw [HO.out.1, HO.out.2]; rfl, by rw [HO.out.2]; exact HRW.out⟩, G6.out⟩
end Go.Proofs.YtlkjejmmoalliaaGreatDoor

namespace Go.Proofs.YtlkjejmmoalliaaGreatDoor
open Go.RowKit

/-- a text's program, empty if it has none -/
def prgT (s : ByteArray) : List Ins := if (parN s).2 = 0 then prgN (toI (parN s).1) else []
/-- what the program's Of reads -/
structure QEnv (A : Nat → Addr) (w : World) : Prop where
  P : PEnv A w
  Q : Sents LP A w
theorem QEnv.grown {A : Nat → Addr} {w w' : World} (h : QEnv A w) (g : w.grownBy w' none) : QEnv A w' := ⟨h.P.grown g, h.Q.grown g⟩
theorem cmp_of {s : ByteArray} (h : (parN s).2 = 0) : cmpE (toI (parN s).1) = 0 ∧ cmpL (toI (parN s).1) = prgT s := by
  obtain ⟨h1, h2⟩ := par_right h
  have h3 : cmpE (toI (parN s).1) = 0 := by unfold cmpE; rw [h1, if_pos rfl, if_neg (by omega)]
  exact ⟨h3, by unfold cmpL prgT; rw [h3, h]⟩

set_option maxRecDepth 100000 in
set_option maxHeartbeats 4000000 in
theorem cProgOf (A : Nat → Addr) (s : ByteArray) (w : World) (hs : s.size ≤ 100) (hE : QEnv A w) :
    Calls Tryz.prog 6 #[.string s] w fun e w' => ProgOut A (prgT s) (parN s).2 e w' ∧ w.grownBy w' none := by
  have HE := Lib.hid hE
  have HO := Lib.hid (fun h => cmp_of (s := s) h)
  have HLN := Lib.hid (show (parN s).2 ≠ 0 → prgT s = [] from fun h => by unfold prgT; rw [if_neg h])
  have HZ := Lib.hid (show szN (toI (parN s).1) ≤ 200 by rw [sz_toI]; exact par_siz s)
  have CP := Lib.hid (cParse A s w hs hE.P)
  clear hE
  generalize prgT s = r at HO HLN ⊢
  obtain ⟨n, hn⟩ : ∃ n, n = (parN s).1 := ⟨_, rfl⟩
  obtain ⟨k, hk⟩ : ∃ k, k = (parN s).2 := ⟨_, rfl⟩
  have CP := Lib.hid (show Calls Tryz.prog 5 #[.string s] w fun e w' => (∃ a m c, e = .returned (.tuple #[ndV n (.slice a m c), errV A k]) ∧ Kids w' (.slice a m c) n.kids) ∧ w.grownBy w' none by rw [hn, hk]; exact CP.out)
  rw [← hn, ← hk] at HO
  rw [← hk] at HLN ⊢
  rw [← hn] at HZ
  clear hn hk
  go_enter Tryz.func6, Tryz.ntmps6
  by_cases hk0 : k = 0
  · subst hk0
    rw [errV_zero] at CP
    obtain ⟨ho1, ho2⟩ := HO.out rfl
    have HC := Lib.hid (fun a m c W h hq => (show Calls Tryz.prog 14 #[ndV n (.slice a m c)] W fun e w' => ProgOut A r 0 e w' ∧ W.grownBy w' none by
      have := cCompile A (toI n) a m c W HZ.out (by rw [toI_kids]; exact kids_toI h) hq
      rw [ho1, ho2] at this
      rw [ndV_toI]; exact this))
    clear HO HLN HZ ho1 ho2
    go_upto_region 2 with (go_at_call 5; (with_reducible refine (CP.out).mono ?_); rintro e wc ⟨⟨a1, m1, c1, rfl, hK⟩, gc⟩)
    have ga := World.grownBy_alloc wc (.cells #[.int .i64 n.kind, .int .i64 n.index, .int .u64 (wd n.set 0), .int .u64 (wd n.set 1), .int .u64 (wd n.set 2), .int .u64 (wd n.set 3), .slice a1 m1 c1] 28) none
    have gg := gc.trans ga
    have G1 := Lib.hid gg
    have B1 := Lib.hid (heap_alloc_new wc (.cells #[.int .i64 n.kind, .int .i64 n.index, .int .u64 (wd n.set 0), .int .u64 (wd n.set 1), .int .u64 (wd n.set 2), .int .u64 (wd n.set 3), .slice a1 m1 c1] 28))
    have CC := Lib.hid (HC.out a1 m1 c1 _ (hK.grown ga) (HE.out.Q.grown gg))
    clear ga gg gc hK HC HE CP
    generalize wc.heap.size = q1 at B1 ⊢
    generalize wc.alloc _ = v1 at G1 B1 CC ⊢
    obtain ⟨c0, c1, c2, c3, c4, c5, c6⟩ := seven_cells B1.out
    go_wp2_with (go_at_call 14; (with_reducible refine (CC.out).mono ?_); rintro e w5 ⟨⟨a5, c5', rfl, h5⟩, g5⟩; have R5 := Lib.hid h5; have G5 := Lib.hid (G1.out.trans g5); clear h5 g5)
    go_ret2
    exact ⟨⟨a5, c5', rfl, R5.out⟩, G5.out⟩
  · have hr := HLN.out hk0
    subst hr
    rw [errV_ne hk0] at CP
    have HV := Lib.hid (errV_ne (A := A) hk0)
    clear HO HLN HZ hk0
    go_upto_region 2 with (go_at_call 5; (with_reducible refine (CP.out).mono ?_); rintro e wc ⟨⟨a1, m1, c1, rfl, hK⟩, gc⟩)
    have G1 := Lib.hid (gc.trans (World.grownBy_alloc wc (.cells #[.int .i64 n.kind, .int .i64 n.index, .int .u64 (wd n.set 0), .int .u64 (wd n.set 1), .int .u64 (wd n.set 2), .int .u64 (wd n.set 3), .slice a1 m1 c1] 28) none))
    clear gc hK CP
    go_wp2
    go_ret2
    exact ⟨⟨none, 0, by rw [HV.out]; rfl, row_nil _⟩, G1.out⟩

end Go.Proofs.YtlkjejmmoalliaaGreatDoor

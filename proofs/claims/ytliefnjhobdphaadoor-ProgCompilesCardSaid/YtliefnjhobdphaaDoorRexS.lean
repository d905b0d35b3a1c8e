/- The reader: branches and expressions. The reader: expressions, by induction. -/
import Derived.Test.YtliefnjhobdphaaDoorRexQ
namespace Go.Proofs.YtliefnjhobdphaaDoor
open Go.RowKit

theorem cMoreBr (r q k : Nat) (s : ByteArray) (i c : Nat) (L : List Nd) (j c2 : Nat) (w : World) (hq : w.cell? ⟨q, 0, none⟩ = some (.pointer (some ⟨r, 0, none⟩))) (h : Rd w r s j c2) (hI : BrI s i c L j c2) :
    Calls Tryd.prog 64 #[.int .i64 k, .pointer (some ⟨q, 0, none⟩)] w (MoreOut r s w (BrM s i c L) (BrD s i c L)) := by
  obtain ⟨c0, c1⟩ := two_cells h.B
  have H := Lib.hid h
  have HI := Lib.hid hI
  have C := Lib.hid (fun w h => seen_bar s j ▸ cSees ⟨#[124, 41]⟩ r s j c2 w h)
  clear h hI
  by_cases hj : j < s.size
  · have hE := rest_ne s hj
    cases hs : (nxt s j 124 || nxt s j 41) with
    | true =>
      have HD := Lib.hid (show BrD s i c L j c2 from ⟨HI.out, fun _ => by simp only [Bool.or_eq_true] at hs; exact hs.symm⟩)
      rw [hs] at C
      clear hs hj
      generalize s.extract j s.size = t at c0 hE
      go_enter Tryd.func64, Tryd.ntmps64
      go_wp2_with (go_at_call 65; refine (C.out _ H.out).mono ?_; rintro e w' ⟨rfl, rfl⟩)
      go_ret
      exact ⟨World.grownBy.refl _ _, .inr ⟨rfl, j, c2, H.out, HD.out⟩⟩
    | false =>
      have HM := Lib.hid (show BrM s i c L j c2 from ⟨HI.out, hj, by simp only [Bool.or_eq_false_iff] at hs; exact hs.2, by simp only [Bool.or_eq_false_iff] at hs; exact hs.1⟩)
      rw [hs] at C
      clear hs hj
      generalize s.extract j s.size = t at c0 hE
      go_enter Tryd.func64, Tryd.ntmps64
      go_wp2_with (go_at_call 65; refine (C.out _ H.out).mono ?_; rintro e w' ⟨rfl, rfl⟩)
      go_ret
      exact ⟨World.grownBy.refl _ _, .inl ⟨rfl, j, c2, H.out, HM.out⟩⟩
  · have hE := rest_no s hj
    have HD := Lib.hid (show BrD s i c L j c2 from ⟨HI.out, fun h => absurd h hj⟩)
    clear hj
    generalize s.extract j s.size = t at c0 hE
    go_enter Tryd.func64, Tryd.ntmps64
    go_wp2
    go_ret
    exact ⟨World.grownBy.refl _ _, .inr ⟨rfl, j, c2, H.out, HD.out⟩⟩

theorem cMoreEx (r q : Nat) (s : ByteArray) (i c : Nat) (L : List Nd) (j c2 : Nat) (w : World) (hq : w.cell? ⟨q, 0, none⟩ = some (.pointer (some ⟨r, 0, none⟩))) (h : Rd w r s j c2) (hI : ExI s i c L j c2) :
    Calls Tryd.prog 52 #[.int .i64 (L.length : Nat), .pointer (some ⟨q, 0, none⟩)] w (MoreOut r s w (ExM s i c L) (ExD s i c L)) := by
  have H := Lib.hid h
  have HI := Lib.hid hI
  clear h hI
  cases L with
  | nil =>
    have HM := Lib.hid (ex_first HI.out)
    go_enter Tryd.func52, Tryd.ntmps52
    go_wp2
    go_ret
    exact ⟨World.grownBy.refl _ _, .inl ⟨rfl, j, c2, H.out, HM.out⟩⟩
  | cons n L =>
    have hk : (((n :: L).length : Int) == 0) = false := by simp; omega
    cases hn : nxt s j 124 with
    | true =>
      have H9 := Lib.hid hn
      have HM := Lib.hid (ex_bar HI.out (by simp) hn)
      clear hn
      generalize (n :: L).length = k at hk
      go_enter Tryd.func52, Tryd.ntmps52
      go_wp2_with (go_at_call 53; refine (cTake1 124 _ _ _ _ _ H.out H9.out).mono ?_; rintro e w8 ⟨rfl, r8, g8⟩; have R8 := Lib.hid r8; have G8 := Lib.hid g8; clear r8 g8)
      go_ret
      exact ⟨G8.out, .inl ⟨rfl, j + 1, c2, R8.out, HM.out⟩⟩
    | false =>
      have H9 := Lib.hid hn
      have HD := Lib.hid (ex_stop HI.out (by simp) hn)
      clear hn
      generalize (n :: L).length = k at hk
      go_enter Tryd.func52, Tryd.ntmps52
      go_wp2_with (go_at_call 53; refine (cTake0 124 _ _ _ _ _ H.out H9.out).mono ?_; rintro e w8 ⟨rfl, rfl⟩)
      go_ret
      exact ⟨World.grownBy.refl _ _, .inr ⟨rfl, j, c2, H.out, HD.out⟩⟩

set_option maxRecDepth 100000 in
set_option maxHeartbeats 2000000 in
theorem cBranch (r : Nat) (s : ByteArray) (i c : Nat) (w : World) (h : Rd w r s i c) (hE : RepEnv w) (hr : r ≠ 18)
    (hx : ∀ j c w, i < j → RepEnv w → Rd w r s j c → Calls Tryd.prog 38 #[.pointer (some ⟨r, 0, none⟩)] w (NdOut r s w (ExP s j c))) :
    Calls Tryd.prog 51 #[.pointer (some ⟨r, 0, none⟩)] w (NdOut r s w (BrP s i c)) := by
  have hlt := h.lt
  have hmf : ∀ (fn : Fn) (first cap : Array Value) (w : World), (Instr.makeFunc fn first cap).run Tryd.prog w = .ok (.func fn first cap) w := fun _ _ _ _ => rfl
  have e1 : ∀ args w, (callFunc 64 args).run Tryd.prog w = .ok (.enter 64 args) w := enters_of Tryd.func64 (by kernel_rfl) rfl
  have e2 : ∀ args w, (callFunc 63 args).run Tryd.prog w = .ok (.enter 63 args) w := enters_of Tryd.func63 (by kernel_rfl) rfl
  have EN1 := Lib.hid e1; have EN2 := Lib.hid e2
  clear e1 e2
  obtain ⟨b1, b2, gg⟩ := heap2 w (.cells #[.pointer (some ⟨r, 0, none⟩)] 95) (.cells #[.int .i64 0, .int .i64 0, .int .u64 0, .int .u64 0, .int .u64 0, .int .u64 0, .slice none 0 0] 44)
  have HX := Lib.hid hx; have HRR := Lib.hid hr
  have H := Lib.hid h; have HE := Lib.hid hE
  clear h hE hx hr
  go_enter Tryd.func51, Tryd.ntmps51
  go_upto_region 1 with fail
  generalize (w.alloc _).alloc _ = w1 at b1 b2 gg ⊢
  obtain ⟨q, eq⟩ : ∃ q, q = w.heap.size := ⟨_, rfl⟩
  obtain ⟨g, eg⟩ : ∃ g, g = w.heap.size + 1 := ⟨_, rfl⟩
  rw [← eg] at b2 ⊢
  rw [← eq] at b1 ⊢
  have HG := Lib.hid (show w.heap.size ≤ g ∧ g ≠ r ∧ q ≠ r by omega)
  have B1 := Lib.hid b1; have B2 := Lib.hid b2; have GG := Lib.hid gg
  have R1 := Lib.hid (H.out.kept gg); have E1 := Lib.hid (HE.out.kept gg (by simp))
  have HW := Lib.hid gg.size
  have HGL := Lib.hid (Array.getElem?_eq_some_iff.1 b2).1
  have c0 : w1.cell? ⟨q, 0, none⟩ = some (.pointer (some ⟨r, 0, none⟩)) := cell_of_one b1
  clear eq eg b1 b2 gg hlt
  have CROW := Lib.hid (cRow 2 63 64 #[.pointer (some ⟨r, 0, none⟩)] #[] #[] #[.pointer (some ⟨q, 0, none⟩)] #[.pointer (some ⟨r, 0, none⟩)] (fun k => #[.int .i64 k, .pointer (some ⟨q, 0, none⟩)]) r s i c w1 (by simp) (fun k => by simp) EN2.out EN1.out (BrP s i c none) (BrI s i c) (BrM s i c) (BrD s i c) R1.out E1.out HRR.out (br_start s i c) (fun L j c h => by have := h.1; omega)
    (fun L j c2 wr hI hR _ hg => cMoreBr r q L.length s i c L j c2 wr (hg.cell (cell_of_one B1.out) (by simp only [ne_eq, Option.some.injEq]; exact HG.out.2.2)) hR hI)
    (fun L j c2 wr hM hR hE _ => (cItem r s j c2 wr hR hM.2.1 hM.2.2.1 hM.2.2.2 hE HRR.out (fun w hE h => HX.out (j + 1) (c2 + 1) w (by have := hM.1.1; omega) hE h)).mono fun e w' ho => ho.mono fun o hp => by
      cases o with
      | none => exact br_bad hM hp
      | some x => obtain ⟨n, j', c'⟩ := x; exact br_on hM hp))
  go_wp2_with fail
  refine CROW.out.mono ?_
  rintro e w3 ho
  have ho := ho.mono (Q := BrP s i c) fun o hp => by
    cases o with
    | none => exact hp
    | some x => obtain ⟨n, j', c'⟩ := x; obtain ⟨L, rfl, hd⟩ := hp; exact br_end hd
  obtain ⟨g3, ⟨n, a, m, k, rfl, hp⟩ | ⟨n, a, m, k, j, c2, rfl, hk, r3, hp⟩⟩ := ho
  · have B5 := Lib.hid (heap_row g3 HG.out.2.1 B2.out)
    have G5 := Lib.hid (grown_into GG.out g3)
    have HP := Lib.hid hp
    clear g3 hp CROW c0
    obtain ⟨r0, r1, r2, r3, r4, r5, r6⟩ := seven_cells B5.out
    have fr := four_free B5.out
    go_wp2
    refine bodyPost_ret (v := .tuple #[ndV n (.slice a m k), .bool false]) (back_nd2 44 Tryd.underlying44 sizeNd28 Tryd.results51 rfl rfl (set_seven B5.out _ _ _ _ _ _ _)) rfl ?_
    exact ⟨grown_seven G5.out _ _ _ _ _ _ _ HG.out.1, .inl ⟨n, a, m, k, rfl, HP.out⟩⟩
  · have B5 := Lib.hid (heap_row g3 HG.out.2.1 B2.out)
    have G5 := Lib.hid (grown_into GG.out g3)
    have HP := Lib.hid hp
    have R5 := Lib.hid r3
    have K5 := Lib.hid (hk.weak (q := fun b => w.heap.size ≤ b ∧ b ≠ g) fun b _ hb => by
      have := HW.out; have := HGL.out; omega)
    clear g3 hp r3 hk CROW c0
    obtain ⟨r0, r1, r2, r3, r4, r5, r6⟩ := seven_cells B5.out
    have fr := four_free B5.out
    go_wp2
    refine bodyPost_ret (v := .tuple #[ndV n (.slice a m k), .bool true]) (back_nd2 44 Tryd.underlying44 sizeNd28 Tryd.results51 rfl rfl (set_seven B5.out _ _ _ _ _ _ _)) rfl ?_
    exact ⟨grown_seven G5.out _ _ _ _ _ _ _ HG.out.1, .inr ⟨n, a, m, k, j, c2, rfl, (K5.out.seven _ _ _ _ _ _ _ fun b hb => hb.2).weak fun b _ hb => hb.1, R5.out.seven _ _ _ _ _ _ _ (Ne.symm HG.out.2.1), HP.out⟩⟩
end Go.Proofs.YtliefnjhobdphaaDoor

namespace Go.Proofs.YtliefnjhobdphaaDoor
open Go.RowKit

set_option maxRecDepth 100000 in
set_option maxHeartbeats 2000000 in
theorem cExprOne (r : Nat) (s : ByteArray) (i c : Nat) (w : World) (h : Rd w r s i c) (hE : RepEnv w) (hr : r ≠ 18)
    (hx : ∀ j c w, i < j → RepEnv w → Rd w r s j c → Calls Tryd.prog 38 #[.pointer (some ⟨r, 0, none⟩)] w (NdOut r s w (ExP s j c))) :
    Calls Tryd.prog 38 #[.pointer (some ⟨r, 0, none⟩)] w (NdOut r s w (ExP s i c)) := by
  have hlt := h.lt
  have hmf : ∀ (fn : Fn) (first cap : Array Value) (w : World), (Instr.makeFunc fn first cap).run Tryd.prog w = .ok (.func fn first cap) w := fun _ _ _ _ => rfl
  have e1 : ∀ args w, (callFunc 52 args).run Tryd.prog w = .ok (.enter 52 args) w := enters_of Tryd.func52 (by kernel_rfl) rfl
  have e2 : ∀ args w, (callFunc 51 args).run Tryd.prog w = .ok (.enter 51 args) w := enters_of Tryd.func51 (by kernel_rfl) rfl
  have EN1 := Lib.hid e1; have EN2 := Lib.hid e2
  clear e1 e2
  obtain ⟨b1, b2, gg⟩ := heap2 w (.cells #[.pointer (some ⟨r, 0, none⟩)] 95) (.cells #[.int .i64 0, .int .i64 0, .int .u64 0, .int .u64 0, .int .u64 0, .int .u64 0, .slice none 0 0] 44)
  have HX := Lib.hid hx; have HRR := Lib.hid hr
  have H := Lib.hid h; have HE := Lib.hid hE
  clear h hE hx hr
  go_enter Tryd.func38, Tryd.ntmps38
  go_upto_region 1 with fail
  generalize (w.alloc _).alloc _ = w1 at b1 b2 gg ⊢
  obtain ⟨q, eq⟩ : ∃ q, q = w.heap.size := ⟨_, rfl⟩
  obtain ⟨g, eg⟩ : ∃ g, g = w.heap.size + 1 := ⟨_, rfl⟩
  rw [← eg] at b2 ⊢
  rw [← eq] at b1 ⊢
  have HG := Lib.hid (show w.heap.size ≤ g ∧ g ≠ r ∧ q ≠ r by omega)
  have B1 := Lib.hid b1; have B2 := Lib.hid b2; have GG := Lib.hid gg
  have R1 := Lib.hid (H.out.kept gg); have E1 := Lib.hid (HE.out.kept gg (by simp))
  have HW := Lib.hid gg.size
  have HGL := Lib.hid (Array.getElem?_eq_some_iff.1 b2).1
  have c0 : w1.cell? ⟨q, 0, none⟩ = some (.pointer (some ⟨r, 0, none⟩)) := cell_of_one b1
  clear eq eg b1 b2 gg hlt
  have CROW := Lib.hid (cRow 3 51 52 #[.pointer (some ⟨r, 0, none⟩)] #[] #[] #[.pointer (some ⟨q, 0, none⟩)] #[.pointer (some ⟨r, 0, none⟩)] (fun k => #[.int .i64 k, .pointer (some ⟨q, 0, none⟩)]) r s i c w1 (by simp) (fun k => by simp) EN2.out EN1.out (ExP s i c none) (ExI s i c) (ExM s i c) (ExD s i c) R1.out E1.out HRR.out (ex_start s i c) (fun L j c h => by rcases h with ⟨rfl, -⟩ | ⟨al, l, rfl, h, -⟩ <;> simp <;> omega)
    (fun L j c2 wr hI hR _ hg => cMoreEx r q s i c L j c2 wr (hg.cell (cell_of_one B1.out) (by simp only [ne_eq, Option.some.injEq]; exact HG.out.2.2)) hR hI)
    (fun L j c2 wr hM hR hE _ => (cBranch r s j c2 wr hR hE HRR.out (fun j' c' w hj hE h => HX.out j' c' w (by have := hM.1; omega) hE h)).mono fun e w' ho => ho.mono fun o hp => by
      cases o with
      | none => exact ex_bad hM hp
      | some x => obtain ⟨n, j', c'⟩ := x; exact ex_on hM hp))
  go_wp2_with fail
  refine CROW.out.mono ?_
  rintro e w3 ho
  have ho := ho.mono (Q := ExP s i c) fun o hp => by
    cases o with
    | none => exact hp
    | some x => obtain ⟨n, j', c'⟩ := x; obtain ⟨L, rfl, hd⟩ := hp; exact ex_end hd
  obtain ⟨g3, ⟨n, a, m, k, rfl, hp⟩ | ⟨n, a, m, k, j, c2, rfl, hk, r3, hp⟩⟩ := ho
  · have B5 := Lib.hid (heap_row g3 HG.out.2.1 B2.out)
    have G5 := Lib.hid (grown_into GG.out g3)
    have HP := Lib.hid hp
    clear g3 hp CROW c0
    obtain ⟨r0, r1, r2, r3, r4, r5, r6⟩ := seven_cells B5.out
    have fr := four_free B5.out
    go_wp2
    refine bodyPost_ret (v := .tuple #[ndV n (.slice a m k), .bool false]) (back_nd2 44 Tryd.underlying44 sizeNd28 Tryd.results38 rfl rfl (set_seven B5.out _ _ _ _ _ _ _)) rfl ?_
    exact ⟨grown_seven G5.out _ _ _ _ _ _ _ HG.out.1, .inl ⟨n, a, m, k, rfl, HP.out⟩⟩
  · have B5 := Lib.hid (heap_row g3 HG.out.2.1 B2.out)
    have G5 := Lib.hid (grown_into GG.out g3)
    have HP := Lib.hid hp
    have R5 := Lib.hid r3
    have K5 := Lib.hid (hk.weak (q := fun b => w.heap.size ≤ b ∧ b ≠ g) fun b _ hb => by
      have := HW.out; have := HGL.out; omega)
    clear g3 hp r3 hk CROW c0
    obtain ⟨r0, r1, r2, r3, r4, r5, r6⟩ := seven_cells B5.out
    have fr := four_free B5.out
    go_wp2
    refine bodyPost_ret (v := .tuple #[ndV n (.slice a m k), .bool true]) (back_nd2 44 Tryd.underlying44 sizeNd28 Tryd.results38 rfl rfl (set_seven B5.out _ _ _ _ _ _ _)) rfl ?_
    exact ⟨grown_seven G5.out _ _ _ _ _ _ _ HG.out.1, .inr ⟨n, a, m, k, j, c2, rfl, (K5.out.seven _ _ _ _ _ _ _ fun b hb => hb.2).weak fun b _ hb => hb.1, R5.out.seven _ _ _ _ _ _ _ (Ne.symm HG.out.2.1), HP.out⟩⟩

/-- an expression, wherever it begins -/
theorem cExprP (r : Nat) (s : ByteArray) (hr : r ≠ 18) : ∀ (m i c : Nat) (w : World), s.size - i < m → RepEnv w → Rd w r s i c →
    Calls Tryd.prog 38 #[.pointer (some ⟨r, 0, none⟩)] w (NdOut r s w (ExP s i c)) := by
  intro m
  induction m with
  | zero => intro i c w h _ _; omega
  | succ m ih =>
    intro i c w h hE hR
    exact cExprOne r s i c w hR hE hr fun j c' w' hj hE' hR' => ih j c' w' (by have := hR'.hi; omega) hE' hR'
end Go.Proofs.YtliefnjhobdphaaDoor

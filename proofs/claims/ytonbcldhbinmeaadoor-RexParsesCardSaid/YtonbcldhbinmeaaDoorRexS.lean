/- The reader: expressions, by induction. -/
import Derived.Test.YtonbcldhbinmeaaDoorRexR
namespace Go.Proofs.YtonbcldhbinmeaaDoor
open Go.RowKit

set_option maxRecDepth 100000 in
set_option maxHeartbeats 2000000 in
theorem cExprOne (r : Nat) (s : ByteArray) (i c : Nat) (w : World) (h : Rd w r s i c) (hE : RepEnv w) (hr : r ≠ 19)
    (hx : ∀ j c w, i < j → RepEnv w → Rd w r s j c → Calls Tryd.prog 20 #[.pointer (some ⟨r, 0, none⟩)] w (NdOut r s w (ExP s j c))) :
    Calls Tryd.prog 20 #[.pointer (some ⟨r, 0, none⟩)] w (NdOut r s w (ExP s i c)) := by
  have hlt := h.lt
  have hmf : ∀ (fn : Fn) (first cap : Array Value) (w : World), (Instr.makeFunc fn first cap).run Tryd.prog w = .ok (.func fn first cap) w := fun _ _ _ _ => rfl
  have e1 : ∀ args w, (callFunc 35 args).run Tryd.prog w = .ok (.enter 35 args) w := enters_of Tryd.func35 (by kernel_rfl) rfl
  have e2 : ∀ args w, (callFunc 34 args).run Tryd.prog w = .ok (.enter 34 args) w := enters_of Tryd.func34 (by kernel_rfl) rfl
  have EN1 := Lib.hid e1; have EN2 := Lib.hid e2
  clear e1 e2
  obtain ⟨b1, b2, gg⟩ := heap2 w (.cells #[.pointer (some ⟨r, 0, none⟩)] 72) (.cells #[.int .i64 0, .int .i64 0, .int .u64 0, .int .u64 0, .int .u64 0, .int .u64 0, .slice none 0 0] 28)
  have HX := Lib.hid hx; have HRR := Lib.hid hr
  have H := Lib.hid h; have HE := Lib.hid hE
  clear h hE hx hr
  go_enter Tryd.func20, Tryd.ntmps20
  go_upto_region 1 with fail
  generalize (w.alloc _).alloc _ = w1 at b1 b2 gg ⊢
  obtain ⟨q, eq⟩ : ∃ q, q = w.heap.size := ⟨_, rfl⟩
  obtain ⟨g, eg⟩ : ∃ g, g = w.heap.size + 1 := ⟨_, rfl⟩
  rw [← eg] at b2 ⊢
  rw [← eq] at b1 ⊢
  have HG := Lib.hid (show w.heap.size ≤ g ∧ g ≠ r ∧ q ≠ r by omega)
  have B1 := Lib.hid b1; have B2 := Lib.hid b2; have GG := Lib.hid gg
  have R1 := Lib.hid (H.out.kept gg); have E1 := Lib.hid (HE.out.kept gg (by simp))
  have HW := Lib.hid gg.size
  have HGL := Lib.hid (Array.getElem?_eq_some_iff.1 b2).1
  have c0 : w1.cell? ⟨q, 0, none⟩ = some (.pointer (some ⟨r, 0, none⟩)) := cell_of_one b1
  clear eq eg b1 b2 gg hlt
  have CROW := Lib.hid (cRow 3 34 35 #[.pointer (some ⟨r, 0, none⟩)] #[] #[] #[.pointer (some ⟨q, 0, none⟩)] #[.pointer (some ⟨r, 0, none⟩)] (fun k => #[.int .i64 k, .pointer (some ⟨q, 0, none⟩)]) r s i c w1 (by simp) (fun k => by simp) EN2.out EN1.out (ExP s i c none) (ExI s i c) (ExM s i c) (ExD s i c) R1.out E1.out HRR.out (ex_start s i c) (fun L j c h => by rcases h with ⟨rfl, -⟩ | ⟨al, l, rfl, h, -⟩ <;> simp <;> omega)
    (fun L j c2 wr hI hR _ hg => cMoreEx r q s i c L j c2 wr (hg.cell (cell_of_one B1.out) (by simp only [ne_eq, Option.some.injEq]; exact HG.out.2.2)) hR hI)
    (fun L j c2 wr hM hR hE _ => (cBranch r s j c2 wr hR hE HRR.out (fun j' c' w hj hE h => HX.out j' c' w (by have := hM.1; omega) hE h)).mono fun e w' ho => ho.mono fun o hp => by
      cases o with
      | none => exact ex_bad hM hp
      | some x => obtain ⟨n, j', c'⟩ := x; exact ex_on hM hp))
  go_wp2_with fail
  refine CROW.out.mono ?_
  rintro e w3 ho
  have ho := ho.mono (Q := ExP s i c) fun o hp => by
    cases o with
    | none => exact hp
    | some x => obtain ⟨n, j', c'⟩ := x; obtain ⟨L, rfl, hd⟩ := hp; exact ex_end hd
  obtain ⟨g3, ⟨n, a, m, k, rfl, hp⟩ | ⟨n, a, m, k, j, c2, rfl, hk, r3, hp⟩⟩ := ho
  · have B5 := Lib.hid (heap_row g3 HG.out.2.1 B2.out)
    have G5 := Lib.hid (grown_into GG.out g3)
    have HP := Lib.hid hp
    clear g3 hp CROW c0
    obtain ⟨r0, r1, r2, r3, r4, r5, r6⟩ := seven_cells B5.out
    have fr := four_free B5.out
    go_wp2
    refine bodyPost_ret (v := .tuple #[ndV n (.slice a m k), .bool false]) (back_nd2 28 Tryd.underlying28 sizeNd28 Tryd.results20 rfl rfl (set_seven B5.out _ _ _ _ _ _ _)) rfl ?_
    exact ⟨grown_seven G5.out _ _ _ _ _ _ _ HG.out.1, .inl ⟨n, a, m, k, rfl, HP.out⟩⟩
  · have B5 := Lib.hid (heap_row g3 HG.out.2.1 B2.out)
    have G5 := Lib.hid (grown_into GG.out g3)
    have HP := Lib.hid hp
    have R5 := Lib.hid r3
    have K5 := Lib.hid (hk.weak (q := fun b => w.heap.size ≤ b ∧ b ≠ g) fun b _ hb => by
      have := HW.out; have := HGL.out; omega)
    clear g3 hp r3 hk CROW c0
    obtain ⟨r0, r1, r2, r3, r4, r5, r6⟩ := seven_cells B5.out
    have fr := four_free B5.out
    go_wp2
    refine bodyPost_ret (v := .tuple #[ndV n (.slice a m k), .bool true]) (back_nd2 28 Tryd.underlying28 sizeNd28 Tryd.results20 rfl rfl (set_seven B5.out _ _ _ _ _ _ _)) rfl ?_
    exact ⟨grown_seven G5.out _ _ _ _ _ _ _ HG.out.1, .inr ⟨n, a, m, k, j, c2, rfl, (K5.out.seven _ _ _ _ _ _ _ fun b hb => hb.2).weak fun b _ hb => hb.1, R5.out.seven _ _ _ _ _ _ _ (Ne.symm HG.out.2.1), HP.out⟩⟩

/-- an expression, wherever it begins -/
theorem cExprP (r : Nat) (s : ByteArray) (hr : r ≠ 19) : ∀ (m i c : Nat) (w : World), s.size - i < m → RepEnv w → Rd w r s i c →
    Calls Tryd.prog 20 #[.pointer (some ⟨r, 0, none⟩)] w (NdOut r s w (ExP s i c)) := by
  intro m
  induction m with
  | zero => intro i c w h _ _; omega
  | succ m ih =>
    intro i c w h hE hR
    exact cExprOne r s i c w hR hE hr fun j c' w' hj hE' hR' => ih j c' w' (by have := hR'.hi; omega) hE' hR'
end Go.Proofs.YtonbcldhbinmeaaDoor

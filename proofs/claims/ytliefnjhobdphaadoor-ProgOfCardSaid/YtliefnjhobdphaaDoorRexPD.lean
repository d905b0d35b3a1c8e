/- The document's expressions and branches together; its Parse. -/
import Derived.Test.YtliefnjhobdphaaDoorRexBD
import Derived.Test.YtliefnjhobdphaaDoorRexV
namespace Go.Proofs.YtliefnjhobdphaaDoor
open Go.RowKit

theorem cExprB : ∀ (N : Nat) (v : Value) (l : List Sg) (c : Nat) (w : World), l.length < N → SgR w v l → l.length ≤ 60 → c + opnC l ≤ 200 →
    Calls Tryd.prog 22 #[v, .int .i64 c] w (DocOut w (resE l c)) := by
  intro N
  induction N with
  | zero => intro v l c w h; omega
  | succ N ih =>
    intro v l c w hN h hl hc
    exact cExprD v l c w h hl hc fun v m c w hm hml hmc => cBranchD v m c w hm (by omega) hmc fun v m' c w hm' hlt hc' => ih v m' c w (by omega) hm' (by omega) hc'

/-- what the document's Parse answers -/
def DocPar (s : ByteArray) (e : Ending) (w' : World) : Prop :=
  ∃ a m k, e = .returned (.tuple #[ndV (parN s).1 (.slice a m k), .int .i64 (parN s).2]) ∧ Kids w' (.slice a m k) (parN s).1.kids

set_option maxRecDepth 100000 in
set_option maxHeartbeats 4000000 in
theorem cParseD (s : ByteArray) (w : World) (hs : s.size ≤ 100) :
    Calls Tryd.prog 8 #[.string s] w fun e w' => DocPar s e w' ∧ w.grownBy w' none := by
  have B3 := heap_alloc_new w (.cells #[.int .i64 0, .int .i64 0, .int .u64 0, .int .u64 0, .int .u64 0, .int .u64 0, .slice none 0 0] 32)
  have ga := World.grownBy_alloc w (.cells #[.int .i64 0, .int .i64 0, .int .u64 0, .int .u64 0, .int .u64 0, .int .u64 0, .slice none 0 0] 32) none
  have G := Lib.hid ga
  have HS := Lib.hid hs
  clear ga
  go_enter Tryd.func8, Tryd.ntmps8
  go_upto_region 1 with fail
  generalize w.alloc _ = w1 at B3 G ⊢
  obtain ⟨g, eg⟩ : ∃ g, g = w.heap.size := ⟨_, rfl⟩
  rw [← eg] at B3 ⊢
  have HR := Lib.hid (show w.heap.size ≤ g by omega)
  clear eg
  have HB := Lib.hid B3
  clear B3
  by_cases h60 : s.size > 60
  · have HP := Lib.hid (show parN s = (ndE, 2) by unfold parN; rw [if_pos h60])
    have h60' : decide ((s.size : Int) > 60) = true := by simp; omega
    obtain ⟨r0, r1, r2, r3, r4, r5, r6⟩ := seven_cells HB.out
    have fr := four_free HB.out
    go_wp2
    refine bodyPost_ret (v := .tuple #[ndV ndE (.slice none 0 0), .int .i64 2]) (back_nd2 32 Tryd.underlying32 sizeNd Tryd.results8 rfl rfl (zero_seven HB.out)) rfl ?_
    exact ⟨⟨none, 0, 0, (by rw [HP.out] <;> rfl), (by rw [HP.out]; exact .empty none 0)⟩, grown7 G.out HR.out⟩
  · have h60' : decide ((s.size : Int) > 60) = false := by simp; omega
    have H60 := Lib.hid h60
    cases hsg : sgn s 0 with
    | none =>
      have HP := Lib.hid (show parN s = (ndE, 6) from par_none h60 (by rw [fin_start, hsg]; rfl))
      have CS := Lib.hid (show Calls Tryd.prog 21 #[.string s] w1 fun e w' => e = .returned (.tuple #[.slice none 0 0, .bool false]) ∧ w1.grownBy w' none by have := cSigns s hs w1; rw [hsg] at this; exact this)
      clear hsg h60
      go_upto_region 4 with (go_at_call 21; (with_reducible refine CS.out.mono ?_); rintro e w3 ⟨rfl, g3⟩)
      have N1 := Lib.hid (heap_grown g3 HB.out)
      have G1 := Lib.hid (G.out.trans g3)
      clear g3 CS HB G
      obtain ⟨r0, r1, r2, r3, r4, r5, r6⟩ := seven_cells N1.out
      have fr := four_free N1.out
      go_wp2
      refine bodyPost_ret (v := .tuple #[ndV ndE (.slice none 0 0), .int .i64 6]) (back_nd2 32 Tryd.underlying32 sizeNd Tryd.results8 rfl rfl (zero_seven N1.out)) rfl ?_
      exact ⟨⟨none, 0, 0, (by rw [HP.out] <;> rfl), (by rw [HP.out]; exact .empty none 0)⟩, grown7 G1.out HR.out⟩
    | some l =>
      have CS := Lib.hid (show Calls Tryd.prog 21 #[.string s] w1 fun e w' => (∃ v, e = .returned (.tuple #[v, .bool true]) ∧ SgR w' v l) ∧ w1.grownBy w' none by have := cSigns s hs w1; rw [hsg] at this; exact this)
      have HLN := Lib.hid (show l.length ≤ 60 by have := sgn_len s _ 0 l (Nat.le_refl _) hsg; omega)
      have hfin : fin s 0 ⟨[], [], [], 0⟩ = resE l 0 := by rw [fin_start, hsg]; rfl
      clear hsg h60
      go_upto_region 4 with (go_at_call 21; (with_reducible refine CS.out.mono ?_); rintro e w3 ⟨⟨v, rfl, hv⟩, g3⟩)
      have N3 := Lib.hid (heap_grown g3 HB.out)
      have G3 := Lib.hid (G.out.trans g3)
      have SR := Lib.hid hv
      obtain ⟨⟨sa, sc, rfl, -, -⟩, -⟩ := hv
      clear g3 CS HB G
      have hop := opn_le l
      have CE := Lib.hid (show Calls Tryd.prog 22 #[.slice sa l.length sc, .int .i64 0] w3 (DocOut w3 (resE l 0)) from cExprB (l.length + 1) _ l 0 w3 (by omega) SR.out HLN.out (by have := HLN.out; omega))
      cases hres : resE l 0 with
      | none =>
        have HP := Lib.hid (show parN s = (ndE, 6) from par_none H60.out (by rw [hfin, hres]))
        rw [hres] at CE
        clear hres hfin hop
        go_upto_region 7 with (go_at_call 22; (with_reducible refine CE.out.mono ?_); rintro e w4 ⟨g4, rfl⟩)
        have GW := Lib.hid (g4.trans (World.grownBy_alloc w4 (.cells #[.int .i64 ndE.kind, .int .i64 ndE.index, .int .u64 (wd ndE.set 0), .int .u64 (wd ndE.set 1), .int .u64 (wd ndE.set 2), .int .u64 (wd ndE.set 3), (.slice none 0 0)] 32) none))
        clear g4 CE
        generalize w4.heap.size = z
        generalize w4.alloc _ = w5 at GW ⊢
        have N1 := Lib.hid (heap_grown GW.out N3.out)
        have G1 := Lib.hid (G3.out.trans GW.out)
        clear GW
        obtain ⟨r0, r1, r2, r3, r4, r5, r6⟩ := seven_cells N1.out
        have fr := four_free N1.out
        go_wp2
        refine bodyPost_ret (v := .tuple #[ndV ndE (.slice none 0 0), .int .i64 6]) (back_nd2 32 Tryd.underlying32 sizeNd Tryd.results8 rfl rfl (zero_seven N1.out)) rfl ?_
        exact ⟨⟨none, 0, 0, (by rw [HP.out] <;> rfl), (by rw [HP.out]; exact .empty none 0)⟩, grown7 G1.out HR.out⟩
      | some n =>
        have hgr := res_grp hres
        rw [hres] at CE
        go_upto_region 7 with (go_at_call 22; (with_reducible refine CE.out.mono ?_); rintro e w4 ⟨g4, na, nm, nk, rfl, hk⟩)
        have ga := World.grownBy_alloc w4 (.cells #[.int .i64 n.kind, .int .i64 n.index, .int .u64 (wd n.set 0), .int .u64 (wd n.set 1), .int .u64 (wd n.set 2), .int .u64 (wd n.set 3), (.slice na nm nk)] 32) none
        have GW := Lib.hid (g4.trans ga)
        have XB := Lib.hid (heap_alloc_new w4 (.cells #[.int .i64 n.kind, .int .i64 n.index, .int .u64 (wd n.set 0), .int .u64 (wd n.set 1), .int .u64 (wd n.set 2), .int .u64 (wd n.set 3), (.slice na nm nk)] 32))
        have XK := Lib.hid ((hk.weak (q := fun b => b ≠ g) fun b _ hb => by have := (Array.getElem?_eq_some_iff.1 N3.out).1; omega).grown ga)
        clear g4 CE ga hk
        generalize w4.heap.size = z at XB ⊢
        generalize w4.alloc _ = w5 at GW XB XK ⊢
        have N1 := Lib.hid (heap_grown GW.out N3.out)
        have G1 := Lib.hid (G3.out.trans GW.out)
        have CO := Lib.hid (cOpened _ l w5 (SR.out.grown GW.out).1)
        clear GW N3 G3 SR
        by_cases h9 : opnC l > 9
        · have HP := Lib.hid (show parN s = (ndE, 10) from par_full H60.out (by rw [hfin, hres]) (by rw [hgr]; exact h9))
          have h9' : decide ((opnC l : Int) > 9) = true := by simp; omega
          clear hres hfin hgr
          go_upto_region 10 with (go_at_call 23; (with_reducible refine CO.out.mono ?_); rintro e w6 ⟨rfl, g6⟩)
          have N2 := Lib.hid (heap_grown g6 N1.out)
          have G2 := Lib.hid (G1.out.trans g6)
          clear g6 CO N1 G1 XB XK
          obtain ⟨r0, r1, r2, r3, r4, r5, r6⟩ := seven_cells N2.out
          have fr := four_free N2.out
          go_wp2
          refine bodyPost_ret (v := .tuple #[ndV ndE (.slice none 0 0), .int .i64 10]) (back_nd2 32 Tryd.underlying32 sizeNd Tryd.results8 rfl rfl (zero_seven N2.out)) rfl ?_
          exact ⟨⟨none, 0, 0, (by rw [HP.out] <;> rfl), (by rw [HP.out]; exact .empty none 0)⟩, grown7 G2.out HR.out⟩
        · have HP := Lib.hid (show parN s = (n, 0) from par_ok H60.out (by rw [hfin, hres]) (by rw [hgr]; exact h9))
          have h9' : decide ((opnC l : Int) > 9) = false := by simp; omega
          clear hres hfin hgr
          go_upto_region 11 with (go_at_call 23; (with_reducible refine CO.out.mono ?_); rintro e w6 ⟨rfl, g6⟩)
          have N2 := Lib.hid (heap_grown g6 N1.out)
          have X2 := Lib.hid (heap_grown g6 XB.out)
          have K2 := Lib.hid (XK.out.grown g6)
          have G2 := Lib.hid (G1.out.trans g6)
          clear g6 CO N1 G1 XB XK
          obtain ⟨r0, r1, r2, r3, r4, r5, r6⟩ := seven_cells N2.out
          obtain ⟨x0, x1, x2, x3, x4, x5, x6⟩ := seven_cells X2.out
          have fr := four_free N2.out
          go_wp2
          refine bodyPost_ret (v := .tuple #[ndV n (.slice na nm nk), .int .i64 0]) (back_nd2 32 Tryd.underlying32 sizeNd Tryd.results8 rfl rfl (set_seven N2.out _ _ _ _ _ _ _)) rfl ?_
          exact ⟨⟨na, nm, nk, (by rw [HP.out] <;> rfl), (by rw [HP.out]; exact (K2.out.seven _ _ _ _ _ _ _ fun b hb => hb).any)⟩, grown7 G2.out HR.out⟩
end Go.Proofs.YtliefnjhobdphaaDoor

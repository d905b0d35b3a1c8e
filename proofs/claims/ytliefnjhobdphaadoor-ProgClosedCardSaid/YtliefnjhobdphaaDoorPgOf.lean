/- Of: a text's program; the chapter's example. -/
import Derived.Test.YtliefnjhobdphaaDoorPgComp
namespace Go.Proofs.YtliefnjhobdphaaDoor
open Go.RowKit

/-- a text's program, empty if it has none -/
def prgT (s : ByteArray) : List Ins := if (parN s).2 = 0 then prgN (toI (parN s).1) else []
/-- what the program's Of reads -/
structure QEnv (A : Nat → Addr) (w : World) : Prop where
  P : PEnv A w
  Q : Sents LP A w
theorem QEnv.grown {A : Nat → Addr} {w w' : World} (h : QEnv A w) (g : w.grownBy w' none) : QEnv A w' := ⟨h.P.grown g, h.Q.grown g⟩
theorem cmp_of {s : ByteArray} (h : (parN s).2 = 0) : cmpE (toI (parN s).1) = 0 ∧ cmpL (toI (parN s).1) = prgT s := by
  obtain ⟨h1, h2⟩ := par_right h
  have h3 : cmpE (toI (parN s).1) = 0 := by unfold cmpE; rw [h1, if_pos rfl, if_neg (by omega)]
  exact ⟨h3, by unfold cmpL prgT; rw [h3, h]⟩

set_option maxRecDepth 100000 in
set_option maxHeartbeats 4000000 in
theorem cProgOf (A : Nat → Addr) (s : ByteArray) (w : World) (hs : s.size ≤ 100) (hE : QEnv A w) :
    Calls Tryd.prog 7 #[.string s] w fun e w' => ProgOut A (prgT s) (parN s).2 e w' ∧ w.grownBy w' none := by
  have HE := Lib.hid hE
  have HO := Lib.hid (fun h => cmp_of (s := s) h)
  have HLN := Lib.hid (show (parN s).2 ≠ 0 → prgT s = [] from fun h => by unfold prgT; rw [if_neg h])
  have HZ := Lib.hid (show szN (toI (parN s).1) ≤ 200 by rw [sz_toI]; exact par_siz s)
  have CP := Lib.hid (cParse A s w hs hE.P)
  clear hE
  generalize prgT s = r at HO HLN ⊢
  obtain ⟨n, hn⟩ : ∃ n, n = (parN s).1 := ⟨_, rfl⟩
  obtain ⟨k, hk⟩ : ∃ k, k = (parN s).2 := ⟨_, rfl⟩
  have CP := Lib.hid (show Calls Tryd.prog 20 #[.string s] w fun e w' => (∃ a m c, e = .returned (.tuple #[ndV n (.slice a m c), errV A k]) ∧ Kids w' (.slice a m c) n.kids) ∧ w.grownBy w' none by rw [hn, hk]; exact CP.out)
  rw [← hn, ← hk] at HO
  rw [← hk] at HLN ⊢
  rw [← hn] at HZ
  clear hn hk
  go_enter Tryd.func7, Tryd.ntmps7
  by_cases hk0 : k = 0
  · subst hk0
    rw [errV_zero] at CP
    obtain ⟨ho1, ho2⟩ := HO.out rfl
    have HC := Lib.hid (fun a m c W h hq => (show Calls Tryd.prog 16 #[ndV n (.slice a m c)] W fun e w' => ProgOut A r 0 e w' ∧ W.grownBy w' none by
      have := cCompile A (toI n) a m c W HZ.out (by rw [toI_kids]; exact kids_toI h) hq
      rw [ho1, ho2] at this
      rw [ndV_toI]; exact this))
    clear HO HLN HZ ho1 ho2
    go_upto_region 2 with (go_at_call 20; (with_reducible refine (CP.out).mono ?_); rintro e wc ⟨⟨a1, m1, c1, rfl, hK⟩, gc⟩)
    have ga := World.grownBy_alloc wc (.cells #[.int .i64 n.kind, .int .i64 n.index, .int .u64 (wd n.set 0), .int .u64 (wd n.set 1), .int .u64 (wd n.set 2), .int .u64 (wd n.set 3), .slice a1 m1 c1] 44) none
    have gg := gc.trans ga
    have G1 := Lib.hid gg
    have B1 := Lib.hid (heap_alloc_new wc (.cells #[.int .i64 n.kind, .int .i64 n.index, .int .u64 (wd n.set 0), .int .u64 (wd n.set 1), .int .u64 (wd n.set 2), .int .u64 (wd n.set 3), .slice a1 m1 c1] 44))
    have CC := Lib.hid (HC.out a1 m1 c1 _ (hK.grown ga) (HE.out.Q.grown gg))
    clear ga gg gc hK HC HE CP
    generalize wc.heap.size = q1 at B1 ⊢
    generalize wc.alloc _ = v1 at G1 B1 CC ⊢
    obtain ⟨c0, c1, c2, c3, c4, c5, c6⟩ := seven_cells B1.out
    go_wp2_with (go_at_call 16; (with_reducible refine (CC.out).mono ?_); rintro e w5 ⟨⟨a5, c5', rfl, h5⟩, g5⟩; have R5 := Lib.hid h5; have G5 := Lib.hid (G1.out.trans g5); clear h5 g5)
    go_ret2
    exact ⟨⟨a5, c5', rfl, R5.out⟩, G5.out⟩
  · have hr := HLN.out hk0
    subst hr
    rw [errV_ne hk0] at CP
    have HV := Lib.hid (errV_ne (A := A) hk0)
    clear HO HLN HZ hk0
    go_upto_region 2 with (go_at_call 20; (with_reducible refine (CP.out).mono ?_); rintro e wc ⟨⟨a1, m1, c1, rfl, hK⟩, gc⟩)
    have G1 := Lib.hid (gc.trans (World.grownBy_alloc wc (.cells #[.int .i64 n.kind, .int .i64 n.index, .int .u64 (wd n.set 0), .int .u64 (wd n.set 1), .int .u64 (wd n.set 2), .int .u64 (wd n.set 3), .slice a1 m1 c1] 44) none))
    clear gc hK CP
    go_wp2
    go_ret2
    exact ⟨⟨none, 0, by rw [HV.out]; rfl, row_nil _⟩, G1.out⟩

/-! the chapter's example -/
def exS : ByteArray := ⟨#[97, 42]⟩
def exM : Nd := .mk 4 0 emp [.mk 1 0 (one 97) []]
theorem par_exS : parN exS = (exM, 0) := by
  have hs : exS.size = 2 := rfl
  have h0 : sgn exS 0 = (sgn exS 1).map (⟨0, one 97⟩ :: ·) := sgn_lit (show 0 < exS.size by decide) (by decide)
  refine par_ok (by rw [hs]; decide) (n := exM) ?_ (by simp [grpN, exM, cntN, cntL])
  have h1 := sgn_mark (show 1 < exS.size by decide) (by decide)
  have h42 : (exS[1]'(by decide)).toNat = 42 := by decide
  rw [h42] at h1
  rw [fin_set h0, fin_step h1]
  have hst : stepM ⟨42, emp⟩ ⟨[], [], [] ++ [.mk 1 0 (one 97) []], 0⟩ = some ⟨[], [], [exM], 0⟩ := by
    unfold stepM; rfl
  rw [hst]
  show fin exS 2 _ = _
  rw [fin_end (by rw [hs]; decide)]
  rfl
theorem of_exS : prgT exS = [⟨3, 0, 0, emp⟩, ⟨1, 2, 4, emp⟩, ⟨0, 0, 0, one 97⟩, ⟨2, 1, 0, emp⟩, ⟨3, 1, 0, emp⟩, ⟨6, 0, 0, emp⟩] := by
  unfold prgT
  rw [par_exS]
  simp [exM, toI, toL, prgN, codN, codL, lenL, lenN, ownC]
set_option maxRecDepth 100000 in
set_option maxHeartbeats 2000000 in
theorem lAlive8 (A : Nat → Addr) (w : World) (hE : QEnv A w) : Calls Tryd.prog 6 #[] w fun e w' => e = .returned (.bool true) ∧ w.grownBy w' none := by
  have CP := Lib.hid (cProgOf A exS w (by show 2 ≤ 100; decide) hE)
  have HP := Lib.hid par_exS
  clear hE
  go_enter Tryd.func6, Tryd.ntmps6
  go_wp2_with fail
  refine CP.out.mono ?_
  rintro e w1 ⟨⟨a, c, he, hk⟩, g1⟩
  rw [HP.out] at he
  rw [of_exS] at hk he
  obtain ⟨b, off, rfl, hc⟩ := hk.at (k := 1) (x := ⟨1, 2, 4, emp⟩) rfl
  obtain ⟨b', off', e', hc'⟩ := hk.at (k := 3) (x := ⟨2, 1, 0, emp⟩) rfl
  cases e'
  obtain ⟨b'', off'', e'', hc''⟩ := hk.at (k := 5) (x := ⟨6, 0, 0, emp⟩) rfl
  cases e''
  obtain rfl : e = .returned (.tuple #[.slice (some ⟨b, off, none⟩) 6 c, .nilIface]) := he
  have c0 : w1.cell? ⟨b, off + 7, none⟩ = some (.int .i64 1) := hc 0 (.int .i64 1) rfl
  have c1 : w1.cell? ⟨b, off + 9, none⟩ = some (.int .i64 4) := hc 2 (.int .i64 4) rfl
  have c2 : w1.cell? ⟨b, off + 21, none⟩ = some (.int .i64 2) := hc' 0 (.int .i64 2) rfl
  have c3 : w1.cell? ⟨b, off + 35, none⟩ = some (.int .i64 6) := hc'' 0 (.int .i64 6) rfl
  have G := Lib.hid g1
  clear hc hc' hc'' hk g1
  go_wp2
  go_ret
  exact ⟨rfl, G.out⟩
end Go.Proofs.YtliefnjhobdphaaDoor

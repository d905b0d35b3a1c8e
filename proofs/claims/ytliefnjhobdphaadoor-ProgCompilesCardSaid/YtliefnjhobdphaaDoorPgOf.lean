/- Programs: Compile and Of. Of: a text's program; the chapter's example. -/
import Derived.Test.YtliefnjhobdphaaDoorPgCode
import Derived.Test.YtliefnjhobdphaaDoorPgRight
import Derived.Test.YtliefnjhobdphaaDoorRexV
namespace Go.Proofs.YtliefnjhobdphaaDoor
open Go.RowKit

/-- the errors of Compile -/
def LP : List (Nat × Nat) := [(17, 0), (10, 1)]
/-- the number of a node's error, and its program -/
def cmpE (n : Ni) : Nat := if rgtN n then (if lenN n > 197 then 10 else 0) else 17
def cmpL (n : Ni) : List Ins := if cmpE n = 0 then prgN n else []
def ProgOut (A : Nat → Addr) (l : List Ins) (k : Nat) (e : Ending) (w' : World) : Prop := ∃ a c, e = .returned (.tuple #[.slice a l.length c, errV A k]) ∧ CRow w' (.slice a l.length c) l
theorem row_nil (w : World) : CRow w (.slice none 0 0) [] := ⟨none, 0, rfl, fun k x hx => by simp at hx⟩

set_option maxRecDepth 100000 in
set_option maxHeartbeats 4000000 in
theorem cCompile (A : Nat → Addr) (n : Ni) (a : Option Addr) (m c : Nat) (w : World) (hs : szN n ≤ 200) (hK : KidsE w (.slice a m c) n.kids) (hE : Sents LP A w) :
    Calls Tryd.prog 16 #[niV n (.slice a m c)] w fun e w' => ProgOut A (cmpL n) (cmpE n) e w' ∧ w.grownBy w' none := by
  have HR := Lib.hid (fun w h => cRight 200 n a m c w hs (Nat.le_refl _) h)
  have HL := Lib.hid (fun w hr h => cLength0 200 n a m c w hs (Nat.le_refl _) hr h)
  have HC := Lib.hid (fun hr => cNode 200 n hs (Nat.le_refl _) hr)
  have HLN := Lib.hid (show lenN n ≤ 800 by have := lenN_le n; omega)
  have ga := World.grownBy_alloc w (.cells #[.int .i64 n.kind, .int .i64 n.index, .int .u64 (wd n.set 0), .int .u64 (wd n.set 1), .int .u64 (wd n.set 2), .int .u64 (wd n.set 3), .slice a m c] 44) none
  have B1 := Lib.hid (heap_alloc_new w (.cells #[.int .i64 n.kind, .int .i64 n.index, .int .u64 (wd n.set 0), .int .u64 (wd n.set 1), .int .u64 (wd n.set 2), .int .u64 (wd n.set 3), .slice a m c] 44))
  have K1 := Lib.hid (hK.grown ga)
  have E1 := Lib.hid (hE.grown ga)
  have G1 := Lib.hid ga
  clear ga hK hs hE
  cases hb : rgtN n
  · have HO := Lib.hid (show cmpE n = 17 ∧ cmpL n = [] by have : cmpE n = 17 := by unfold cmpE; rw [hb]; rfl
                                                          exact ⟨this, by unfold cmpL; rw [this]; rfl⟩)
    rw [hb] at HR
    clear hb
    go_enter Tryd.func16, Tryd.ntmps16
    go_upto_region 1 with fail
    generalize w.alloc _ = w1 at B1 K1 G1 E1 ⊢
    generalize w.heap.size = q at B1 ⊢
    obtain ⟨c0, c1, c2, c3, c4, c5, c6⟩ := seven_cells B1.out
    go_upto_region 2 with (go_at_call 17; refine (HR.out _ K1.out).mono ?_; rintro e w2 ⟨rfl, g2⟩)
    have s17 := (E1.out.grown g2) (17, 0) (by simp [LP])
    have G2 := Lib.hid (G1.out.trans g2)
    clear g2 c0 c1 c2 c3 c4 c5 c6
    simp only at s17
    go_quiet (fail)
    go_wp2
    go_ret2
    exact ⟨⟨none, 0, by rw [HO.out.1, HO.out.2]; rfl, by rw [HO.out.2]; exact row_nil _⟩, grown_drewN G2.out _⟩
  · rw [hb] at HR HL HC
    have HL2 := Lib.hid (fun w h => HL.out w rfl h)
    have HC2 := Lib.hid (HC.out rfl)
    clear HL HC
    by_cases h197 : lenN n > 197
    · have HO := Lib.hid (show cmpE n = 10 ∧ cmpL n = [] by have : cmpE n = 10 := by unfold cmpE; rw [hb, if_pos rfl, if_pos h197]
                                                            exact ⟨this, by unfold cmpL; rw [this]; rfl⟩)
      have hz := HLN.out
      have hd : decide ((lenN n : Int) + 3 > 200) = true := by simp; omega
      clear hb
      go_enter Tryd.func16, Tryd.ntmps16
      go_upto_region 1 with fail
      generalize w.alloc _ = w1 at B1 K1 G1 E1 ⊢
      generalize w.heap.size = q at B1 ⊢
      obtain ⟨c0, c1, c2, c3, c4, c5, c6⟩ := seven_cells B1.out
      go_upto_region 4 with (first
        | (go_at_call 17; refine (HR.out _ K1.out).mono ?_; rintro e w2 ⟨rfl, g2⟩; clear c0 c1 c2 c3 c4 c5 c6; have B2 := Lib.hid (heap_grown g2 B1.out); have G2 := Lib.hid (G1.out.trans g2); have K2 := Lib.hid (K1.out.grown g2); have E2 := Lib.hid (E1.out.grown g2); clear g2; obtain ⟨c0, c1, c2, c3, c4, c5, c6⟩ := seven_cells B2.out)
        | (go_at_call 30; refine (HL2.out _ K2.out).mono ?_; rintro e w3 ⟨rfl, g3⟩; have G3 := Lib.hid (G2.out.trans g3); have E3 := Lib.hid (E2.out.grown g3); clear g3 c0 c1 c2 c3 c4 c5 c6))
      have s10 := E3.out (10, 1) (by simp [LP])
      simp only at s10
      go_quiet (fail)
      go_wp2
      go_ret2
      exact ⟨⟨none, 0, by rw [HO.out.1, HO.out.2]; rfl, by rw [HO.out.2]; exact row_nil _⟩, grown_drewN G3.out _⟩
    · have HO := Lib.hid (show cmpE n = 0 ∧ cmpL n = prgN n by have : cmpE n = 0 := by unfold cmpE; rw [hb, if_pos rfl, if_neg h197]
                                                               exact ⟨this, by unfold cmpL; rw [this]; rfl⟩)
      have HRB := Lib.hid hb
      have hz : lenN n ≤ 197 := by omega
      have hd : decide ((lenN n : Int) + 3 > 200) = false := by simp; omega
      clear hb h197
      go_enter Tryd.func16, Tryd.ntmps16
      go_upto_region 1 with fail
      generalize w.alloc _ = w1 at B1 K1 G1 E1 ⊢
      generalize w.heap.size = q at B1 ⊢
      obtain ⟨c0, c1, c2, c3, c4, c5, c6⟩ := seven_cells B1.out
      go_upto_region 5 with (first
        | (go_at_call 17; refine (HR.out _ K1.out).mono ?_; rintro e w2 ⟨rfl, g2⟩; clear c0 c1 c2 c3 c4 c5 c6; have B2 := Lib.hid (heap_grown g2 B1.out); have G2 := Lib.hid (G1.out.trans g2); have K2 := Lib.hid (K1.out.grown g2); clear g2; obtain ⟨c0, c1, c2, c3, c4, c5, c6⟩ := seven_cells B2.out)
        | (go_at_call 30; refine (HL2.out _ K2.out).mono ?_; rintro e w3 ⟨rfl, g3⟩; have G3 := Lib.hid (G2.out.trans g3); have B3 := Lib.hid (heap_grown g3 B2.out); have K3 := Lib.hid (K2.out.grown g3); clear g3 c0 c1 c2 c3 c4 c5 c6))
      have ga := World.grownBy_alloc w3 (.cells #[.slice none 0 0] 72) none
      have W4 := Lib.hid (show Wr w3.heap.size (.slice none 0 0) [] (w3.alloc (.cells #[.slice none 0 0] 72)) from ⟨heap_alloc_new w3 _, World.ownsRow_nil _ _ _ _⟩)
      have G4 := Lib.hid (G3.out.trans ga)
      have B4 := Lib.hid (heap_grown ga B3.out)
      have K4 := Lib.hid ((K3.out.weak (q := fun b => b < w3.heap.size) (fun b hb _ => hb)).grown ga)
      have HP := Lib.hid (show w.heap.size ≤ w3.heap.size from G3.out.size)
      clear ga
      go_upto_region 6 with fail
      generalize w3.alloc _ = w4 at W4 G4 B4 K4 ⊢
      generalize w3.heap.size = p at W4 K4 HP ⊢
      obtain ⟨c0, c1, c2, c3, c4, c5, c6⟩ := seven_cells B4.out
      have HB := Lib.hid (cBetween n HC2.out 0 (by omega) (by omega) p _ [] a m c w4 W4.out (by simp; omega) HRB.out K4.out)
      go_upto_region 7 with (go_at_call 31; (with_reducible refine (HB.out).mono ?_); rintro e w5 ⟨rfl, v5, W5, K5⟩)
      clear c0 c1 c2 c3 c4 c5 c6 HB
      have K5 := Lib.hid K5
      have HPT := Lib.hid (cPut0 p v5 _ 6 0 0 w5 W5 (by simp [cod_len n _ HRB.out]; omega))
      clear W5
      go_upto_region 8 with (go_at_call 32; (with_reducible refine (HPT.out).mono ?_); rintro e w6 ⟨rfl, v6, W6, K6⟩)
      have hprg : [] ++ ((⟨3, 0, 0, emp⟩ : Ins) :: (codN n ([] : List Ins).length.succ ++ [⟨3, 0 + 1, 0, emp⟩])) ++ [⟨6, 0, 0, emp⟩] = prgN n := by unfold prgN; simp
      have W6 : Wr p v6 (prgN n) w6 := by rw [← hprg]; exact W6
      have W6 := Lib.hid W6
      have G6 := Lib.hid ((K5.out.trans K6).grown W4.out G4.out HP.out)
      clear K6 HPT hprg
      obtain ⟨va, vc, rfl⟩ := owns_shape W6.out.O
      have p0 := one_cell W6.out.P
      have HRW := Lib.hid (crow_of_owns W6.out.O)
      go_wp2
      go_ret2
      exact ⟨⟨va, vc, by rw [HO.out.1, HO.out.2]; rfl, by rw [HO.out.2]; exact HRW.out⟩, G6.out⟩
end Go.Proofs.YtliefnjhobdphaaDoor

namespace Go.Proofs.YtliefnjhobdphaaDoor
open Go.RowKit

/-- a text's program, empty if it has none -/
def prgT (s : ByteArray) : List Ins := if (parN s).2 = 0 then prgN (toI (parN s).1) else []
/-- what the program's Of reads -/
structure QEnv (A : Nat → Addr) (w : World) : Prop where
  P : PEnv A w
  Q : Sents LP A w
theorem QEnv.grown {A : Nat → Addr} {w w' : World} (h : QEnv A w) (g : w.grownBy w' none) : QEnv A w' := ⟨h.P.grown g, h.Q.grown g⟩
theorem cmp_of {s : ByteArray} (h : (parN s).2 = 0) : cmpE (toI (parN s).1) = 0 ∧ cmpL (toI (parN s).1) = prgT s := by
  obtain ⟨h1, h2⟩ := par_right h
  have h3 : cmpE (toI (parN s).1) = 0 := by unfold cmpE; rw [h1, if_pos rfl, if_neg (by omega)]
  exact ⟨h3, by unfold cmpL prgT; rw [h3, h]⟩

set_option maxRecDepth 100000 in
set_option maxHeartbeats 4000000 in
theorem cProgOf (A : Nat → Addr) (s : ByteArray) (w : World) (hs : s.size ≤ 100) (hE : QEnv A w) :
    Calls Tryd.prog 7 #[.string s] w fun e w' => ProgOut A (prgT s) (parN s).2 e w' ∧ w.grownBy w' none := by
  have HE := Lib.hid hE
  have HO := Lib.hid (fun h => cmp_of (s := s) h)
  have HLN := Lib.hid (show (parN s).2 ≠ 0 → prgT s = [] from fun h => by unfold prgT; rw [if_neg h])
  have HZ := Lib.hid (show szN (toI (parN s).1) ≤ 200 by rw [sz_toI]; exact par_siz s)
  have CP := Lib.hid (cParse A s w hs hE.P)
  clear hE
  generalize prgT s = r at HO HLN ⊢
  obtain ⟨n, hn⟩ : ∃ n, n = (parN s).1 := ⟨_, rfl⟩
  obtain ⟨k, hk⟩ : ∃ k, k = (parN s).2 := ⟨_, rfl⟩
  have CP := Lib.hid (show Calls Tryd.prog 20 #[.string s] w fun e w' => (∃ a m c, e = .returned (.tuple #[ndV n (.slice a m c), errV A k]) ∧ Kids w' (.slice a m c) n.kids) ∧ w.grownBy w' none by rw [hn, hk]; exact CP.out)
  rw [← hn, ← hk] at HO
  rw [← hk] at HLN ⊢
  rw [← hn] at HZ
  clear hn hk
  go_enter Tryd.func7, Tryd.ntmps7
  by_cases hk0 : k = 0
  · subst hk0
    rw [errV_zero] at CP
    obtain ⟨ho1, ho2⟩ := HO.out rfl
    have HC := Lib.hid (fun a m c W h hq => (show Calls Tryd.prog 16 #[ndV n (.slice a m c)] W fun e w' => ProgOut A r 0 e w' ∧ W.grownBy w' none by
      have := cCompile A (toI n) a m c W HZ.out (by rw [toI_kids]; exact kids_toI h) hq
      rw [ho1, ho2] at this
      rw [ndV_toI]; exact this))
    clear HO HLN HZ ho1 ho2
    go_upto_region 2 with (go_at_call 20; (with_reducible refine (CP.out).mono ?_); rintro e wc ⟨⟨a1, m1, c1, rfl, hK⟩, gc⟩)
    have ga := World.grownBy_alloc wc (.cells #[.int .i64 n.kind, .int .i64 n.index, .int .u64 (wd n.set 0), .int .u64 (wd n.set 1), .int .u64 (wd n.set 2), .int .u64 (wd n.set 3), .slice a1 m1 c1] 44) none
    have gg := gc.trans ga
    have G1 := Lib.hid gg
    have B1 := Lib.hid (heap_alloc_new wc (.cells #[.int .i64 n.kind, .int .i64 n.index, .int .u64 (wd n.set 0), .int .u64 (wd n.set 1), .int .u64 (wd n.set 2), .int .u64 (wd n.set 3), .slice a1 m1 c1] 44))
    have CC := Lib.hid (HC.out a1 m1 c1 _ (hK.grown ga) (HE.out.Q.grown gg))
    clear ga gg gc hK HC HE CP
    generalize wc.heap.size = q1 at B1 ⊢
    generalize wc.alloc _ = v1 at G1 B1 CC ⊢
    obtain ⟨c0, c1, c2, c3, c4, c5, c6⟩ := seven_cells B1.out
    go_wp2_with (go_at_call 16; (with_reducible refine (CC.out).mono ?_); rintro e w5 ⟨⟨a5, c5', rfl, h5⟩, g5⟩; have R5 := Lib.hid h5; have G5 := Lib.hid (G1.out.trans g5); clear h5 g5)
    go_ret2
    exact ⟨⟨a5, c5', rfl, R5.out⟩, G5.out⟩
  · have hr := HLN.out hk0
    subst hr
    rw [errV_ne hk0] at CP
    have HV := Lib.hid (errV_ne (A := A) hk0)
    clear HO HLN HZ hk0
    go_upto_region 2 with (go_at_call 20; (with_reducible refine (CP.out).mono ?_); rintro e wc ⟨⟨a1, m1, c1, rfl, hK⟩, gc⟩)
    have G1 := Lib.hid (gc.trans (World.grownBy_alloc wc (.cells #[.int .i64 n.kind, .int .i64 n.index, .int .u64 (wd n.set 0), .int .u64 (wd n.set 1), .int .u64 (wd n.set 2), .int .u64 (wd n.set 3), .slice a1 m1 c1] 44) none))
    clear gc hK CP
    go_wp2
    go_ret2
    exact ⟨⟨none, 0, by rw [HV.out]; rfl, row_nil _⟩, G1.out⟩

/-! the chapter's example -/
def exS : ByteArray := ⟨#[97, 42]⟩
def exM : Nd := .mk 4 0 emp [.mk 1 0 (one 97) []]
theorem par_exS : parN exS = (exM, 0) := by
  have hs : exS.size = 2 := rfl
  have h0 : sgn exS 0 = (sgn exS 1).map (⟨0, one 97⟩ :: ·) := sgn_lit (show 0 < exS.size by decide) (by decide)
  refine par_ok (by rw [hs]; decide) (n := exM) ?_ (by simp [grpN, exM, cntN, cntL])
  have h1 := sgn_mark (show 1 < exS.size by decide) (by decide)
  have h42 : (exS[1]'(by decide)).toNat = 42 := by decide
  rw [h42] at h1
  rw [fin_set h0, fin_step h1]
  have hst : stepM ⟨42, emp⟩ ⟨[], [], [] ++ [.mk 1 0 (one 97) []], 0⟩ = some ⟨[], [], [exM], 0⟩ := by
    unfold stepM; rfl
  rw [hst]
  show fin exS 2 _ = _
  rw [fin_end (by rw [hs]; decide)]
  rfl
theorem of_exS : prgT exS = [⟨3, 0, 0, emp⟩, ⟨1, 2, 4, emp⟩, ⟨0, 0, 0, one 97⟩, ⟨2, 1, 0, emp⟩, ⟨3, 1, 0, emp⟩, ⟨6, 0, 0, emp⟩] := by
  unfold prgT
  rw [par_exS]
  simp [exM, toI, toL, prgN, codN, codL, lenL, lenN, ownC]
set_option maxRecDepth 100000 in
set_option maxHeartbeats 2000000 in
theorem lAlive8 (A : Nat → Addr) (w : World) (hE : QEnv A w) : Calls Tryd.prog 6 #[] w fun e w' => e = .returned (.bool true) ∧ w.grownBy w' none := by
  have CP := Lib.hid (cProgOf A exS w (by show 2 ≤ 100; decide) hE)
  have HP := Lib.hid par_exS
  clear hE
  go_enter Tryd.func6, Tryd.ntmps6
  go_wp2_with fail
  refine CP.out.mono ?_
  rintro e w1 ⟨⟨a, c, he, hk⟩, g1⟩
  rw [HP.out] at he
  rw [of_exS] at hk he
  obtain ⟨b, off, rfl, hc⟩ := hk.at (k := 1) (x := ⟨1, 2, 4, emp⟩) rfl
  obtain ⟨b', off', e', hc'⟩ := hk.at (k := 3) (x := ⟨2, 1, 0, emp⟩) rfl
  cases e'
  obtain ⟨b'', off'', e'', hc''⟩ := hk.at (k := 5) (x := ⟨6, 0, 0, emp⟩) rfl
  cases e''
  obtain rfl : e = .returned (.tuple #[.slice (some ⟨b, off, none⟩) 6 c, .nilIface]) := he
  have c0 : w1.cell? ⟨b, off + 7, none⟩ = some (.int .i64 1) := hc 0 (.int .i64 1) rfl
  have c1 : w1.cell? ⟨b, off + 9, none⟩ = some (.int .i64 4) := hc 2 (.int .i64 4) rfl
  have c2 : w1.cell? ⟨b, off + 21, none⟩ = some (.int .i64 2) := hc' 0 (.int .i64 2) rfl
  have c3 : w1.cell? ⟨b, off + 35, none⟩ = some (.int .i64 6) := hc'' 0 (.int .i64 6) rfl
  have G := Lib.hid g1
  clear hc hc' hc'' hk g1
  go_wp2
  go_ret
  exact ⟨rfl, G.out⟩
end Go.Proofs.YtliefnjhobdphaaDoor

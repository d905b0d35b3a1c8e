/- The law ProgOf, walked. -/
import Derived.Test.YtliefnjhobdphaaDoorPgOf
import Derived.Test.YtliefnjhobdphaaDoorPgDProg
import Derived.Test.YtliefnjhobdphaaDoorRexPD
import Derived.Test.YtliefnjhobdphaaDoorErrNum
namespace Go.Proofs.YtliefnjhobdphaaDoor
open Go.RowKit

theorem par_num18 (s : ByteArray) : (parN s).2 ≤ 18 := by
  unfold parN
  split
  · decide
  · split
    · decide
    · split
      · decide
      · exact Nat.zero_le _

set_option maxRecDepth 100000 in
set_option maxHeartbeats 4000000 in
theorem lProgOf (A : Nat → Addr) (s : ByteArray) (w : World) (hE : QEnv A w) (hN : ErrEnv A w) (hs : s.size ≤ 9223372036854775807) :
    Calls Tryd.prog 3 #[.string s] w fun e w' => e = .returned (.bool true) ∧ w.grownBy w' none := by
  have HE := Lib.hid hE; have HN := Lib.hid hN
  have HA := Lib.hid (lAlive8 A w hE)
  clear hE hN
  go_enter Tryd.func3, Tryd.ntmps3
  by_cases h1 : s.size > 100
  · have hd : decide ((s.size : Int) > 100) = true := by simp; omega
    go_wp2_with (go_at_call 6; refine HA.out.mono ?_; rintro e w1 ⟨rfl, g1⟩; have G1 := Lib.hid g1; clear g1)
    go_ret
    exact ⟨rfl, G1.out⟩
  have hd : decide ((s.size : Int) > 100) = false := by simp; omega
  have hs100 : s.size ≤ 100 := by omega
  obtain ⟨n, hn⟩ : ∃ n, n = (parN s).1 := ⟨_, rfl⟩
  obtain ⟨k, hk⟩ : ∃ k, k = (parN s).2 := ⟨_, rfl⟩
  have HK18 := Lib.hid (show k ≤ 18 by rw [hk]; exact par_num18 s)
  obtain ⟨r, hr⟩ : ∃ r, r = prgT s := ⟨_, rfl⟩
  have P1 := Lib.hid (show ∀ w, QEnv A w → Calls Tryd.prog 7 #[.string s] w fun e w' => ProgOut A r k e w' ∧ w.grownBy w' none from fun w hE => by rw [hr, hk]; exact cProgOf A s w hs100 hE)
  have P3 := Lib.hid (show ∀ w, Calls Tryd.prog 8 #[.string s] w fun e w' => (∃ a m c, e = .returned (.tuple #[ndV n (.slice a m c), .int .i64 k]) ∧ Kids w' (.slice a m c) n.kids) ∧ w.grownBy w' none from fun w => by rw [hn, hk]; exact cParseD s w hs100)
  have HSZ := Lib.hid (show szN (toI n) ≤ 200 by rw [hn, sz_toI]; exact par_siz s)
  by_cases hk0 : k = 0
  · have HR := Lib.hid (show rgtN (toI n) = true ∧ lenN (toI n) ≤ 120 by rw [hn]; exact par_right (hk ▸ hk0))
    have HRP := Lib.hid (show r = prgN (toI n) by rw [hr]; unfold prgT; rw [← hk, if_pos hk0, ← hn])
    have HRL := Lib.hid (show r.length ≤ 123 by rw [HRP.out, prg_len HR.out.1]; have := HR.out.2; omega)
    have HCB := Lib.hid (show clsdB r = true by rw [HRP.out]; exact prg_closed HR.out.1)
    have P5 := Lib.hid (show ∀ a m c W, Kids W (.slice a m c) n.kids → Calls Tryd.prog 10 #[ndV n (.slice a m c)] W (CodOut W r) from fun a m c W h => by
      rw [ndV_toI, HRP.out]; exact dProgram (toI n) HSZ.out HR.out.1 (by have := HR.out.2; omega) a m c W (by rw [toI_kids]; exact kids_toI h))
    clear hn hk hr
    subst hk0
    clear HN HK18
    go_upto_region 6 with (first
      | (go_at_call 6; refine HA.out.mono ?_; rintro e w1 ⟨rfl, g1⟩; have G1 := Lib.hid g1; have E1 := Lib.hid (HE.out.grown g1); clear g1)
      | (go_at_call 7; (with_reducible refine (P1.out _ E1.out).mono ?_); rintro e w2 ⟨⟨a2, c2, rfl, h2⟩, g2⟩; have G2 := Lib.hid (G1.out.trans g2); have R2 := Lib.hid h2; clear g2 h2))
    go_upto_region 7 with (go_at_call 8; (with_reducible refine (P3.out _).mono ?_); rintro e wc ⟨⟨a3, m3, c3, rfl, hK⟩, gc⟩)
    have ga := World.grownBy_alloc wc (.cells #[.int .i64 n.kind, .int .i64 n.index, .int .u64 (wd n.set 0), .int .u64 (wd n.set 1), .int .u64 (wd n.set 2), .int .u64 (wd n.set 3), .slice a3 m3 c3] 32) none
    have gg := gc.trans ga
    have G3 := Lib.hid (G2.out.trans gg)
    have B3 := Lib.hid (heap_alloc_new wc (.cells #[.int .i64 n.kind, .int .i64 n.index, .int .u64 (wd n.set 0), .int .u64 (wd n.set 1), .int .u64 (wd n.set 2), .int .u64 (wd n.set 3), .slice a3 m3 c3] 32))
    have R3 := Lib.hid (R2.out.grown gg)
    have C3 := Lib.hid (P5.out a3 m3 c3 _ (hK.grown ga))
    clear ga gg gc hK P5 P3 P1 R2
    generalize wc.heap.size = q3 at B3 ⊢
    generalize wc.alloc _ = w3 at G3 B3 R3 C3 ⊢
    obtain ⟨c0, c1, c2', c3', c4, c5, c6⟩ := seven_cells B3.out
    go_upto_region 10 with (go_at_call 10; (with_reducible refine (C3.out).mono ?_); rintro e w4 ⟨⟨v4, rfl, o4⟩, g4⟩)
    clear c0 c1 c2' c3' c4 c5 c6 B3 C3
    have G4 := Lib.hid (G3.out.trans g4)
    have R4 := Lib.hid (R3.out.grown g4)
    have S4 := Lib.hid (crow_of_owns o4)
    obtain ⟨va, vc, rfl⟩ := owns_shape o4
    clear g4 o4 R3
    have hr1 := HRL.out
    have hd2 : decide ((r.length : Int) ≤ 200) = true := by simp; omega
    have CS := Lib.hid (lSameP _ _ r w4 (by unfold maxLen; omega) R4.out S4.out)
    have CC := Lib.hid (fun W g => HCB.out ▸ cClosed (.slice a2 r.length c2) r W (by unfold maxLen; omega) (R4.out.grown g))
    rw [errV_zero]
    go_wp2_with (first
      | (go_at_call 11; (with_reducible refine (CS.out).mono ?_); rintro e w5 ⟨rfl, g5⟩; have G5 := Lib.hid (G4.out.trans g5); have F5 := Lib.hid g5; clear g5)
      | (go_at_call 12; (with_reducible refine (CC.out _ F5.out).mono ?_); rintro e w6 ⟨rfl, g6⟩; have G6 := Lib.hid (G5.out.trans g6); clear g6))
    go_ret
    exact ⟨rfl, G6.out⟩
  · have HRE := Lib.hid (show r = [] by rw [hr]; unfold prgT; rw [← hk, if_neg hk0])
    have hkn : ((k : Int) != 0) = true := by simp; omega
    have CN := Lib.hid (show ∀ w, ErrEnv A w → Calls Tryd.prog 9 #[errV A k] w fun e w' => e = .returned (.int .i64 k) ∧ w.grownBy w' none from fun w hE => lNumV A k HK18.out w hE)
    obtain ⟨x1, hx1⟩ : ∃ x, x = errV A k := ⟨_, rfl⟩
    have P2 := Lib.hid (show ∀ w, QEnv A w → Calls Tryd.prog 7 #[.string s] w fun e w' => (∃ a c, e = .returned (.tuple #[.slice a 0 c, x1])) ∧ w.grownBy w' none from fun w hE => (P1.out w hE).mono fun e w' h => by
      obtain ⟨⟨a, c, rfl, -⟩, g⟩ := h
      rw [HRE.out, ← hx1]; exact ⟨⟨a, c, rfl⟩, g⟩)
    rw [← hx1] at CN
    have CN := Lib.hid CN
    clear hn hk hr HSZ P1 HRE hx1 hk0
    go_upto_region 6 with (first
      | (go_at_call 6; refine HA.out.mono ?_; rintro e w1 ⟨rfl, g1⟩; have G1 := Lib.hid g1; have E1 := Lib.hid (HE.out.grown g1); clear g1)
      | (go_at_call 7; (with_reducible refine (P2.out _ E1.out).mono ?_); rintro e w2 ⟨⟨a2, c2, rfl⟩, g2⟩; have G2 := Lib.hid (G1.out.trans g2); clear g2))
    go_upto_region 7 with (go_at_call 8; (with_reducible refine (P3.out _).mono ?_); rintro e wc ⟨⟨a3, m3, c3, rfl, hK⟩, gc⟩)
    have G3 := Lib.hid (G2.out.trans (gc.trans (World.grownBy_alloc wc (.cells #[.int .i64 n.kind, .int .i64 n.index, .int .u64 (wd n.set 0), .int .u64 (wd n.set 1), .int .u64 (wd n.set 2), .int .u64 (wd n.set 3), .slice a3 m3 c3] 32) none)))
    have CW := Lib.hid (CN.out _ (HN.out.later (below_of_grown G3.out)))
    clear gc hK P3 P2 HN HE HA
    generalize wc.alloc _ = w3 at G3 CW ⊢
    go_wp2_with (go_at_call 9; (with_reducible refine (CW.out).mono ?_); rintro e w5 ⟨rfl, g5⟩; have G5 := Lib.hid (G3.out.trans g5); clear g5)
    go_ret
    exact ⟨ret_bool (by simp), G5.out⟩
end Go.Proofs.YtliefnjhobdphaaDoor

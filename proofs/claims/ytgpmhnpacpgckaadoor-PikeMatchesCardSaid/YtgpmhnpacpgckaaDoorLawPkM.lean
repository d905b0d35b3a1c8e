/- The law PikeMatches, walked. -/
import Derived.Test.YtgpmhnpacpgckaaDoorPkAlive
import Derived.Test.YtgpmhnpacpgckaaDoorPkDMatch
import Derived.Test.YtgpmhnpacpgckaaDoorPkEnd
namespace Go.Proofs.YtgpmhnpacpgckaaDoor
open Go.RowKit

theorem flatC_take {L : List Ins} {j : Nat} {x : Ins} (h : L[j]? = some x) : flatC (L.take (j + 1)) = flatC (L.take j) ++ cellsC x := by
  rw [List.take_add_one, h, flatC_append]; show _ ++ flatC [x] = _; rw [flatC_one]
set_option maxRecDepth 100000 in
set_option maxHeartbeats 2000000 in
theorem cOf9 (L : List Ins) (a : Option Addr) (c : Nat) (w : World) (hL : L.length ≤ 1000) (h : CRow w (.slice a L.length c) L) :
    Calls Tryd.prog 8 #[.slice a L.length c] w fun e w' => (∃ b d, e = .returned (.slice b L.length d) ∧ CRow w' (.slice b L.length d) L) ∧ w.grownBy w' none := by
  have H := Lib.hid h
  have hLm : L.length ≤ 9223372036854775807 := by omega
  obtain ⟨iu, hiu, hu0, hu1, hu2⟩ := info_parts infoIr
  have IU := Lib.hid hiu; have ZU0 := Lib.hid hu0; have ZU1 := Lib.hid hu1; have ZU2 := Lib.hid hu2
  have O1 := Lib.hid (own_zero w 60 w.heap.size (Nat.le_refl _))
  have G1 := Lib.hid (World.grownBy_alloc w (.cells #[] 60) none)
  clear hiu hu0 hu1 hu2 h
  go_enter Tryd.func8, Tryd.ntmps8
  go_upto_region 2 with fail
  generalize w.alloc _ = w1 at O1 G1 ⊢
  go_wp2
  go_loopg [3, 5, 9] L.length (fun g v _ i wr => ∃ j : Nat, j + g = L.length ∧ i = .int .i64 j ∧ Hid (wr.ownsRow w.heap.size 60 7 v j (flatC (L.take j))) ∧ Hid (w.grownBy wr none))
  case atStart => exact ⟨0, by omega, rfl, O1, G1⟩
  case round =>
    obtain ⟨j, hj, rfl, hO, hG⟩ := hrel
    have HJ := Lib.hid hj
    have hjl : j ≤ L.length := by omega
    clear hj
    by_cases hlt : j < L.length
    · obtain ⟨va, vc, rfl⟩ := owns_shape hO.out
      obtain ⟨x, hx⟩ : ∃ x, L[j]? = some x := ⟨_, List.getElem?_eq_getElem hlt⟩
      obtain ⟨b0, off, rfl, hc⟩ := (H.out.grown hG.out).at hx
      have c0 : wr.cell? ⟨b0, off + j * 7, none⟩ = some (.int .i64 x.o) := hc 0 _ rfl
      have c1 := hc 1 _ rfl
      have c2 := hc 2 _ rfl
      have c3 := hc 3 _ rfl
      have c4 := hc 4 _ rfl
      have c5 := hc 5 _ rfl
      have c6 := hc 6 _ rfl
      have HT := Lib.hid (flatC_take hx)
      have ga := World.grownBy_alloc wr (.cells #[.int .i64 x.o, .int .i64 x.x, .int .i64 x.y, .int .u64 (wd x.s 0), .int .u64 (wd x.s 1), .int .u64 (wd x.s 2), .int .u64 (wd x.s 3)] 58) none
      have B3 := Lib.hid (heap_alloc_new wr (.cells #[.int .i64 x.o, .int .i64 x.x, .int .i64 x.y, .int .u64 (wd x.s 0), .int .u64 (wd x.s 1), .int .u64 (wd x.s 2), .int .u64 (wd x.s 3)] 58))
      have G3 := Lib.hid (hG.out.trans ga)
      have O3 := Lib.hid (hO.out.alloc (.cells #[.int .i64 x.o, .int .i64 x.x, .int .i64 x.y, .int .u64 (wd x.s 0), .int .u64 (wd x.s 1), .int .u64 (wd x.s 2), .int .u64 (wd x.s 3)] 58))
      clear hc hx ga
      go_upto_region 5 with fail
      clear c0 c1 c2 c3 c4 c5 c6
      generalize wr.alloc _ = w4 at B3 G3 O3 ⊢
      generalize wr.heap.size = q4 at B3 ⊢
      obtain ⟨c0, c1, c2, c3, c4, c5, c6⟩ := seven_cells B3.out
      go_wp2_with (at_builtin; refine wpList_append_own _ rfl _ _ 30 rfl w.heap.size 60 iu _ 7 56 Tryd.underlying30 IU.out ZU0.out ZU1.out ZU2.out rfl (by decide) _ _ _ rfl (O3.out.alloc _) ⟨_, 0, none⟩ 1 1 (cellsC x) rfl rfl (new_ins _ _ _ _ (by simp)) (ins_one x) (by unfold maxLen; omega) (by omega) (by have := G3.out.size; simp; omega) ?_; intro v6 w6 hown6 hgrow6 _; have G6 := Lib.hid (G3.out.andThen ((World.grownBy_alloc w4 _ _).trans hgrow6) (fun j hj => .inl (O3.out.lt j hj).1)); have O6 := Lib.hid (show w6.ownsRow w.heap.size 60 7 v6 (j + 1) (flatC (L.take (j + 1))) by rw [HT.out]; exact hown6); clear hown6 hgrow6)
      go_roundg (L.length - (j + 1))
      case measure => have := HJ.out; omega
      case rel => exact ⟨j + 1, by omega, by go_num, O6, G6⟩
    · obtain rfl : j = L.length := by omega
      obtain ⟨va, vc, rfl⟩ := owns_shape hO.out
      go_wp2
      go_ret
      exact ⟨⟨va, vc, rfl, crow_of_owns (by have := hO.out; rwa [List.take_length] at this)⟩, hG.out⟩

set_option maxRecDepth 100000 in
set_option maxHeartbeats 4000000 in
theorem lPikeMatches (A : Nat → Addr) (v : Value) (L : List Ins) (s : ByteArray) (w : World) (hE : QEnv A w) (hm : L.length ≤ maxLen) (hs : s.size ≤ maxLen) (h : CRow w v L) :
    Calls Tryd.prog 3 #[v, .string s] w fun e w' => e = .returned (.bool true) ∧ w.grownBy w' none := by
  unfold maxLen at hs hm
  obtain ⟨a, c, rfl⟩ := h.shape
  have HA := Lib.hid (lAlive9 A w hE)
  have HR := Lib.hid h
  clear hE h
  by_cases hbig : L.length > 60 ∨ s.size > 60
  · go_enter Tryd.func3, Tryd.ntmps3
    by_cases h1 : L.length > 60
    · have hd : decide ((L.length : Int) > 60) = true := by simp; omega
      clear hbig
      go_wp2_with (go_at_call 5; (with_reducible refine HA.out.mono ?_); rintro e w1 ⟨rfl, g1⟩; have G1 := Lib.hid g1; clear g1)
      go_ret
      exact ⟨rfl, G1.out⟩
    · have hd : decide ((L.length : Int) > 60) = false := by simp; omega
      have hd2 : decide ((s.size : Int) > 60) = true := by simp; omega
      clear hbig
      go_wp2_with (go_at_call 5; (with_reducible refine HA.out.mono ?_); rintro e w1 ⟨rfl, g1⟩; have G1 := Lib.hid g1; clear g1)
      go_ret
      exact ⟨rfl, G1.out⟩
  have hd : decide ((L.length : Int) > 60) = false := by simp; omega
  have hd2 : decide ((s.size : Int) > 60) = false := by simp; omega
  have hl : L.length ≤ 60 := by omega
  have hsz : s.size ≤ 60 := by omega
  clear hbig
  obtain ⟨r, hr⟩ := run_total L s _ [⟨0, 0, noK⟩] (fun _ _ => false) (fun x hx => by simp at hx; subst hx; exact Nat.zero_le _) (Nat.le_refl _)
  have HRun := Lib.hid hr
  have CM := Lib.hid (fun W (hW : CRow W (.slice a L.length c) L) => cMatch9 L s a c r W hW (by omega) (by omega) hr)
  have CO := Lib.hid (fun W (hW : CRow W (.slice a L.length c) L) => cOf9 L a c W (by omega) hW)
  have CD := Lib.hid (fun b d W (hW : CRow W (.slice b L.length d) L) => cDMatch L s b d W hW (by omega) (by omega))
  obtain ⟨hz, -⟩ := zero_of_info info20
  obtain ⟨Zr, hZr⟩ : ∃ Zr, Zr = (intsV zeroK).toArray := ⟨_, rfl⟩
  have HZr := Lib.hid hZr
  rw [← hZr] at hz
  clear hr hZr
  go_enter Tryd.func3, Tryd.ntmps3
  go_upto_region 5 with (go_at_call 5; (with_reducible refine HA.out.mono ?_); rintro e w1 ⟨rfl, g1⟩; have G1 := Lib.hid g1; have R1 := Lib.hid (HR.out.grown g1); clear g1)
  have CM1 := Lib.hid (CM.out w1 R1.out)
  go_wp2_with fail
  refine CM1.out.mono ?_
  rintro e w2 ⟨hout, g2⟩
  have G2 := Lib.hid (G1.out.trans g2)
  have CO2 := Lib.hid (CO.out w2 (R1.out.grown g2))
  have HOut := Lib.hid hout
  rcases hout with ⟨hrn, rfl⟩ | ⟨b2, k2, hrk, rfl, hb2, hk2⟩
  all_goals
    have G12 := Lib.hid g2
    clear g2 CM1 CM CO
    go_wp2_with fail
    refine CO2.out.mono ?_
    rintro e w3 ⟨⟨b3, d3, rfl, hc3⟩, g3⟩
    have CD3 := Lib.hid (CD.out b3 d3 w3 hc3)
    have G3 := Lib.hid (G2.out.trans g3)
    have G23 := Lib.hid g3
    clear hc3 g3 CO2 CD
    go_wp2_with fail
    refine CD3.out.mono ?_
    rintro e w4 ⟨⟨k4, ok, rfl, hk4, hr4⟩, g4⟩
    have HK4 := Lib.hid hk4
    have HD := Lib.hid (run_det HRun.out hr4)
    have G4 := Lib.hid (G3.out.trans g4)
    have G24 := Lib.hid (G23.out.trans g4)
    clear hr4 g4 CD3 hk4
  · rw [hrn] at HD
    cases ok
    · go_upto_region 7 with (refine wpList_store_row rfl 27 (.tmp 7) (.tmp 30) rfl _ (intsV k4).toArray rfl rfl 27 Zr (heap_alloc_new _ _) (size20 k4 HK4.out) (by rw [HZr.out]; simp [intsV_len, HK4.out, zeroK]) (one20 k4) ?_)
      obtain ⟨n1, n2⟩ := row_grown9 (cs' := (intsV k4).toArray) (heap_alloc_new w4 (.cells Zr 27))
      have G5 := Lib.hid (G4.out.trans ((World.grownBy_alloc w4 (.cells Zr 27) none).andThen n2 (fun j hj => .inl (by cases hj; exact Nat.le_refl _))))
      clear n1 n2 hrn HD
      generalize (w4.alloc _).setRow _ _ = w5 at G5 ⊢
      go_wp2
      go_ret
      exact ⟨rfl, G5.out⟩
    · cases HD.out
  · rw [hrk] at HD
    cases ok
    · cases HD.out
    · have hkk : k2 = k4 := by have := HD.out; simpa using this
      subst hkk
      go_upto_region 7 with (refine wpList_store_row rfl 27 (.tmp 7) (.tmp 30) rfl _ (intsV k2).toArray rfl rfl 27 Zr (heap_alloc_new _ _) (size20 k2 HK4.out) (by rw [HZr.out]; simp [intsV_len, HK4.out, zeroK]) (one20 k2) ?_)
      obtain ⟨n1, n2⟩ := row_grown9 (cs' := (intsV k2).toArray) (heap_alloc_new w4 (.cells Zr 27))
      have g5 : w4.grownBy ((w4.alloc (.cells Zr 27)).setRow w4.heap.size (intsV k2).toArray) none := (World.grownBy_alloc w4 (.cells Zr 27) none).andThen n2 (fun j hj => .inl (by cases hj; exact Nat.le_refl _))
      have G5 := Lib.hid (G4.out.trans g5)
      have CS := Lib.hid (cSameI (.slice (some ⟨b2, 0, none⟩) 20 20) (.slice (some ⟨w4.heap.size, 0, none⟩) 20 20) k2 _ (by rw [HK4.out]; omega) (irow_of_block (heap_grown (G24.out.trans g5) hb2) HK4.out 20) (irow_of_block n1 HK4.out 20))
      clear n1 n2 hrk HD g5 hb2 hk2
      generalize (w4.alloc _).setRow _ _ = w5 at G5 CS ⊢
      generalize w4.heap.size = b7 at CS ⊢
      go_wp2_with (go_at_call 9; (with_reducible refine CS.out.mono ?_); rintro e w6 ⟨rfl, g6⟩; have G6 := Lib.hid (G5.out.trans g6); clear g6)
      go_ret
      exact ⟨rfl, G6.out⟩
end Go.Proofs.YtgpmhnpacpgckaaDoor

/- The law StmtLines, walked: the statements of all lines, whatever is in them. -/
import Derived.Test.YtdganemgldocoaaGreatDoorSmOut
import Derived.Test.YtdganemgldocoaaGreatDoorLawSmT
namespace Go.Proofs.YtdganemgldocoaaGreatDoor
open Go.RowKit

set_option maxRecDepth 100000 in
set_option maxHeartbeats 16000000 in
theorem lStmtLines {A : Nat → Addr} {E : World → Prop} (C : SmC A E) (hLv : ∀ w, E w → LEnv A w) (hP : ∀ (v : Value) (O : List Li) (w : World), E w → LiRow w v O → LiS O → Calls Tryz.prog 9 #[v] w (PSmO (parS [] O) A w))
    (hW : ∀ (k : Int) (w : World), Calls Tryz.prog 11 #[.int .i64 k] w fun e w' => e = .returned (.string (wordS k)) ∧ w.grownBy w' none) (v : Value) (O : List Li) (k : Int) (w : World) (hE : E w) (hO : LiRow w v O) :
    Calls Tryz.prog 4 #[v, .int .i64 k] w fun e w' => e = .returned (.bool true) ∧ w.grownBy w' none := by
  have CA := Lib.hid (lAlive19 C w hE)
  obtain ⟨va, vc, rfl, hm⟩ := hO.shape
  by_cases hs : 40 < O.length
  · have e1 : decide ((O.length : Int) > 40) = true := by simp; omega
    clear hs
    go_enter Tryz.func4, Tryz.ntmps4
    go_wp2_with (go_at_call 5; (with_reducible refine CA.out.mono ?_); rintro e w1 ⟨rfl, g1⟩; have G1 := Lib.hid g1; clear g1)
    go_ret
    exact ⟨rfl, G1.out⟩
  have hs40 : O.length ≤ 40 := by omega
  have e1 : decide ((O.length : Int) > 40) = false := by simp; omega
  obtain ⟨iu, hiu, hu0, hu1, hu2⟩ := info_parts infoLnD
  have IU := Lib.hid hiu; have ZU0 := Lib.hid hu0; have ZU1 := Lib.hid hu1; have ZU2 := Lib.hid hu2
  have HO := Lib.hid hO
  have HE := Lib.hid (fun W (g : w.grownBy W none) => C.gr _ _ hE g)
  clear hiu hu0 hu1 hu2 hO hE hm hs
  go_enter Tryz.func4, Tryz.ntmps4
  go_upto_region 5 with (go_at_call 5; (with_reducible refine CA.out.mono ?_); rintro e w1 ⟨rfl, g1⟩; have G1 := Lib.hid g1; clear g1)
  have O1 := Lib.hid (li_zero w1 37 w1.heap.size (Nat.le_refl _))
  have G2 := Lib.hid (G1.out.trans (World.grownBy_alloc w1 (.cells #[] 37) none))
  obtain ⟨base, hbase⟩ : ∃ base, base = w1.heap.size := ⟨_, rfl⟩
  have HBL := Lib.hid (show w.heap.size ≤ base by have := G1.out.size; omega)
  go_upto_region 6 with fail
  generalize w1.alloc _ = w2 at O1 G2 ⊢
  rw [← hbase] at O1 ⊢
  clear hbase CA
  have HB2 := Lib.hid (show base ≤ w2.heap.size by have := O1.out.2; rcases this with ⟨h, -⟩ | ⟨g, cap, cur, h, h2, h3, -⟩; cases h; have := (Array.getElem?_eq_some_iff.1 h3).1; omega)
  go_wp2
  go_loopw [5, 7, 26] (fun o_ _ i_ wr => ∃ (i : Nat) (ua : Option Addr) (uc : Nat), i ≤ O.length ∧ i_ = .int .i64 i ∧ o_ = .slice ua i uc ∧ Hid (wr.ownsRow base 37 3 (.slice ua i uc) i (liV (O.take i))) ∧ Hid (∀ x ∈ O.take i, x.t.size ≤ 400) ∧ Hid (w.grownBy wr none) ∧ Hid (base ≤ wr.heap.size)) (fun _ _ i_ _ => O.length - (intOf i_).toNat)
  case atStart => exact ⟨0, _, _, Nat.zero_le _, rfl, rfl, O1, Lib.hid (fun x hx => by simp at hx), G2, HB2⟩
  case round =>
    obtain ⟨i, ua, uc, hi, rfl, rfl, hR, hS, hG, hB⟩ := hrel
    by_cases hlt : i < O.length
    · obtain ⟨lb, off, c, x, ev, hx, hb, c0, c1, c2⟩ := (HO.out.grown hG.out).at i hlt
      injection ev with ev1 ev2 ev3
      subst ev1 ev3
      have HT := Lib.hid (show O.take (i + 1) = O.take i ++ [x] by rw [List.take_add_one, hx]; rfl)
      have g4 := World.grownBy_alloc wr (.cells #[.string x.t, .int .i64 x.n, .bool x.r] 36) none
      have B4 := Lib.hid (heap_alloc_new wr (.cells #[.string x.t, .int .i64 x.n, .bool x.r] 36))
      have G4 := Lib.hid (hG.out.trans g4)
      have R4 := Lib.hid (own_keep hR.out g4)
      have H4 := Lib.hid (Nat.le_trans hB.out g4.size)
      clear hx hb g4 hG hR hB
      go_upto_region 9 with fail
      generalize wr.alloc _ = w4 at B4 G4 R4 H4 ⊢
      clear c0 c1 c2
      obtain ⟨d0, d1, d2⟩ := three_li B4.out
      by_cases hz : 400 < x.t.size
      · have e2 : decide ((x.t.size : Int) > 400) = true := by simp; omega
        clear hz
        go_wp2
        go_ret
        exact ⟨rfl, G4.out⟩
      have e2 : decide ((x.t.size : Int) > 400) = false := by simp; omega
      have HS2 := Lib.hid (show ∀ y ∈ O.take (i + 1), y.t.size ≤ 400 from fun y hy => by
        rw [HT.out] at hy
        rcases List.mem_append.1 hy with h | h
        · exact hS.out y h
        · rw [List.mem_singleton.1 h]; omega)
      clear hz
      go_wp2_with (at_builtin; refine wpList_append_own _ rfl _ _ 34 rfl base 37 iu _ 3 32 Tryz.underlying34 IU.out ZU0.out ZU1.out ZU2.out rfl (by decide) _ _ _ rfl (R4.out.alloc _) ⟨_, 0, none⟩ 1 1 [.string x.t, .int .i64 x.n, .bool x.r] rfl rfl (li_new _ x _ _ (by first | rfl | simp)) (li_one x) (by unfold maxLen; omega) (by omega) (by have := H4.out; first | omega | (simp; omega)) ?_; intro v9 w9 hown9 hgrow9 _; have G9 := Lib.hid ((G4.out.trans (World.grownBy_alloc _ _ _)).andThen hgrow9 (fun k hk => .inl (by have := (R4.out.lt k hk).1; have := HBL.out; omega))); have O9 := Lib.hid hown9; have H9 := Lib.hid (Nat.le_trans H4.out (Nat.le_trans (World.grownBy_alloc w4 _ none).size hgrow9.size)); clear hown9 hgrow9)
      obtain ⟨va9, vc9, rfl⟩ := tx_shape O9.out
      have OA := Lib.hid (show w9.ownsRow base 37 3 (.slice va9 (i + 1) vc9) (i + 1) (liV (O.take (i + 1))) by rw [HT.out, liV_snoc]; exact O9.out)
      go_wp2
      go_roundw
      case rel => exact ⟨i + 1, va9, vc9, hlt, by go_num, rfl, OA, HS2, G9, H9⟩
      case measure => simp [intOf]; omega
    · obtain rfl : i = O.length := by omega
      rw [List.take_length] at hR hS
      have HLS := Lib.hid (show LiS O from ⟨by omega, fun x hx => by have := hS.out x hx; omega, by have := rcp_small hS.out; have h2 : (400 + 1) * O.length ≤ 401 * 40 := Nat.mul_le_mul (Nat.le_refl _) hs40; omega⟩)
      have HLI := Lib.hid (li_row hR.out rfl (by omega))
      have hl1 : Hid (w.grownBy wr none) := hG
      have CP := Lib.hid (hP _ O wr (HE.out _ hG.out) (HO.out.grown hG.out) HLS.out)
      go_wp2_with fail
      refine CP.out.mono ?_
      rintro e w3 ⟨g3, hout⟩
      have G3 := Lib.hid (hG.out.trans g3)
      have CD := Lib.hid (dParse19 _ O w3 (HLI.out.grown g3) HLS.out)
      have CW := Lib.hid (fun W => hW k W)
      clear CP hR hB
      cases hof : parS [] O with
      | error x =>
        obtain ⟨bad, n⟩ := x
        rw [hof] at hout CD
        obtain ⟨a, c, q, rfl, hF⟩ := hout
        have hb := par_bad _ _ _ _ (Nat.le_refl _) hof
        have HF := Lib.hid (show FltAt w3 q n (errV A bad) from hF)
        have HBD := Lib.hid (show 1 ≤ bad ∧ bad ≤ 18 from hb)
        clear hof hF hb g3
        go_wp2_with fail
        refine CD.out.mono ?_
        rintro e w4 ⟨g4, hout⟩
        have hout : e = .returned (.tuple #[.slice none 0 0, .int .i64 bad, .int .i64 n]) := hout
        subst hout
        have G4 := Lib.hid (G3.out.trans g4)
        have CS := Lib.hid (fun W (g : w4.grownBy W none) => lSameErr A bad n q a c W (hLv _ (HE.out _ (G4.out.trans g))) HBD.out.1 HBD.out.2 ((HF.out.grown g4).grown g))
        clear CD g4
        rcases word_cases k with ⟨kw1, kw2, rfl | rfl | rfl⟩ | ⟨kw | kw, hkw⟩
        case' inr.inl => rw [hkw] at CW
        case' inr.inr => rw [hkw] at CW
        all_goals
          first | rw [show wordS 1 = ⟨#[97, 115, 115, 105, 103, 110]⟩ from rfl] at CW | rw [show wordS 2 = ⟨#[114, 117, 108, 101]⟩ from rfl] at CW | rw [show wordS 3 = ⟨#[105, 110, 99, 108, 117, 100, 101]⟩ from rfl] at CW | skip
          go_wp2_with (first
            | (go_at_call 8; (with_reducible refine (CS.out _ (World.grownBy.refl w4 none)).mono ?_); rintro e w5 ⟨rfl, g5⟩; have g5 := (World.grownBy.refl w4 none).trans g5; have G5 := Lib.hid (G4.out.trans g5); clear g5)
            | (go_at_call 8; (refine (CS.out _ (World.grownBy_alloc w4 _ none)).mono ?_); rintro e w5 ⟨rfl, g5⟩; have g5 := (World.grownBy_alloc w4 _ none).trans g5; have G5 := Lib.hid (G4.out.trans g5); clear g5)
            | (go_at_call 11; (with_reducible refine (CW.out _).mono ?_); rintro e w6 ⟨rfl, g6⟩; have G6 := Lib.hid (G5.out.trans g6); clear g6))
          go_loopw [14, 15, 16, 17, 76, 83] (fun _ _ _ _ i_ _ wz => i_ = .int .i64 0 ∧ Hid (w.grownBy wz none)) (fun _ _ _ _ _ _ _ => 0)
          case atStart => exact ⟨rfl, G6⟩
          case round =>
            obtain ⟨rfl, hG⟩ := hrel
            go_wp2
            go_ret
            exact ⟨rfl, hG.out⟩
      | ok S =>
        rw [hof] at hout CD
        obtain ⟨v, L, rfl, hLR, hq⟩ := hout
        have HRW := Lib.hid (par_rows _ _ _ _ (Nat.le_refl _) (fun x hx => by have := hS.out x hx; omega) (fun y hy => by cases hy) hof)
        obtain ⟨xa, xc, rfl, -⟩ := hLR.shape
        have R3 := Lib.hid hLR
        clear hof hLR g3
        go_wp2_with fail
        refine CD.out.mono ?_
        rintro e w4 ⟨g4, hout⟩
        obtain ⟨v2, L2, rfl, hq2, ho2, hl2⟩ := hout
        obtain rfl : L2 = L := smQ_inj (hq2.trans hq.symm)
        obtain ⟨ya, yc, rfl⟩ := ho2.shape
        have G4 := Lib.hid (G3.out.trans g4)
        have R4 := Lib.hid (R3.out.grown g4)
        have D4 := Lib.hid (ho2.row (by omega))
        have CS := Lib.hid (fun W (g : w4.grownBy W none) => lSameOk L2 _ _ W (R4.out.grown g) (D4.out.grown g) (fun x hx => smL_of (HRW.out x.q (by rw [← hq]; exact List.mem_map_of_mem hx))))
        clear CD g4 hq hq2 ho2
        rcases word_cases k with ⟨kw1, kw2, rfl | rfl | rfl⟩ | ⟨kw | kw, hkw⟩
        case' inr.inl => rw [hkw] at CW
        case' inr.inr => rw [hkw] at CW
        all_goals
          first | rw [show wordS 1 = ⟨#[97, 115, 115, 105, 103, 110]⟩ from rfl] at CW | rw [show wordS 2 = ⟨#[114, 117, 108, 101]⟩ from rfl] at CW | rw [show wordS 3 = ⟨#[105, 110, 99, 108, 117, 100, 101]⟩ from rfl] at CW | skip
          go_wp2_with (first
            | (go_at_call 8; (with_reducible refine (CS.out _ (World.grownBy.refl w4 none)).mono ?_); rintro e w5 ⟨rfl, g5⟩; have g5 := (World.grownBy.refl w4 none).trans g5; have G5 := Lib.hid (G4.out.trans g5); have R5 := Lib.hid (R4.out.grown g5); have D5 := Lib.hid (D4.out.grown g5); clear g5)
            | (go_at_call 8; (refine (CS.out _ (World.grownBy_alloc w4 _ none)).mono ?_); rintro e w5 ⟨rfl, g5⟩; have g5 := (World.grownBy_alloc w4 _ none).trans g5; have G5 := Lib.hid (G4.out.trans g5); have R5 := Lib.hid (R4.out.grown g5); have D5 := Lib.hid (D4.out.grown g5); clear g5)
            | (go_at_call 11; (with_reducible refine (CW.out _).mono ?_); rintro e w6 ⟨rfl, g6⟩; have G6 := Lib.hid (G5.out.trans g6); have R6 := Lib.hid (R5.out.grown g6); have D6 := Lib.hid (D5.out.grown g6); clear g6))
          go_loopw [14, 15, 16, 17, 76, 83] (fun _ _ _ _ i_ _ wz => ∃ i : Nat, i ≤ L2.length ∧ i_ = .int .i64 i ∧ Hid (w6.grownBy wz none)) (fun _ _ _ _ i_ _ _ => L2.length - (intOf i_).toNat)
          case atStart => exact ⟨0, Nat.zero_le _, rfl, Lib.hid (World.grownBy.refl _ _)⟩
          case round =>
            obtain ⟨i, hi, rfl, hZ⟩ := hrel
            by_cases hlt2 : i < L2.length
            · obtain ⟨pb, poff, pc, x, hv, wv, ev, hx, -, hc, hrh, hrw⟩ := (R6.out.grown hZ.out).at i hlt2
              obtain ⟨qb, qoff, qc, x2, hu, wu, ev2, hx2, -, hc2, hrh2, hrw2⟩ := (D6.out.grown hZ.out).at i hlt2
              obtain rfl : x2 = x := Option.some.inj (hx2.symm.trans hx)
              injection ev with k1 k2 k3
              subst k1 k3
              injection ev2 with k4 k5 k6
              subst k4 k6
              obtain ⟨ha, hac, rfl, -⟩ := hrh.shape
              obtain ⟨wa, wac, rfl, -⟩ := hrw.shape
              obtain ⟨ka, kac, rfl, -⟩ := hrh2.shape
              obtain ⟨la, lac, rfl, -⟩ := hrw2.shape
              have c0 := hc 0 _ rfl; have c1 := hc 1 _ rfl; have c2 := hc 2 _ rfl; have c3 := hc 3 _ rfl; have c4 := hc 4 _ rfl; have c5 := hc 5 _ rfl; have c6 := hc 6 _ rfl; have c7 := hc 7 _ rfl; have c8 := hc 8 _ rfl; have c9 := hc 9 _ rfl
              rw [Nat.add_zero] at c0
              have ga := World.grownBy_alloc wr (.cells #[.int .i64 x2.k, .int .i64 x2.ln, .string x2.nm, .slice ha x2.hs.length hac, .slice wa x2.ws.length wac, .int .i64 x2.fl, .string x2.pr, .string x2.rc, .bool x2.hd, .bool x2.cm] 46) none
              have BS := Lib.hid (heap_alloc_new wr (.cells #[.int .i64 x2.k, .int .i64 x2.ln, .string x2.nm, .slice ha x2.hs.length hac, .slice wa x2.ws.length wac, .int .i64 x2.fl, .string x2.pr, .string x2.rc, .bool x2.hd, .bool x2.cm] 46))
              have Z7 := Lib.hid (hZ.out.trans ga)
              have HDX := Lib.hid (show SmAt (wr.alloc (.cells #[.int .i64 x2.k, .int .i64 x2.ln, .string x2.nm, .slice ha x2.hs.length hac, .slice wa x2.ws.length wac, .int .i64 x2.fl, .string x2.pr, .string x2.rc, .bool x2.hd, .bool x2.cm] 46)) qb (qoff + i * 10) x2 (.slice ka x2.hs.length kac) (.slice la x2.ws.length lac) from fun n u h => ga.cell (hc2 n u h) (by simp))
              have RX1 := Lib.hid (hrh.grown ga); have RX2 := Lib.hid (hrw.grown ga); have RX3 := Lib.hid (hrh2.grown ga); have RX4 := Lib.hid (hrw2.grown ga)
              clear hx hx2 hc hc2 hrh hrw hrh2 hrw2 ga hZ
              go_upto_region 23 with fail
              generalize wr.alloc _ = w7 at BS Z7 HDX RX1 RX2 RX3 RX4 ⊢
              obtain ⟨sb, esb⟩ : ∃ sb, wr.heap.size = sb := ⟨_, rfl⟩
              rw [esb] at BS ⊢
              clear esb c0 c1 c2 c3 c4 c5 c6 c7 c8 c9
              go_wp2
              go_loopw [16, 17, 83] (fun _ _ j_ wz => ∃ j : Nat, j ≤ L2.length ∧ j_ = .int .i64 j ∧ Hid (w7.grownBy wz none)) (fun _ _ j_ _ => L2.length - (intOf j_).toNat)
              case atStart => exact ⟨0, Nat.zero_le _, rfl, Lib.hid (World.grownBy.refl _ _)⟩
              case round =>
                obtain ⟨j, hj, rfl, hY⟩ := hrel
                by_cases hlt3 : j < L2.length
                · obtain ⟨pb2, poff2, pc2, y, hv2, wv2, ev3, hy, -, hc, hrh, hrw⟩ := (R6.out.grown (Z7.out.trans hY.out)).at j hlt3
                  obtain ⟨qb2, qoff2, qc2, y2, hu2, wu2, ev4, hy2, -, hc2, hrh2, hrw2⟩ := (D6.out.grown (Z7.out.trans hY.out)).at j hlt3
                  obtain rfl : y2 = y := Option.some.inj (hy2.symm.trans hy)
                  injection ev3 with k1 k2 k3
                  injection k1 with k1
                  injection k1 with k11 k12
                  subst k11 k12 k3
                  injection ev4 with k4 k5 k6
                  injection k4 with k4
                  injection k4 with k41 k42
                  subst k41 k42 k6
                  obtain ⟨ha2, hac2, rfl, -⟩ := hrh.shape
                  obtain ⟨wa2, wac2, rfl, -⟩ := hrw.shape
                  obtain ⟨ka2, kac2, rfl, -⟩ := hrh2.shape
                  obtain ⟨la2, lac2, rfl, -⟩ := hrw2.shape
                  have c0 := hc 0 _ rfl; have c1 := hc 1 _ rfl; have c2 := hc 2 _ rfl; have c3 := hc 3 _ rfl; have c4 := hc 4 _ rfl; have c5 := hc 5 _ rfl; have c6 := hc 6 _ rfl; have c7 := hc 7 _ rfl; have c8 := hc 8 _ rfl; have c9 := hc 9 _ rfl
                  rw [Nat.add_zero] at c0
                  have ga := World.grownBy_alloc wr (.cells #[.int .i64 y2.k, .int .i64 y2.ln, .string y2.nm, .slice ha2 y2.hs.length hac2, .slice wa2 y2.ws.length wac2, .int .i64 y2.fl, .string y2.pr, .string y2.rc, .bool y2.hd, .bool y2.cm] 46) none
                  have BU := Lib.hid (heap_alloc_new wr (.cells #[.int .i64 y2.k, .int .i64 y2.ln, .string y2.nm, .slice ha2 y2.hs.length hac2, .slice wa2 y2.ws.length wac2, .int .i64 y2.fl, .string y2.pr, .string y2.rc, .bool y2.hd, .bool y2.cm] 46))
                  have Y8 := Lib.hid (hY.out.trans ga)
                  have HDY := Lib.hid (fun W (g : wr.grownBy W none) => show SmAt W qb (qoff + j * 10) y2 (.slice ka2 y2.hs.length kac2) (.slice la2 y2.ws.length lac2) from fun n u h => g.cell (hc2 n u h) (by simp))
                  have GA := Lib.hid ga
                  have RY1 := Lib.hid hrh; have RY2 := Lib.hid hrw; have RY3 := Lib.hid hrh2; have RY4 := Lib.hid hrw2
                  clear hy hy2 hc hc2 hrh hrw hrh2 hrw2 ga hY
                  go_upto_region 26 with fail
                  generalize wr.alloc _ = w8 at BU Y8 GA ⊢
                  obtain ⟨ub, eub⟩ : ∃ ub, wr.heap.size = ub := ⟨_, rfl⟩
                  rw [eub] at BU ⊢
                  clear eub c0 c1 c2 c3 c4 c5 c6 c7 c8 c9
                  have EW := Lib.hid (fun u : Gr w8 => HE.out _ (G6.out.trans (Z7.out.trans (Y8.out.trans u.g))))
                  obtain ⟨z, hz⟩ : ∃ z : Bool, (z = true ↔ x2 = y2) := by
                    by_cases h : x2 = y2
                    · exact ⟨true, by simp [h]⟩
                    · exact ⟨false, by simp [h]⟩
                  have CS1 := Lib.hid (fun u : Gr w8 => (C.same x2 y2 _ _ _ _ u.W (EW.out u) (RX1.out.grown (Y8.out.trans u.g)) (RX2.out.grown (Y8.out.trans u.g)) (RY1.out.grown (GA.out.trans u.g)) (RY2.out.grown (GA.out.trans u.g))).mono (R' := fun e w' => e = .returned (.bool z) ∧ u.W.grownBy w' none) fun e w' ⟨⟨z1, h1, h2⟩, g'⟩ => ⟨by rw [h1]; congr 1; congr 1; rw [Bool.eq_iff_iff]; exact h2.trans hz.symm, g'⟩)
                  have CS2 := Lib.hid (fun u : Gr w8 => (dSame19 x2 y2 _ _ _ _ u.W (RX3.out.grown (Y8.out.trans u.g)) (RX4.out.grown (Y8.out.trans u.g)) (RY3.out.grown (GA.out.trans u.g)) (RY4.out.grown (GA.out.trans u.g))).mono (R' := fun e w' => e = .returned (.bool z) ∧ u.W.grownBy w' none) fun e w' ⟨⟨z1, h1, h2⟩, g'⟩ => ⟨by rw [h1]; congr 1; congr 1; rw [Bool.eq_iff_iff]; exact h2.trans hz.symm, g'⟩)
                  have Ts := Lib.hid (fun v : Gr w8 => ten_at (kept_at (Y8.out.trans v.g) BS.out))
                  have ms0 : ∀ v : Gr w8, v.W.cell? ⟨sb, 0, none⟩ = some (.int .i64 x2.k) := fun v => (Ts.out v).1
                  have ms1 : ∀ v : Gr w8, v.W.cell? ⟨sb, 1, none⟩ = some (.int .i64 x2.ln) := fun v => (Ts.out v).2.1
                  have ms2 : ∀ v : Gr w8, v.W.cell? ⟨sb, 2, none⟩ = some (.string x2.nm) := fun v => (Ts.out v).2.2.1
                  have ms3 : ∀ v : Gr w8, v.W.cell? ⟨sb, 3, none⟩ = some (.slice ha x2.hs.length hac) := fun v => (Ts.out v).2.2.2.1
                  have ms4 : ∀ v : Gr w8, v.W.cell? ⟨sb, 4, none⟩ = some (.slice wa x2.ws.length wac) := fun v => (Ts.out v).2.2.2.2.1
                  have ms5 : ∀ v : Gr w8, v.W.cell? ⟨sb, 5, none⟩ = some (.int .i64 x2.fl) := fun v => (Ts.out v).2.2.2.2.2.1
                  have ms6 : ∀ v : Gr w8, v.W.cell? ⟨sb, 6, none⟩ = some (.string x2.pr) := fun v => (Ts.out v).2.2.2.2.2.2.1
                  have ms7 : ∀ v : Gr w8, v.W.cell? ⟨sb, 7, none⟩ = some (.string x2.rc) := fun v => (Ts.out v).2.2.2.2.2.2.2.1
                  have ms8 : ∀ v : Gr w8, v.W.cell? ⟨sb, 8, none⟩ = some (.bool x2.hd) := fun v => (Ts.out v).2.2.2.2.2.2.2.2.1
                  have ms9 : ∀ v : Gr w8, v.W.cell? ⟨sb, 9, none⟩ = some (.bool x2.cm) := fun v => (Ts.out v).2.2.2.2.2.2.2.2.2
                  have Tu := Lib.hid (fun v : Gr w8 => ten_at (kept_at (v.g) BU.out))
                  have mu0 : ∀ v : Gr w8, v.W.cell? ⟨ub, 0, none⟩ = some (.int .i64 y2.k) := fun v => (Tu.out v).1
                  have mu1 : ∀ v : Gr w8, v.W.cell? ⟨ub, 1, none⟩ = some (.int .i64 y2.ln) := fun v => (Tu.out v).2.1
                  have mu2 : ∀ v : Gr w8, v.W.cell? ⟨ub, 2, none⟩ = some (.string y2.nm) := fun v => (Tu.out v).2.2.1
                  have mu3 : ∀ v : Gr w8, v.W.cell? ⟨ub, 3, none⟩ = some (.slice ha2 y2.hs.length hac2) := fun v => (Tu.out v).2.2.2.1
                  have mu4 : ∀ v : Gr w8, v.W.cell? ⟨ub, 4, none⟩ = some (.slice wa2 y2.ws.length wac2) := fun v => (Tu.out v).2.2.2.2.1
                  have mu5 : ∀ v : Gr w8, v.W.cell? ⟨ub, 5, none⟩ = some (.int .i64 y2.fl) := fun v => (Tu.out v).2.2.2.2.2.1
                  have mu6 : ∀ v : Gr w8, v.W.cell? ⟨ub, 6, none⟩ = some (.string y2.pr) := fun v => (Tu.out v).2.2.2.2.2.2.1
                  have mu7 : ∀ v : Gr w8, v.W.cell? ⟨ub, 7, none⟩ = some (.string y2.rc) := fun v => (Tu.out v).2.2.2.2.2.2.2.1
                  have mu8 : ∀ v : Gr w8, v.W.cell? ⟨ub, 8, none⟩ = some (.bool y2.hd) := fun v => (Tu.out v).2.2.2.2.2.2.2.2.1
                  have mu9 : ∀ v : Gr w8, v.W.cell? ⟨ub, 9, none⟩ = some (.bool y2.cm) := fun v => (Tu.out v).2.2.2.2.2.2.2.2.2
                  have md0 : ∀ v : Gr w8, v.W.cell? ⟨qb, qoff + i * 10, none⟩ = some (.int .i64 x2.k) := fun v => (Y8.out.trans v.g).cell (HDX.out 0 _ rfl) (by simp)
                  have md1 : ∀ v : Gr w8, v.W.cell? ⟨qb, qoff + i * 10 + 1, none⟩ = some (.int .i64 x2.ln) := fun v => (Y8.out.trans v.g).cell (HDX.out 1 _ rfl) (by simp)
                  have md2 : ∀ v : Gr w8, v.W.cell? ⟨qb, qoff + i * 10 + 2, none⟩ = some (.string x2.nm) := fun v => (Y8.out.trans v.g).cell (HDX.out 2 _ rfl) (by simp)
                  have md3 : ∀ v : Gr w8, v.W.cell? ⟨qb, qoff + i * 10 + 3, none⟩ = some (.slice ka x2.hs.length kac) := fun v => (Y8.out.trans v.g).cell (HDX.out 3 _ rfl) (by simp)
                  have md4 : ∀ v : Gr w8, v.W.cell? ⟨qb, qoff + i * 10 + 4, none⟩ = some (.slice la x2.ws.length lac) := fun v => (Y8.out.trans v.g).cell (HDX.out 4 _ rfl) (by simp)
                  have md5 : ∀ v : Gr w8, v.W.cell? ⟨qb, qoff + i * 10 + 5, none⟩ = some (.int .i64 x2.fl) := fun v => (Y8.out.trans v.g).cell (HDX.out 5 _ rfl) (by simp)
                  have md6 : ∀ v : Gr w8, v.W.cell? ⟨qb, qoff + i * 10 + 6, none⟩ = some (.string x2.pr) := fun v => (Y8.out.trans v.g).cell (HDX.out 6 _ rfl) (by simp)
                  have md7 : ∀ v : Gr w8, v.W.cell? ⟨qb, qoff + i * 10 + 7, none⟩ = some (.string x2.rc) := fun v => (Y8.out.trans v.g).cell (HDX.out 7 _ rfl) (by simp)
                  have md8 : ∀ v : Gr w8, v.W.cell? ⟨qb, qoff + i * 10 + 8, none⟩ = some (.bool x2.hd) := fun v => (Y8.out.trans v.g).cell (HDX.out 8 _ rfl) (by simp)
                  have md9 : ∀ v : Gr w8, v.W.cell? ⟨qb, qoff + i * 10 + 9, none⟩ = some (.bool x2.cm) := fun v => (Y8.out.trans v.g).cell (HDX.out 9 _ rfl) (by simp)
                  have mf0 : ∀ v : Gr w8, v.W.cell? ⟨qb, qoff + j * 10, none⟩ = some (.int .i64 y2.k) := fun v => HDY.out _ (GA.out.trans v.g) 0 _ rfl
                  have mf1 : ∀ v : Gr w8, v.W.cell? ⟨qb, qoff + j * 10 + 1, none⟩ = some (.int .i64 y2.ln) := fun v => HDY.out _ (GA.out.trans v.g) 1 _ rfl
                  have mf2 : ∀ v : Gr w8, v.W.cell? ⟨qb, qoff + j * 10 + 2, none⟩ = some (.string y2.nm) := fun v => HDY.out _ (GA.out.trans v.g) 2 _ rfl
                  have mf3 : ∀ v : Gr w8, v.W.cell? ⟨qb, qoff + j * 10 + 3, none⟩ = some (.slice ka2 y2.hs.length kac2) := fun v => HDY.out _ (GA.out.trans v.g) 3 _ rfl
                  have mf4 : ∀ v : Gr w8, v.W.cell? ⟨qb, qoff + j * 10 + 4, none⟩ = some (.slice la2 y2.ws.length lac2) := fun v => HDY.out _ (GA.out.trans v.g) 4 _ rfl
                  have mf5 : ∀ v : Gr w8, v.W.cell? ⟨qb, qoff + j * 10 + 5, none⟩ = some (.int .i64 y2.fl) := fun v => HDY.out _ (GA.out.trans v.g) 5 _ rfl
                  have mf6 : ∀ v : Gr w8, v.W.cell? ⟨qb, qoff + j * 10 + 6, none⟩ = some (.string y2.pr) := fun v => HDY.out _ (GA.out.trans v.g) 6 _ rfl
                  have mf7 : ∀ v : Gr w8, v.W.cell? ⟨qb, qoff + j * 10 + 7, none⟩ = some (.string y2.rc) := fun v => HDY.out _ (GA.out.trans v.g) 7 _ rfl
                  have mf8 : ∀ v : Gr w8, v.W.cell? ⟨qb, qoff + j * 10 + 8, none⟩ = some (.bool y2.hd) := fun v => HDY.out _ (GA.out.trans v.g) 8 _ rfl
                  have mf9 : ∀ v : Gr w8, v.W.cell? ⟨qb, qoff + j * 10 + 9, none⟩ = some (.bool y2.cm) := fun v => HDY.out _ (GA.out.trans v.g) 9 _ rfl
                  have inst : Nonempty (Gr w8) := ⟨⟨w8, World.grownBy.refl _ _⟩⟩
                  refine wp_region_grows (by kernel_rfl) (by kernel_rfl) ?_
                  repeat (go_big_quiet_step (first
                    | (go_at_call 12; refine (CS1.out _).mono ?_; rintro e w9 ⟨he, g9⟩; exact ⟨he, ⟨_, (Gr.g _).trans g9⟩, rfl⟩)
                    | (go_at_call 13; refine (CS2.out _).mono ?_; rintro e w9 ⟨he, g9⟩; exact ⟨he, ⟨_, (Gr.g _).trans g9⟩, rfl⟩)))
                  refine wpQuiet_nil ?_
                  rintro _ ⟨⟨w9, g9⟩, rfl⟩
                  have Y9 := Lib.hid (Y8.out.trans g9)
                  clear inst g9 hz CS1 CS2 EW
                  go_wp2
                  go_roundw
                  case rel => exact ⟨j + 1, by omega, by go_num, Y9⟩
                  case measure => simp [intOf]; omega
                · have Z9 := Lib.hid (Z7.out.trans hY.out)
                  go_wp2
                  go_roundw
                  case rel => exact ⟨i + 1, by omega, by go_num, Z9⟩
                  case measure => simp [intOf]; omega
            · have GF := Lib.hid (G6.out.trans hZ.out)
              go_wp2
              go_ret
              exact ⟨rfl, GF.out⟩
end Go.Proofs.YtdganemgldocoaaGreatDoor

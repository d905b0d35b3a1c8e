/- What is set is found, and all others as they were. No condition on the members. -/
import Derived.Test.YtgicfbhhnohndaaGreatDoorArX
import Derived.Test.YtgicfbhhnohndaaGreatDoorArR
namespace Go.Proofs.YtgicfbhhnohndaaGreatDoor.arSets
open Go.RowKit

set_option maxRecDepth 100000 in
set_option maxHeartbeats 4000000 in
theorem walk (v : Value) (l : List Mb) (m : Mb) (A : Nat → Addr) (w : World) (hR : MRow w v l) (hmn : m.n.size ≤ maxLen) (hmc : m.c.size ≤ maxLen) (hE : Env A w) :
    Calls Tryz.prog 5 #[v, valM m] w fun e w' => e = .returned (.bool true) ∧ w.grownBy w' none := by
  have HE := Lib.hid hE
  have HR := Lib.hid hR
  have MS := Lib.hid (show m.n.size ≤ maxLen ∧ m.c.size ≤ maxLen from ⟨hmn, hmc⟩)
  obtain ⟨a, c, rfl, hn, -, -⟩ := hR
  have HB := Lib.hid (box_new w m)
  have G0 := Lib.hid (World.grownBy_alloc w (.cells #[.string m.n, .int .i64 m.t, .string m.c] 35) none)
  clear hE hmn hmc
  have HLG := Lib.hid (show ∀ W, MRow W (.slice a l.length c) l → Calls Tryz.prog 7 #[.slice a l.length c, .int .i64 20] W fun e w' => e = .returned (.bool (longM 20 l)) ∧ W.grownBy w' none from fun W hW => lLongA _ l 20 W hW)
  have HLO := Lib.hid (show ∀ W q, MRow W (.slice q 1 1) [m] → Calls Tryz.prog 7 #[.slice q 1 1, .int .i64 1] W fun e w' => e = .returned (.bool (longM 1 [m])) ∧ W.grownBy w' none from fun W q hW => lLongA _ [m] 1 W hW)
  unfold valM
  go_enter Tryz.func5, Tryz.ntmps5
  go_wp2_with fail
  generalize (w.alloc (.cells #[.string m.n, .int .i64 m.t, .string m.c] 35)) = w0 at *
  generalize w.heap.size = p at *
  refine (lAliveA A w0 (HE.out.grown G0.out)).mono ?_
  rintro e w1 ⟨rfl, g1⟩
  have G1 := Lib.hid (G0.out.trans g1)
  have B1 := Lib.hid (HB.out.kept g1)
  clear g1 HB G0
  go_wp2_with fail
  refine (HLG.out _ (HR.out.grown G1.out)).mono ?_
  rintro e w2 ⟨rfl, g2⟩
  have G2 := Lib.hid (G1.out.trans g2)
  have B2 := Lib.hid (B1.out.kept g2)
  clear g2 HLG G1 B1
  cases hL : longM 20 l
  case true =>
    go_wp2
    go_ret
    exact ⟨rfl, G2.out⟩
  obtain ⟨b0, b1, b2, -, -, -⟩ := B2.out.cells
  have ONE := Lib.hid (mrow_one w2 m MS.out.1 MS.out.2 35)
  have GO := Lib.hid (G2.out.trans (World.grownBy_alloc w2 (.cells #[.string m.n, .int .i64 m.t, .string m.c] 35) none))
  have BO := Lib.hid (B2.out.kept (World.grownBy_alloc w2 (.cells #[.string m.n, .int .i64 m.t, .string m.c] 35) none))
  go_wp2_with fail
  generalize (w2.alloc (.cells #[.string m.n, .int .i64 m.t, .string m.c] 35)) = wo at *
  generalize w2.heap.size = po at *
  refine (HLO.out _ _ ONE.out).mono ?_
  rintro e w3 ⟨rfl, g3⟩
  have G3 := Lib.hid (GO.out.trans g3)
  have B3 := Lib.hid (BO.out.kept g3)
  clear g3 HLO G2 B2 b0 b1 b2 ONE GO BO
  cases hL1 : longM 1 [m]
  case true =>
    go_wp2
    go_ret
    exact ⟨rfl, G3.out⟩
  have SH := longM_short hL
  have SH1 := longM_short hL1
  have hl20 : l.length ≤ 20 := SH.1
  have hm1 := SH1.2 m (by simp)
  have hmn : m.n.size ≤ 100 := hm1.1
  have hmc : m.c.size ≤ 1000 := hm1.2
  have SUM := Lib.hid (show sumM l ≤ 10000000 by have := sumM_bound hl20 (fun m hm => (SH.2 m hm).2); omega)
  clear SH SH1 hm1 hL hL1
  by_cases hk : makeE l = 0
  case neg =>
    have HM := Lib.hid (fun (W : World) (hW : MRow W (.slice a l.length c) l) (hE : Env A W) => aMake_no _ l A W hW hE SUM.out hk)
    go_wp2_with fail
    refine (HM.out _ (HR.out.grown G3.out) (HE.out.grown G3.out)).mono ?_
    rintro e w4 ⟨rfl, g4⟩
    have G4 := Lib.hid (G3.out.trans g4)
    clear g4
    go_wp2
    go_ret
    exact ⟨rfl, G4.out⟩
  obtain ⟨x, hx, -⟩ := some_ba (makeL l)
  have ARX := Lib.hid (show Arch x l from ⟨hk, hx⟩)
  have HM := Lib.hid (fun (W : World) (hW : MRow W (.slice a l.length c) l) (hE : Env A W) => aMake_yes _ l A W hW hE hk hx)
  have hx9 : x.size ≤ 900 := arch_len ARX.out
  have hx1 : x.toList.isEmpty = false := by
    rw [Lib.toList_data, hx]; rfl
  have HST := Lib.hid (show archOf (startOf x) = some l by unfold startOf; rw [if_neg (by rw [hx1]; decide)]; exact archOf_some ARX.out)
  clear hx SUM hk
  go_wp2_with fail
  refine (HM.out _ (HR.out.grown G3.out) (HE.out.grown G3.out)).mono ?_
  rintro e w4 ⟨rfl, g4⟩
  have G4 := Lib.hid (G3.out.trans g4)
  have B4 := Lib.hid (B3.out.kept g4)
  clear g4 G3 B3 HM
  obtain ⟨b0, b1, b2, -, -, -⟩ := B4.out.cells
  by_cases hq : makeE (setM l m) = 0
  case neg =>
    have WHY := Lib.hid (set_why ARX.out hq)
    have HS := Lib.hid (fun (W : World) (hW : Env A W) => aSet_no (w := W) hW (show x.size ≤ maxLen by unfold maxLen; omega) MS.out.1 (by omega) HST.out hq)
    unfold valM at HS
    go_wp2_with fail
    refine (HS.out _ (HE.out.grown G4.out)).mono ?_
    rintro e w5 ⟨rfl, g5⟩
    have G5 := Lib.hid (G4.out.trans g5)
    have B5 := Lib.hid (B4.out.kept g5)
    clear g5 G4 B4 HS b0 b1 b2
    obtain ⟨b0, b1, b2, -, -, -⟩ := B5.out.cells
    cases hnm : nameB m.n
    · go_wp2_with (go_at_call 18; refine (rNamed _ _ MS.out.1).mono ?_; rintro e w' ⟨rfl, rfl⟩)
      go_ret
      exact ⟨rfl, G5.out⟩
    by_cases t1 : m.t < 1
    · go_wp2_with (go_at_call 18; refine (rNamed _ _ MS.out.1).mono ?_; rintro e w' ⟨rfl, rfl⟩)
      go_ret
      exact ⟨rfl, G5.out⟩
    by_cases t2 : 549755813888 < m.t
    · go_wp2_with (go_at_call 18; refine (rNamed _ _ MS.out.1).mono ?_; rintro e w' ⟨rfl, rfl⟩)
      go_ret
      exact ⟨rfl, G5.out⟩
    have h9 : (900 : Int) < (x.size : Int) + ((sizeM m : Nat) : Int) := by
      rcases WHY.out with h | h | h | h
      · rw [hnm] at h; cases h
      · exact absurd h t1
      · exact absurd h t2
      · omega
    have hz : sizeM m ≤ 2000 := by unfold sizeM; omega
    have HSZ := Lib.hid (fun (W : World) => aSize m W (by omega))
    unfold valM at HSZ
    generalize sizeM m = z at *
    go_wp2_with (first
      | (go_at_call 18; refine (rNamed _ _ MS.out.1).mono ?_; rintro e w' ⟨rfl, rfl⟩)
      | (go_at_call 12; refine (HSZ.out _).mono ?_; rintro e w6 ⟨rfl, g6⟩; have G6 := Lib.hid (G5.out.trans g6); clear g6))
    go_ret
    exact ⟨rfl, G6.out⟩
  obtain ⟨y, hy, -⟩ := some_ba (makeL (setM l m))
  have ARY := Lib.hid (show archOf y = some (setM l m) from archOf_some ⟨hq, hy⟩)
  have hy9 : y.size ≤ 900 := arch_len ⟨hq, hy⟩
  have hy9' : y.size ≤ maxLen := by unfold maxLen; omega
  have HS := Lib.hid (fun (W : World) (hW : Env A W) => aSet_yes (w := W) hW (show x.size ≤ maxLen by unfold maxLen; omega) MS.out.1 (by omega) HST.out hq hy)
  obtain ⟨z, hz, -⟩ := some_ba (makeL [m])
  have h1 : makeE [m] = 0 := one_alone (setM_self l m) hq
  have HS0 := Lib.hid (fun (W : World) (hW : Env A W) => aSet_yes (s := ⟨#[]⟩) (l := []) (m := m) (w := W) hW (by decide) MS.out.1 (by omega) (by unfold startOf; rw [if_pos (by rw [Lib.toList_data]; rfl)]; exact arch_start) (by rw [setM_nil]; exact h1) (y := z) (by rw [setM_nil]; exact hz))
  have HSX := Lib.hid (fun (W : World) (hW : Env A W) => aSet_form (s := ⟨#[120]⟩) (m := m) (w := W) hW (by decide) (arch_no _ (by decide)) (by rw [Lib.toList_data]; rfl))
  have HM1 := Lib.hid (fun (W : World) (q : Option Addr) (hW : MRow W (.slice q 1 1) [m]) (hE : Env A W) => aMake_yes _ [m] A W hW hE h1 hz)
  have HF := Lib.hid (fun (W : World) (hW : Env A W) => aFind_yes (w := W) hW hy9' (found_mem ARY.out (setM_self l m)))
  have HFO := Lib.hid (show ∀ (k : Mb) (o : Option Mb), foundM y k.n = o → ∀ W, Env A W → Calls Tryz.prog 15 #[.string y, .string k.n] W fun e w' => e = .returned (.tuple #[valM (o.getD nilM), .bool o.isSome]) ∧ W.grownBy w' none from fun k o h W hW => aFindV hW hy9' h)
  have OTH := Lib.hid (show ∀ k ∈ l, k.n ≠ m.n → foundM y k.n = some k from fun k hk hne => found_mem ARY.out (setM_other hk hne))
  clear hy hz hq h1 HST ARX hx1 ARY
  unfold valM at HS HS0 HSX HF
  go_wp2_with fail
  refine (HS.out _ (HE.out.grown G4.out)).mono ?_
  rintro e w5 ⟨rfl, g5⟩
  have G5 := Lib.hid (G4.out.trans g5)
  have B5 := Lib.hid (B4.out.kept g5)
  clear g5 G4 B4 HS b0 b1 b2
  obtain ⟨b0, b1, b2, -, -, -⟩ := B5.out.cells
  go_wp2_with fail
  refine (HF.out _ (HE.out.grown G5.out)).mono ?_
  rintro e w6 ⟨rfl, g6⟩
  have G6 := Lib.hid (G5.out.trans g6)
  have B6 := Lib.hid (B5.out.kept g6)
  clear g6 G5 B5 HF b0 b1 b2
  obtain ⟨b0, b1, b2, -, -, -⟩ := B6.out.cells
  have hnq := fun W => neqM m m W
  rw [eqMb_self, Bool.not_true] at hnq
  have hgd := guardM
  have d0 := fun v => cell_al (o := v) b0
  have d1 := fun v => cell_al (o := v) b1
  have d2 := fun v => cell_al (o := v) b2
  have G7 := Lib.hid (G6.out.trans (World.grownBy_alloc w6 (.cells #[.string m.n, .int .i64 m.t, .string m.c] 35) none))
  have B7 := Lib.hid (B6.out.kept (World.grownBy_alloc w6 (.cells #[.string m.n, .int .i64 m.t, .string m.c] 35) none))
  go_wp2
  clear hnq hgd b0 b1 b2 d0 d1 d2
  go_loopw [11, 12, 13, 87] (fun _ _ _ i wr => ∃ j : Nat, j ≤ l.length ∧ i = .int .i64 j ∧ Hid (w.grownBy wr none) ∧ Hid (BoxM wr p m)) (fun _ _ _ i _ => l.length - (intOf i).toNat)
  case atStart => exact ⟨0, Nat.zero_le _, rfl, G7, B7⟩
  case round =>
    obtain ⟨j, hj, rfl, hG, hB⟩ := hrel
    by_cases hlt : j < l.length
    · obtain ⟨b, off, c', q, e, hm, -, -, hb, c0, c1, c2⟩ := (HR.out.grown hG.out).at j hlt
      cases e
      have HIN := Lib.hid (List.mem_of_getElem? hm)
      have BX := Lib.hid (box_new wr q)
      have BP := Lib.hid (hB.out.kept (World.grownBy_alloc wr (.cells #[.string q.n, .int .i64 q.t, .string q.c] 35) none))
      have GX := Lib.hid (hG.out.trans (World.grownBy_alloc wr (.cells #[.string q.n, .int .i64 q.t, .string q.c] 35) none))
      clear hm hG hB
      go_wp2_with fail
      generalize (wr.alloc (.cells #[.string q.n, .int .i64 q.t, .string q.c] 35)) = wx at *
      generalize wr.heap.size = pq at *
      clear c0 c1 c2 hb
      cases hq : (q.n.toList == m.n.toList)
      · have HFQ := Lib.hid (HFO.out q (some q) (OTH.out q HIN.out (ne_of_toList.1 hq)))
        simp only [Option.getD_some, Option.isSome_some, valM] at HFQ
        have hnq := fun W => neqM q q W
        rw [eqMb_self, Bool.not_true] at hnq
        have hgd := guardM
        refine (HFQ.out _ (HE.out.grown GX.out)).mono ?_
        rintro e w8 ⟨rfl, g8⟩
        obtain ⟨x0, x1, x2, -, -, -⟩ := (BX.out.kept g8).cells
        obtain ⟨b0, b1, b2, -, -, -⟩ := (BP.out.kept g8).cells
        have y0 := fun v => cell_al (o := v) x0
        have y1 := fun v => cell_al (o := v) x1
        have y2 := fun v => cell_al (o := v) x2
        have d0 := fun v => cell_al (o := v) b0
        have G8 := Lib.hid ((GX.out.trans g8).trans (World.grownBy_alloc w8 (.cells #[.string q.n, .int .i64 q.t, .string q.c] 35) none))
        have B8 := Lib.hid ((BP.out.kept g8).kept (World.grownBy_alloc w8 (.cells #[.string q.n, .int .i64 q.t, .string q.c] 35) none))
        clear g8 GX BX BP HFQ
        go_wp2
        go_roundw
        case rel => exact ⟨j + 1, by omega, by go_num, G8, B8⟩
        case measure => simp [intOf]; omega
      · obtain ⟨o, ho⟩ : ∃ o, foundM y q.n = o := ⟨_, rfl⟩
        have HFQ := Lib.hid (HFO.out q o ho)
        clear ho
        generalize o.getD nilM = mv at *
        generalize o.isSome = ob at *
        unfold valM at HFQ
        refine (HFQ.out _ (HE.out.grown GX.out)).mono ?_
        rintro e w8 ⟨rfl, g8⟩
        obtain ⟨x0, x1, x2, -, -, -⟩ := (BX.out.kept g8).cells
        obtain ⟨b0, b1, b2, -, -, -⟩ := (BP.out.kept g8).cells
        have y0 := fun v => cell_al (o := v) x0
        have d0 := fun v => cell_al (o := v) b0
        have G8 := Lib.hid ((GX.out.trans g8).trans (World.grownBy_alloc w8 (.cells #[.string mv.n, .int .i64 mv.t, .string mv.c] 35) none))
        have B8 := Lib.hid ((BP.out.kept g8).kept (World.grownBy_alloc w8 (.cells #[.string mv.n, .int .i64 mv.t, .string mv.c] 35) none))
        clear g8 GX BX BP HFQ
        go_wp2
        go_roundw
        case rel => exact ⟨j + 1, by omega, by go_num, G8, B8⟩
        case measure => simp [intOf]; omega
    · clear HFO OTH HR
      obtain ⟨b0, b1, b2, -, -, -⟩ := hB.out.cells
      go_wp2_with fail
      refine (HS0.out _ (HE.out.grown hG.out)).mono ?_
      rintro e w8 ⟨rfl, g8⟩
      have G8 := Lib.hid (hG.out.trans g8)
      have B8 := Lib.hid (hB.out.kept g8)
      clear g8 hG hB b0 b1 b2 HS0
      obtain ⟨b0, b1, b2, -, -, -⟩ := B8.out.cells
      go_wp2_with fail
      refine (HSX.out _ (HE.out.grown G8.out)).mono ?_
      rintro e w9 ⟨rfl, g9⟩
      have G9 := Lib.hid (G8.out.trans g9)
      have B9 := Lib.hid (B8.out.kept g9)
      clear g9 G8 B8 b0 b1 b2 HSX
      obtain ⟨b0, b1, b2, -, -, -⟩ := B9.out.cells
      have ONE := Lib.hid (mrow_one w9 m MS.out.1 MS.out.2 35)
      have GO := Lib.hid (G9.out.trans (World.grownBy_alloc w9 (.cells #[.string m.n, .int .i64 m.t, .string m.c] 35) none))
      go_wp2_with fail
      generalize (w9.alloc (.cells #[.string m.n, .int .i64 m.t, .string m.c] 35)) = wo at *
      generalize w9.heap.size = po at *
      refine (HM1.out _ _ ONE.out (HE.out.grown GO.out)).mono ?_
      rintro e w10 ⟨rfl, g10⟩
      have G10 := Lib.hid (GO.out.trans g10)
      clear g10 b0 b1 b2 HM1 GO G9 B9 ONE
      have HN := Lib.hid (lNum A 3 (by decide) (by decide) w10 (HE.out.grown G10.out).err)
      go_wp2_with (go_at_call 11; refine (HN.out).mono ?_; rintro e w11 ⟨rfl, g11⟩; have G11 := Lib.hid (G10.out.trans g11); clear g11)
      go_ret
      exact ⟨rfl, G11.out⟩
end Go.Proofs.YtgicfbhhnohndaaGreatDoor.arSets

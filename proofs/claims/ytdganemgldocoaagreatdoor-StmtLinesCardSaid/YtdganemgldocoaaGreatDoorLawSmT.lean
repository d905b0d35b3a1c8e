/- The chapter's example of layer 19. The law StmtTexts, walked: the statements of every text. -/
import Derived.Test.YtdganemgldocoaaGreatDoorSmOut
namespace Go.Proofs.YtdganemgldocoaaGreatDoor
open Go.RowKit

def exS : ByteArray := ⟨#[120, 32, 61, 32, 97, 32, 98, 10, 97, 58, 86, 58, 32, 98, 10, 9, 109, 97, 107, 101, 32, 97, 10]⟩
theorem ex_spl : spL exS.data.toList = .ok [⟨[120, 32, 61, 32, 97, 32, 98], 1, false⟩, ⟨[97, 58, 86, 58, 32, 98], 2, false⟩, ⟨[109, 97, 107, 101, 32, 97], 3, true⟩] := by rfl
theorem fn_skip {sg : UInt8 → Bool} {b : UInt8} {r : List UInt8} (hb : blkQ b = true) : fnQ sg (b :: r) = (fnQ sg r).map (· + 1) := by rw [fnQ, if_pos hb]
theorem fn_on {sg : UInt8 → Bool} {b : UInt8} {r : List UInt8} (hb : blkQ b = false) (hp : plcQ b = true) (hs : sg b = false) : fnQ sg (b :: r) = (fnQ sg r).map (· + 1) := by
  rw [fnQ, if_neg (by rw [hb]; simp), if_pos hp, if_neg (by rw [hs]; simp)]
theorem fn_hit {sg : UInt8 → Bool} {b : UInt8} {r : List UInt8} (hb : blkQ b = false) (hp : plcQ b = true) (hs : sg b = true) : fnQ sg (b :: r) = some 0 := by
  rw [fnQ, if_neg (by rw [hb]; simp), if_pos hp, if_pos hs]
theorem fn_nil {sg : UInt8 → Bool} : fnQ sg [] = none := by rw [fnQ]
theorem wd_b {W : List Pq} {O : List (List Pq)} {b : UInt8} {r : List UInt8} (hb : blkQ b = true) : wdQ W O (b :: r) = wdQ [] (flW W O) r := by rw [wdQ, if_pos hb]
theorem wd_p {W : List Pq} {O : List (List Pq)} {b : UInt8} {r r2 : List UInt8} {p : Pq} (hb : blkQ b = false) (h : onQ (b :: r) = .ok (p, r2)) (hl : r2.length < r.length + 1) : wdQ W O (b :: r) = wdQ (W ++ [p]) O r2 := by
  rw [wdQ, if_neg (by rw [hb]; simp), h]
  simp only
  rw [if_pos hl]
theorem wd_n {W : List Pq} {O : List (List Pq)} : wdQ W O [] = .ok (flW W O) := by rw [wdQ]
theorem ex_one : oneS [120, 32, 61, 32, 97, 32, 98] = .ok ⟨1, 0, [120], [], [[⟨0, [97], [], []⟩], [⟨0, [98], [], []⟩]], 0, [], [], false, false⟩ := by
  have hf : fnQ sgS [120, 32, 61, 32, 97, 32, 98] = some 2 := by
    rw [fn_on (by decide) (by decide) (by decide), fn_skip (by decide), fn_hit (by decide) (by decide) (by decide)]; rfl
  have hw : wdQ [] [] [32, 97, 32, 98] = .ok [[⟨0, [97], [], []⟩], [⟨0, [98], [], []⟩]] := by
    rw [wd_b (by decide), wd_p (by decide) (show onQ [97, 32, 98] = .ok (⟨0, [97], [], []⟩, [32, 98]) by rfl) (by decide), wd_b (by decide), wd_p (by decide) (show onQ [98] = .ok (⟨0, [98], [], []⟩, []) by rfl) (by decide), wd_n]
    rfl
  have hh : hidS [32, 97, 32, 98] = (false, [32, 97, 32, 98]) := by
    unfold hidS
    rw [fn_skip (by decide), fn_on (by decide) (by decide) (by decide), fn_skip (by decide), fn_on (by decide) (by decide) (by decide), fn_nil]
    rfl
  unfold oneS
  rw [if_neg (by decide), hf]
  show asgS [120, 32] [32, 97, 32, 98] = _
  unfold asgS
  rw [if_neg (by decide), hh, hw]
  rfl
theorem ex_two : oneS [97, 58, 86, 58, 32, 98] = .ok ⟨2, 0, [], [[⟨0, [97], [], []⟩]], [[⟨0, [98], [], []⟩]], 128, [], [], false, false⟩ := by
  have hf : fnQ sgS [97, 58, 86, 58, 32, 98] = some 1 := by
    rw [fn_on (by decide) (by decide) (by decide), fn_hit (by decide) (by decide) (by decide)]; rfl
  have hw : wdQ [] [] [97] = .ok [[⟨0, [97], [], []⟩]] := by
    rw [wd_p (by decide) (show onQ [97] = .ok (⟨0, [97], [], []⟩, []) by rfl) (by decide), wd_n]; rfl
  have hw2 : wdQ [] [] [32, 98] = .ok [[⟨0, [98], [], []⟩]] := by
    rw [wd_b (by decide), wd_p (by decide) (show onQ [98] = .ok (⟨0, [98], [], []⟩, []) by rfl) (by decide), wd_n]; rfl
  have ha : atrS [86, 58, 32, 98] = .ok (128, [], [32, 98]) := by rfl
  unfold oneS
  rw [if_neg (by decide), hf]
  show rulS [97] [86, 58, 32, 98] = _
  unfold rulS
  rw [hw]
  simp only
  rw [if_neg (by decide), ha]
  simp only
  rw [hw2]
theorem of_alive : ofS exS.data.toList = .ok [⟨1, 1, [120], [], [[⟨0, [97], [], []⟩], [⟨0, [98], [], []⟩]], 0, [], [], false, false⟩, ⟨2, 2, [], [[⟨0, [97], [], []⟩]], [[⟨0, [98], [], []⟩]], 128, [], [109, 97, 107, 101, 32, 97, 10], false, false⟩] := by
  unfold ofS
  rw [ex_spl]
  simp only [List.map_cons, List.map_nil, Lq.i]
  rw [par_one rfl (by decide) ex_one, if_neg (by decide), par_one rfl (by decide) ex_two, if_pos (by decide)]
  show parS _ [] = _
  rw [parS]
  rfl
set_option maxRecDepth 100000 in
set_option maxHeartbeats 4000000 in
theorem lAlive19 {A : Nat → Addr} {E : World → Prop} (C : SmC A E) (w : World) (hE : E w) : Calls Tryz.prog 5 #[] w fun e w' => e = .returned (.bool true) ∧ w.grownBy w' none := by
  have CO := Lib.hid (C.of exS w hE (by decide))
  clear hE
  go_enter Tryz.func5, Tryz.ntmps5
  go_wp2_with fail
  refine CO.out.mono ?_
  rintro e w1 ⟨g1, hout⟩
  have G1 := Lib.hid g1
  rw [of_alive] at hout
  obtain ⟨v, L, rfl, hR, hq⟩ := hout
  obtain ⟨x, y, rfl⟩ : ∃ x y, L = [x, y] := by
    have hl := congrArg List.length hq
    rw [List.length_map] at hl
    match L, hl with
    | [x, y], _ => exact ⟨x, y, rfl⟩
  simp only [smQ, List.map_cons, List.map_nil, Sb.q, List.cons.injEq, Sm.mk.injEq, and_true] at hq
  obtain ⟨⟨x1, -, -, -, x5, -, -, -, -, -⟩, -, -, -, -, -, y6, -, y8, -, -⟩ := hq
  obtain ⟨b, off, c, x', hv, wv, ev, hx, hb, hc, -, hw⟩ := hR.at 0 (by simp)
  obtain ⟨b2, off2, c2, y', hu, wu, ev2, hy, hb2, hc2, -, -⟩ := hR.at 1 (by simp)
  obtain rfl : x = x' := Option.some.inj hx
  obtain rfl : y = y' := Option.some.inj hy
  rw [ev] at ev2
  injection ev2 with k1 k2 k3
  injection k1 with k1
  injection k1 with k4 k5
  subst k4 k5
  subst ev
  have hwl : x.ws.length = 2 := by have := congrArg List.length x5; rw [List.length_map] at this; exact this
  obtain ⟨wa, wc, rfl, -⟩ := hw.shape
  rw [hwl] at hc
  have c0 := hc 0 _ rfl
  have c4 := hc 4 _ rfl
  have d5 := hc2 5 _ rfl
  have d7 := hc2 7 _ rfl
  rw [x1] at c0
  rw [y6] at d5
  rw [ba_of y8] at d7
  rw [Nat.zero_mul, Nat.add_zero] at c0
  rw [Nat.zero_mul, Nat.add_zero] at c4
  rw [Nat.one_mul] at d5 d7
  clear hR hc hc2 hw hx hy g1 CO
  simp only [List.length_cons, List.length_nil]
  go_wp2
  go_ret
  exact ⟨rfl, G1.out⟩
set_option maxRecDepth 100000 in
set_option maxHeartbeats 8000000 in
theorem lStmtTexts {A : Nat → Addr} {E : World → Prop} (C : SmC A E) (hLv : ∀ w, E w → LEnv A w) (s : ByteArray) (w : World) (hE : E w) : Calls Tryz.prog 3 #[.string s] w fun e w' => e = .returned (.bool true) ∧ w.grownBy w' none := by
  have CA := Lib.hid (lAlive19 C w hE)
  by_cases hs : 5000 < s.size
  · have e1 : decide ((s.size : Int) > 5000) = true := by simp; omega
    clear hs
    go_enter Tryz.func3, Tryz.ntmps3
    go_wp2_with (go_at_call 5; (with_reducible refine CA.out.mono ?_); rintro e w1 ⟨rfl, g1⟩; have G1 := Lib.hid g1; clear g1)
    go_ret
    exact ⟨rfl, G1.out⟩
  have hs5 : s.size ≤ 5000 := by omega
  have CO := Lib.hid (fun W (g : w.grownBy W none) => C.of s W (C.gr _ _ hE g) hs5)
  have CD := Lib.hid (fun W => dOf19 s W hs5)
  have HL := Lib.hid (fun W (g : w.grownBy W none) => hLv W (C.gr _ _ hE g))
  clear hs hE
  go_enter Tryz.func3, Tryz.ntmps3
  go_upto_region 5 with (go_at_call 5; (with_reducible refine CA.out.mono ?_); rintro e w1 ⟨rfl, g1⟩; have G1 := Lib.hid g1; clear g1)
  go_wp2_with fail
  refine (CO.out _ G1.out).mono ?_
  rintro e w2 ⟨g2, hout⟩
  have G2 := Lib.hid (G1.out.trans g2)
  have CD2 := Lib.hid (CD.out w2)
  cases hof : ofS s.data.toList with
  | error x =>
    obtain ⟨bad, n⟩ := x
    rw [hof] at hout CD2
    obtain ⟨a, c, q, rfl, hF⟩ := hout
    have hb := of_bad hof
    have HF := Lib.hid (show FltAt w2 q n (errV A bad) from hF)
    have HB := Lib.hid (show 1 ≤ bad ∧ bad ≤ 18 from hb)
    clear hof hF hb CO CD CA
    go_wp2_with fail
    refine CD2.out.mono ?_
    rintro e w3 ⟨g3, hout⟩
    have hout : e = .returned (.tuple #[.slice none 0 0, .int .i64 bad, .int .i64 n]) := hout
    subst hout
    have G3 := Lib.hid (G2.out.trans g3)
    have CS := Lib.hid (lSameErr A bad n q a c w3 (HL.out _ G3.out) HB.out.1 HB.out.2 (HF.out.grown g3))
    clear CD2 g3
    go_wp2_with (go_at_call 8; (with_reducible refine CS.out.mono ?_); rintro e w4 ⟨rfl, g4⟩; have G4 := Lib.hid (G3.out.trans g4); clear g4)
    go_ret
    exact ⟨rfl, G4.out⟩
  | ok S =>
    rw [hof] at hout CD2
    obtain ⟨v, L, rfl, hR, hq⟩ := hout
    have HR := Lib.hid hR
    have HRW := Lib.hid (of_rows hof)
    obtain ⟨va, vc, rfl, -⟩ := hR.shape
    clear hof hR CO CD CA
    go_wp2_with fail
    refine CD2.out.mono ?_
    rintro e w3 ⟨g3, hout⟩
    obtain ⟨v2, L2, rfl, hq2, ho2, hl2⟩ := hout
    obtain rfl : L2 = L := smQ_inj (hq2.trans hq.symm)
    obtain ⟨ua, uc, rfl⟩ := ho2.shape
    have G3 := Lib.hid (G2.out.trans g3)
    have CS := Lib.hid (lSameOk L2 _ _ w3 (HR.out.grown g3) (ho2.row (by omega)) (fun x hx => smL_of (HRW.out x.q (by rw [← hq]; exact List.mem_map_of_mem hx))))
    clear CD2 g3 hq hq2 ho2
    go_wp2_with (go_at_call 8; (with_reducible refine CS.out.mono ?_); rintro e w4 ⟨rfl, g4⟩; have G4 := Lib.hid (G3.out.trans g4); clear g4)
    go_ret
    exact ⟨rfl, G4.out⟩
end Go.Proofs.YtdganemgldocoaaGreatDoor

/- Walks of the document's layer 4: Set. -/
import Derived.Test.YtbcemenfklgnkaaGreatDoorStatB
import Derived.Test.YtbcemenfklgnkaaGreatDoorWalkE
import Derived.Test.YtbcemenfklgnkaaGreatDoorArV
import Derived.Test.YtbcemenfklgnkaaGreatDoorRefR
namespace Go.Proofs.YtbcemenfklgnkaaGreatDoor
open Go.RowKit Go.Maps

theorem rmem_call {s : ByteArray} (w : World) (hs : s.size ≤ maxLen) (h : memB s = true) :
    Calls Tryz.prog 25 #[.string s] w fun e w' => e = .returned (.tuple #[.string (libB s), .string (meB s), .bool true]) ∧ w.grownBy w' none :=
  (rMember_yes s w hs h).mono fun e w' ⟨he, n, hw⟩ => ⟨he, by rw [hw]; exact grown_drewN (World.grownBy.refl _ _) n⟩

set_option maxRecDepth 100000 in
set_option maxHeartbeats 1000000 in
theorem rContent (q : Nat) (l : List Fl) (s : ByteArray) (w : World) (h : RTree w q l) :
    Calls Tryz.prog 74 #[.pointer (some ⟨q, 0, none⟩), .string s] w fun e w' => e = .returned (.string (getL l s).c) ∧ w.grownBy w' none := by
  have HT := Lib.hid h
  have hat := fun (W : World) (hW : RTree W q l) => rAt q l s W hW
  clear h
  rcases at_cases l s with ⟨hq, hi⟩ | ⟨k, f, hk, hf, -, hi, hg, -⟩
  · rw [hi] at hat
    rw [getL_not hq]
    have HAT := Lib.hid hat
    clear hat hi hq
    go_enter Tryz.func74, Tryz.ntmps74
    go_wp2_with (go_at_call 32; refine (HAT.out _ HT.out).mono ?_; rintro e w1 ⟨rfl, g1⟩; have G1 := Lib.hid g1; clear g1)
    go_ret
    exact ⟨rfl, G1.out⟩
  · rw [hi] at hat
    rw [hg]
    have HAT := Lib.hid hat; have HF := Lib.hid hf
    have hi0 : (0 : Int) ≤ (k : Int) := Int.natCast_nonneg _
    have hi1 : (k : Int) < (l.length : Int) := by omega
    clear hat hi hg hf
    go_enter Tryz.func74, Tryz.ntmps74
    go_wp2_with (go_at_call 32; refine (HAT.out _ HT.out).mono ?_; rintro e w1 ⟨rfl, g1⟩; have G1 := Lib.hid g1; obtain ⟨a, c, hc, -, hr, -⟩ := HT.out.grown g1; obtain ⟨b, off, c', f', e, hf', -, -, -, c0, c1, c2⟩ := hr.at k hk; cases e; obtain rfl := Option.some.inj (HF.out.symm.trans hf'); clear g1 hr hf')
    go_ret
    exact ⟨rfl, G1.out⟩

/-- what the document's Parse answers where Set goes on -/
theorem rParse_start {c : ByteArray} {a : List Mb} (w : World) (hs : c.size ≤ maxLen) (h : archOf (startOf c) = some a) :
    Calls Tryz.prog 75 #[.string c] w fun e w' => ∃ v ok, e = .returned (.tuple #[v, .bool ok]) ∧ (ok = true ∨ (ok = false ∧ c.size = 0)) ∧ OwnM w' w.heap.size 123 v a ∧ w.grownBy w' none := by
  rcases start_some h with ⟨h0, ha⟩ | ⟨h0, rfl, hn⟩
  · refine (rParse c w hs).mono ?_
    rintro e w' (⟨hn, -⟩ | ⟨v, acc, hacc, he, ho, hg⟩)
    · rw [ha] at hn; cases hn
    · rw [ha] at hacc
      obtain rfl := Option.some.inj hacc
      exact ⟨v, true, he, .inl rfl, ho, hg⟩
  · go_enter Tryz.func75, Tryz.ntmps75
    have hz : (c.size : Int) = 0 := by omega
    go_wp2
    go_ret2
    exact ⟨_, false, rfl, .inr ⟨rfl, h0⟩, OwnM.nil _ _ _, World.grownBy.refl _ _⟩
theorem rParse_none {c : ByteArray} (w : World) (hs : c.size ≤ maxLen) (h : archOf c = none) :
    Calls Tryz.prog 75 #[.string c] w fun e w' => ∃ a n k, e = .returned (.tuple #[.slice a n k, .bool false]) ∧ w.grownBy w' none := by
  refine (rParse c w hs).mono ?_
  rintro e w' (⟨-, v, acc, he, ho, hg⟩ | ⟨v, acc, hacc, -⟩)
  · obtain ⟨a, k, rfl⟩ := slice_of_owns ho.1
    exact ⟨a, _, k, he, hg⟩
  · rw [h] at hacc; cases hacc

theorem own_newS (w : World) (base : Nat) (hb : base ≤ w.heap.size) : OwnM (w.alloc (.cells #[] 123)) base 123 (.slice (some ⟨w.heap.size, 0, none⟩) 0 0) [] := own_newR w base hb

set_option maxRecDepth 100000 in
set_option maxHeartbeats 8000000 in
theorem rSet (q : Nat) (l : List Fl) (s : ByteArray) (t : Int) (w : World) (h : RTree w q l) (hs : s.size ≤ maxLen) (hl : ∀ f ∈ l, f.c.size ≤ 900) (hri : Rising l) :
    Calls Tryz.prog 57 #[.pointer (some ⟨q, 0, none⟩), .string s, .int .i64 t] w fun e w' => e = .returned (.int .i64 ((statR l s t).1 : Nat)) ∧ RTree w' q (statR l s t).2 ∧ w.grownBy w' (some q) := by
  have HT := Lib.hid h
  clear h
  cases hm : memB s
  · rw [statR_touch hm]
    simp only
    have HM := Lib.hid (fun W => rMember_no s W hs hm)
    have HC := Lib.hid (fun W (hW : RTree W q l) => rTouch q l s t W hW hs hri)
    generalize putE l (touF l s t) = k at *
    generalize setL k l (touF l s t) = l2 at *
    clear hm
    go_enter Tryz.func57, Tryz.ntmps57
    go_wp2_with (first
      | (go_at_call 25; refine (HM.out _).mono ?_; rintro e w1 ⟨rfl, rfl⟩)
      | (go_at_call 73; refine (HC.out _ HT.out).mono ?_; rintro e w1 ⟨rfl, t1, g1⟩; have T1 := Lib.hid t1; have G1 := Lib.hid g1; clear t1 g1))
    go_ret
    exact ⟨rfl, T1.out, G1.out⟩
  have HM := Lib.hid (fun W => rmem_call W hs hm)
  by_cases ht : t < 1 ∨ 549755813888 < t
  · rw [statR_range hm ht]
    clear hm
    rcases ht with ht | ht
    all_goals
      go_enter Tryz.func57, Tryz.ntmps57
      go_wp2_with (first
        | (go_at_call 25; refine (HM.out _).mono ?_; rintro e w1 ⟨rfl, g1⟩; have G1 := Lib.hid g1; clear g1))
      go_ret
      exact ⟨rfl, HT.out.grown G1.out, G1.out.but _⟩
  obtain ⟨z1, z2⟩ := mem_sizes hm
  have ZL := Lib.hid (show (libB s).size ≤ maxLen by unfold maxLen; omega)
  have HC := Lib.hid (fun W (hW : RTree W q l) => rContent q l (libB s) W hW)
  have hcs := content_small hl (libB s)
  have hcm : (getL l (libB s)).c.size ≤ maxLen := by unfold maxLen; omega
  have hd1 : decide (t < 1) = false := decide_eq_false (by omega)
  have hd2 : decide (549755813888 < t) = false := decide_eq_false (by omega)
  cases ha : archOf (startOf (getL l (libB s)).c) with
  | none =>
    rw [statR_form hm ht ha]
    have hst := start_none ha
    have h0 : (0 : Int) < ((getL l (libB s)).c.size : Int) := by omega
    have HP := Lib.hid (fun W => rParse_none W hcm hst.1)
    clear hm ht ha hst
    generalize libB s = lb at *
    generalize meB s = mb at *
    generalize (getL l lb).c = c at *
    go_enter Tryz.func57, Tryz.ntmps57
    go_wp2_with (first
      | (go_at_call 25; refine (HM.out _).mono ?_; rintro e w1 ⟨rfl, g1⟩; have G1 := Lib.hid g1; clear g1)
      | (go_at_call 74; refine (HC.out _ (HT.out.grown G1.out)).mono ?_; rintro e w2 ⟨rfl, g2⟩; have G2 := Lib.hid (G1.out.trans g2); clear g2)
      | (go_at_call 75; refine (HP.out _).mono ?_; rintro e w3 ⟨pa, pn, pk, rfl, g3⟩; have G3 := Lib.hid (G2.out.trans g3); clear g3))
    go_ret
    exact ⟨rfl, HT.out.grown G3.out, G3.out.but _⟩
  | some a =>
    have HBAD := Lib.hid (fun hk => statR_bad (l := l) hm ht ha hk)
    have HPUT := Lib.hid (fun hk (y : ByteArray) hy => statR_put (l := l) (y := y) hm ht ha hk hy)
    have HDOC := Lib.hid (set_start (nm := meB s) (t := t) ha)
    have HP := Lib.hid (fun W => rParse_start W hcm ha)
    obtain ⟨hlen, hsm⟩ : a.length ≤ 900 ∧ ∀ m ∈ a, m.c.size ≤ 900 := by
      rcases start_some ha with ⟨_, h2⟩ | ⟨_, rfl, _⟩
      · exact arch_count h2
      · exact ⟨by simp, by simp⟩
    have SM := Lib.hid hsm
    have MB := Lib.hid (show (meB s).size ≤ maxLen by unfold maxLen; omega)
    have hrp := fun (y : ByteArray) (hy : y.size ≤ maxLen) (W : World) (hW : RTree W q l) => rPut q l ⟨libB s, y, t⟩ W hW ZL.out hy hri
    unfold valF at hrp
    simp only at hrp
    generalize statR l s t = sr at *
    clear hm ht ha hsm
    generalize libB s = lb at *
    generalize meB s = mb at *
    generalize (getL l lb).c = c at *
    generalize setM a (newM c mb t) = R at *
    have HRP := Lib.hid hrp
    clear hrp
    obtain ⟨i0, hi, hz0, hz1, hz2⟩ := info_parts infoMemberR
    have I := Lib.hid hi; have Z0 := Lib.hid hz0; have Z1 := Lib.hid hz1; have Z2 := Lib.hid hz2
    clear hi hz0 hz1 hz2
    go_enter Tryz.func57, Tryz.ntmps57
    go_wp2_with fail
    refine (HM.out _).mono ?_
    rintro e w1 ⟨rfl, g1⟩
    have G1 := Lib.hid g1
    clear g1
    go_wp2_with fail
    refine (HC.out _ (HT.out.grown G1.out)).mono ?_
    rintro e w2 ⟨rfl, g2⟩
    have G2 := Lib.hid (G1.out.trans g2)
    clear g2 G1
    go_wp2_with fail
    refine (HP.out _).mono ?_
    rintro e w3 ⟨v, ok, rfl, hok, o3, g3⟩
    have HZ := Lib.hid (show ok = false → (c.size : Int) = 0 from fun e => by
      rcases hok with h | ⟨-, h0⟩
      · rw [h] at e; cases e
      · rw [h0]; rfl)
    obtain ⟨va, vc, rfl, -, -⟩ := o3.row
    have R3 := Lib.hid o3.row
    have G3 := Lib.hid (G2.out.trans g3)
    have OWN := Lib.hid (own_newS w3 w3.heap.size (Nat.le_refl _))
    have GST := Lib.hid (World.grownBy_alloc w3 (.cells #[] 123) none)
    clear g3 G2 o3 HP HC HM
    clear hok
    cases ok
    all_goals
      first | (have hz := HZ.out rfl) | skip
      go_upto_region 12 with fail
      generalize (w3.alloc (.cells #[] 123)) = w4 at *
      generalize hp0 : (Value.slice (some ⟨w3.heap.size, 0, none⟩) 0 0) = v0 at *
      clear hp0
      go_wp2_with fail
      go_loopw [13, 14, 16, 54] (fun out dn _ i wr => ∃ k : Nat, k ≤ a.length ∧ i = .int .i64 k ∧ dn = .bool ((a.take k).any (isM mb)) ∧ Hid (OwnM wr w3.heap.size 123 out ((a.take k).map (setT mb t))) ∧ Hid (w3.grownBy wr none)) (fun _ _ _ i _ => a.length - (intOf i).toNat)
      case atStart => exact ⟨0, Nat.zero_le _, rfl, rfl, OWN, GST⟩
      case round =>
        obtain ⟨k, hk, rfl, rfl, hO, hG⟩ := hrel
        have HB := Lib.hid hG.out.size
        have LT : ((a.take k).map (setT mb t)).length ≤ 900 := by rw [List.length_map, List.length_take]; omega
        by_cases hlt : k < a.length
        · obtain ⟨b, off, c', m, e, hm, sn, sc, hb, c0, c1, c2⟩ := (R3.out.grown hG.out).at k hlt
          cases e
          have HTK := Lib.hid (map_take_snoc hm (setT mb t)); have HAN := Lib.hid (any_take_snoc hm (isM mb))
          have MS := Lib.hid (show m.n.size ≤ maxLen ∧ m.c.size ≤ maxLen from ⟨sn, sc⟩)
          have BX := Lib.hid (boxR_new wr m)
          have GX := Lib.hid (World.grownBy_alloc wr (.cells #[.string m.n, .int .i64 m.t, .string m.c] 123) none)
          clear hm sn sc
          cases hq : (m.n.toList == mb.toList)
          · have E1 := Lib.hid (setT_miss (t := t) hq)
            have E2 := Lib.hid (show isM mb m = false from hq)
            go_wp2_with (at_builtin; refine wpList_append_own _ rfl _ _ 120 rfl w3.heap.size 123 i0 _ 3 40 Tryz.underlying120 I.out Z0.out Z1.out Z2.out rfl (by decide) _ _ _ rfl ((hO.out.1.alloc _).alloc _) ⟨_, 0, none⟩ 1 1 [.string m.n, .int .i64 m.t, .string m.c] rfl rfl (newsAtM _ m _ _ (by simp)) (oneM m) (by unfold maxLen; omega) (by omega) (by have := HB.out; simp; omega) ?_; intro v' w5 hown' hgrow2 hnil2; have O5 := Lib.hid (OwnM.snoc (m := m) hO.out.2 MS.out.1 MS.out.2 hown' rfl rfl); have G5 := Lib.hid ((hG.out.trans (GX.out.trans (World.grownBy_alloc _ (.cells #[.string m.n, .int .i64 m.t, .string m.c] 123) none))).andThen hgrow2 (fun j e => .inl (hO.out.1.lt j e).1)); clear hown' hgrow2 hnil2)
            go_roundw
            case rel => exact ⟨k + 1, by omega, by go_num, by rw [HAN.out, E2.out, Bool.or_false], Lib.hid (by rw [HTK.out, E1.out]; exact O5.out), G5⟩
            case measure => simp [intOf]; omega
          · have E1 := Lib.hid (setT_hit (t := t) hq)
            have E2 := Lib.hid (show isM mb m = true from hq)
            go_upto_region 15 with fail
            have LX := Lib.hid (Nat.le_refl wr.heap.size)
            generalize (wr.alloc (.cells #[.string m.n, .int .i64 m.t, .string m.c] 123)) = wx at *
            generalize hpx : wr.heap.size = px at *
            have BX' : wx.heap[px]? = some (.cells #[.string m.n, .int .i64 m.t, .string m.c] 123 (0, 0)) := BX.out
            obtain ⟨x0, x1, x2⟩ := BX.out.cells
            have xf : wx.frozen? ⟨px, 1, none⟩ = false := frozen_of_row wx px 1 _ _ BX'
            have GS := Lib.hid (grown_none GX.out (grown_setAt wx px 1 (.int .i64 t)) (by omega))
            have OS := Lib.hid (hO.out.kept GS.out)
            have SZ := Lib.hid (show (wx.setCell ⟨px, 1, none⟩ (.int .i64 t)).heap.size = wx.heap.size by simp)
            have HB2 := Lib.hid (show w3.heap.size ≤ wx.heap.size from Nat.le_trans (by have := HB.out; omega) GX.out.size)
            clear BX' c0 c1 c2 hb
            go_wp2_with (at_builtin; refine wpList_append_own _ rfl _ _ 120 rfl w3.heap.size 123 i0 _ 3 40 Tryz.underlying120 I.out Z0.out Z1.out Z2.out rfl (by decide) _ _ _ rfl (OS.out.1.alloc _) ⟨_, 0, none⟩ 1 1 [.string m.n, .int .i64 t, .string m.c] rfl rfl (newsAtM _ ⟨m.n, t, m.c⟩ _ _ (by simp)) (oneM ⟨m.n, t, m.c⟩) (by unfold maxLen; omega) (by omega) (by have := HB2.out; simp; omega) ?_; intro v' w5 hown' hgrow2 hnil2; have O5 := Lib.hid (OwnM.snoc (m := ⟨m.n, t, m.c⟩) OS.out.2 MS.out.1 MS.out.2 hown' rfl rfl); have G5 := Lib.hid ((hG.out.trans (GS.out.trans (World.grownBy_alloc _ (.cells #[.string m.n, .int .i64 t, .string m.c] 123) none))).andThen hgrow2 (fun j e => .inl (OS.out.1.lt j e).1)); clear hown' hgrow2 hnil2)
            go_roundw
            case rel => exact ⟨k + 1, by omega, by go_num, by rw [HAN.out, E2.out, Bool.or_true], Lib.hid (by rw [HTK.out, E1.out]; exact O5.out), G5⟩
            case measure => simp [intOf]; omega
        · obtain rfl : k = a.length := by omega
          rw [List.take_of_length_le (Nat.le_refl _)] at hO LT
          rw [List.take_of_length_le (Nat.le_refl _)]
          have G4 := Lib.hid (G3.out.trans hG.out)
          have SMT := Lib.hid (show ∀ m ∈ a.map (setT mb t), m.c.size ≤ 100000 from fun m hm => by
            obtain ⟨x, hx, rfl⟩ := List.mem_map.1 hm
            have := SM.out x hx
            unfold setT; split
            · simp only; omega
            · omega)
          have hdoc := HDOC.out
          clear HDOC R3 HB
          cases hany : a.any (isM mb)
          · rw [hany, if_neg (by decide)] at hdoc
            have HDOC := Lib.hid hdoc
            clear hdoc hany
            go_wp2_with (at_builtin; refine wpList_append_own _ rfl _ _ 120 rfl w3.heap.size 123 i0 _ 3 40 Tryz.underlying120 I.out Z0.out Z1.out Z2.out rfl (by decide) _ _ _ rfl (hO.out.1.alloc _) ⟨_, 0, none⟩ 1 1 [.string mb, .int .i64 t, .string ⟨#[]⟩] rfl rfl (newsAtM _ ⟨mb, t, ⟨#[]⟩⟩ _ _ rfl) (oneM ⟨mb, t, ⟨#[]⟩⟩) (by unfold maxLen; omega) (by omega) (by have := hG.out.size; simp; omega) ?_; intro v' w5 hown' hgrow2 hnil2; have O5 := Lib.hid (OwnM.snoc (m := ⟨mb, t, ⟨#[]⟩⟩) hO.out.2 MB.out (show (0 : Nat) ≤ maxLen from Nat.zero_le _) hown' rfl rfl); have G5 := Lib.hid ((G4.out.trans (World.grownBy_alloc wr (.cells #[.string mb, .int .i64 t, .string ⟨#[]⟩] 123) none)).andThen hgrow2 (fun j e => .inl (Nat.le_trans G3.out.size (hO.out.1.lt j e).1))); clear hown' hgrow2 hnil2)
            rw [← HDOC.out] at O5
            have HMK := Lib.hid (rMake _ R w3.heap.size _ O5.out (fun m hm => by
              rw [HDOC.out] at hm
              rcases List.mem_append.1 hm with hm | hm
              · exact SMT.out m hm
              · rw [List.mem_singleton] at hm; subst hm; exact (by decide : (0 : Nat) ≤ 100000)))
            go_wp2_with fail
            refine HMK.out.mono ?_
            rintro e w6 ⟨x, rfl, hx, g6⟩
            have G6 := Lib.hid (G5.out.trans g6)
            clear g6 G5 G4 HMK
            rcases hx with ⟨hk0, rfl⟩ | ⟨hk0, hx⟩
            · have HSR := Lib.hid (HBAD.out hk0)
              have hz : (((makeE R : Nat) : Int) == 0) = false := by rw [beq_eq_false_iff_ne]; omega
              generalize makeE R = kk at *
              go_wp2
              go_ret
              rw [HSR.out]
              exact ⟨rfl, HT.out.grown G6.out, G6.out.but _⟩
            · have HSR := Lib.hid (HPUT.out hk0 x hx)
              have hx9 : x.size ≤ 900 := arch_len ⟨hk0, hx⟩
              rw [hk0]
              have HRX := Lib.hid (HRP.out x (by unfold maxLen; omega))
              generalize putE l ⟨lb, x, t⟩ = kk at *
              generalize setL kk l ⟨lb, x, t⟩ = l2 at *
              clear hx hk0
              go_wp2_with (go_at_call 33; refine (HRX.out _ (HT.out.grown G6.out)).mono ?_; rintro e w7 ⟨rfl, t7, g7⟩; have T7 := Lib.hid t7; have G7 := Lib.hid g7; clear t7 g7)
              go_ret
              rw [HSR.out]
              exact ⟨rfl, T7.out, (G6.out.but _).trans G7.out⟩
          · rw [hany, if_pos rfl] at hdoc
            have HDOC := Lib.hid hdoc
            clear hdoc hany
            rw [← HDOC.out] at hO SMT
            have HMK := Lib.hid (rMake _ R w3.heap.size _ hO.out SMT.out)
            go_wp2_with fail
            refine HMK.out.mono ?_
            rintro e w6 ⟨x, rfl, hx, g6⟩
            have G6 := Lib.hid (G4.out.trans g6)
            clear g6 G4 HMK
            rcases hx with ⟨hk0, rfl⟩ | ⟨hk0, hx⟩
            · have HSR := Lib.hid (HBAD.out hk0)
              have hz : (((makeE R : Nat) : Int) == 0) = false := by rw [beq_eq_false_iff_ne]; omega
              generalize makeE R = kk at *
              go_wp2
              go_ret
              rw [HSR.out]
              exact ⟨rfl, HT.out.grown G6.out, G6.out.but _⟩
            · have HSR := Lib.hid (HPUT.out hk0 x hx)
              have hx9 : x.size ≤ 900 := arch_len ⟨hk0, hx⟩
              rw [hk0]
              have HRX := Lib.hid (HRP.out x (by unfold maxLen; omega))
              generalize putE l ⟨lb, x, t⟩ = kk at *
              generalize setL kk l ⟨lb, x, t⟩ = l2 at *
              clear hx hk0
              go_wp2_with (go_at_call 33; refine (HRX.out _ (HT.out.grown G6.out)).mono ?_; rintro e w7 ⟨rfl, t7, g7⟩; have T7 := Lib.hid t7; have G7 := Lib.hid g7; clear t7 g7)
              go_ret
              rw [HSR.out]
              exact ⟨rfl, T7.out, (G6.out.but _).trans G7.out⟩
end Go.Proofs.YtbcemenfklgnkaaGreatDoor

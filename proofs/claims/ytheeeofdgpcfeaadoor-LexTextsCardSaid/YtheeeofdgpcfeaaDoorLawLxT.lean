/- The law LexTexts, walked. -/
import Derived.Test.YtheeeofdgpcfeaaDoorLxOut
namespace Go.Proofs.YtheeeofdgpcfeaaDoor
open Go.RowKit

theorem pcL_app (a b : List Pb) : pcL (a ++ b) = pcL a ++ pcL b := List.map_append ..
theorem all_take {l : List Pb} {n : Nat} {x : Pb} (h : l[n]? = some x) : (pcL (l.take (n + 1))).all litB = ((pcL (l.take n)).all litB && litB x.q) := by
  rw [List.take_add_one, h, show (some x).toList = [x] from rfl, pcL_app, List.all_append]; simp
theorem cat_take {l : List Pb} {n : Nat} {x : Pb} (h : l[n]? = some x) : (pcL (l.take (n + 1))).flatMap (·.t) = (pcL (l.take n)).flatMap (·.t) ++ x.t.data.toList := by
  rw [List.take_add_one, h, show (some x).toList = [x] from rfl, pcL_app, List.flatMap_append]; simp [Pb.q]
theorem txt_small : ∀ {l : List Pb}, (∀ x ∈ l, Shp x) → (txW (pcL l)).length ≤ l.length * 310
  | [], _ => Nat.zero_le _
  | x :: l, h => by
    have ih := txt_small (l := l) fun y hy => h y (List.mem_cons_of_mem _ hy)
    obtain ⟨h1, h2, h3⟩ := h x (by simp)
    have e : (txW (pcL (x :: l))).length = (txP x.q).length + (txW (pcL l)).length := by rw [show pcL (x :: l) = x.q :: pcL l from rfl]; unfold txW; rw [List.flatMap_cons, List.length_append]
    have two := two_len x.t.data.toList
    have a1 : x.t.data.toList.length = x.t.size := by simp
    have a2 : x.f.data.toList.length = x.f.size := by simp
    have a3 : x.o.data.toList.length = x.o.size := by simp
    have hp : (txP x.q).length ≤ 310 := by
      unfold txP Pb.q
      simp only
      split
      · omega
      · split
        · simp only [List.length_cons, List.length_append, List.length_nil]; omega
        · split
          · simp only [List.length_cons, List.length_append, List.length_nil]; omega
          · split
            · simp only [List.length_cons, List.length_append, List.length_nil]; omega
            · split
              · simp only [List.length_cons, List.length_append, List.length_nil]; omega
              · simp
    rw [e, List.length_cons]; omega
set_option maxRecDepth 100000 in
set_option maxHeartbeats 8000000 in
theorem lLexTexts {A : Nat → Addr} {E : World → Prop} (C : LxC A E) (v1 v2 : Value) (La Lb : List (List Pb)) (w : World) (hE : E w) (ha : RRow w v1 La) (hb : RRow w v2 Lb) :
    Calls Tryd.prog 3 #[v1, v2] w fun e w' => e = .returned (.bool true) ∧ w.grownBy w' none := by
  have CA := Lib.hid (lAliveX C w hE)
  obtain ⟨va, vc, rfl, hm1⟩ := ha.shape
  obtain ⟨ua, uc, rfl, hm2⟩ := hb.shape
  have HE := Lib.hid hE; have HC := Lib.hid C; have HA := Lib.hid ha; have HB := Lib.hid hb
  clear hE C ha hb
  go_enter Tryd.func3, Tryd.ntmps3
  go_upto_region 3 with (go_at_call 5; (with_reducible refine CA.out.mono ?_); rintro e w1 ⟨rfl, g1⟩; have G1 := Lib.hid g1; clear g1)
  clear CA
  go_wp2_with fail
  refine (lLongX _ La w1 (HA.out.grown G1.out)).mono ?_
  rintro e w2 ⟨⟨z1, rfl, hz1⟩, g2⟩
  have G2 := Lib.hid (G1.out.trans g2)
  clear g2
  cases z1
  case true =>
    clear hz1
    go_wp2
    go_ret
    exact ⟨rfl, G2.out⟩
  obtain ⟨hla, hsa⟩ := hz1 rfl
  have HSA := Lib.hid hsa
  clear hz1 hsa
  go_wp2_with fail
  refine (lLongX _ Lb w2 (HB.out.grown G2.out)).mono ?_
  rintro e w3 ⟨⟨z2, rfl, hz2⟩, g3⟩
  have G3 := Lib.hid (G2.out.trans g3)
  clear g3
  cases z2
  case true =>
    clear hz2
    go_wp2
    go_ret
    exact ⟨rfl, G3.out⟩
  obtain ⟨hlb, hsb⟩ := hz2 rfl
  have HSB := Lib.hid hsb
  clear hz2 hsb
  go_wp2
  go_loopw [7, 8, 23] (fun _ _ i wr => ∃ j : Nat, j ≤ La.length ∧ i = .int .i64 j ∧ Hid (w.grownBy wr none)) (fun _ _ i _ => La.length - (intOf i).toNat)
  case atStart => exact ⟨0, Nat.zero_le _, rfl, G3⟩
  case round =>
    obtain ⟨j, hj, rfl, hG⟩ := hrel
    by_cases hlt : j < La.length
    · obtain ⟨b, off, c, l, u, ev, hx, hb, c0, hp⟩ := (HA.out.grown hG.out).at j hlt
      injection ev with ev1 ev2 ev3
      subst ev1 ev3
      obtain ⟨pa, pc, rfl, hm3⟩ := hp.shape
      obtain ⟨hl12, hsh⟩ := HSA.out l (List.mem_of_getElem? hx)
      have HP := Lib.hid hp; have HSH := Lib.hid hsh
      have hts := txt_small hsh
      clear hx hb hp hsh
      go_wp2
      clear c0
      obtain ⟨wo, rfl⟩ : ∃ wo : World, wo = wr := ⟨_, rfl⟩
      go_loopw [7, 8, 29] (fun s f i wi => ∃ (n : Nat) (S : ByteArray), n ≤ l.length ∧ i = .int .i64 n ∧ s = .string S ∧ S.size ≤ 100 * n ∧ f = .bool ((pcL (l.take n)).all litB) ∧ Hid (S.data.toList = (pcL (l.take n)).flatMap (·.t)) ∧ Hid (wo.grownBy wi none)) (fun _ _ i _ => l.length - (intOf i).toNat)
      case atStart => exact ⟨0, ⟨#[]⟩, Nat.zero_le _, rfl, rfl, Nat.zero_le _, rfl, Lib.hid rfl, Lib.hid (World.grownBy.refl _ _)⟩
      case round =>
        obtain ⟨n, S, hn, rfl, rfl, hS, rfl, hF, hG2⟩ := hrel
        by_cases hnt : n < l.length
        · obtain ⟨b2, off2, c2, x, ev, hy, hb2, c0, c1, c2, c3⟩ := (HP.out.grown hG2.out).at n hnt
          injection ev with ev1 ev2 ev3
          subst ev1 ev3
          obtain ⟨hs1, -, -⟩ := HSH.out x (List.mem_of_getElem? hy)
          have G4 := Lib.hid (hG2.out.trans (World.grownBy_alloc wr (.cells #[.int .i64 x.k, .string x.t, .string x.f, .string x.o] 27) none))
          have B4 := Lib.hid (heap_alloc_new wr (.cells #[.int .i64 x.k, .string x.t, .string x.f, .string x.o] 27))
          have HAL := Lib.hid (all_take hy)
          have HCT := Lib.hid (cat_take hy)
          clear hy hb2
          go_upto_region 12 with fail
          generalize wr.alloc _ = w4 at B4 G4 ⊢
          obtain ⟨d0, d1, d2, d3⟩ := four_px B4.out
          clear c0 c1 c2 c3
          have HN := Lib.hid (show (S ++ x.t).data.toList = (pcL (l.take (n + 1))).flatMap (·.t) by rw [HCT.out, toList_app, hF.out])
          have hz : (S ++ x.t).size ≤ 100 * (n + 1) := by rw [ByteArray.size_append]; omega
          have hlx : litB x.q = (x.k == 0 || x.k == 1) := by unfold litB Pb.q; by_cases q0 : x.k = 0 <;> by_cases q1 : x.k = 1 <;> simp [q0, q1]
          rw [hlx] at HAL
          cases hf : (pcL (l.take n)).all litB
          · rw [hf] at HAL
            have HAN := Lib.hid (show (pcL (l.take (n + 1))).all litB = false by rw [HAL.out]; rfl)
            clear hf hF hlx
            go_wp2
            go_roundw
            case rel => exact ⟨n + 1, _, hnt, by go_num, rfl, hz, by rw [HAN.out], HN, G4⟩
            case measure => simp [intOf]; omega
          · rw [hf] at HAL
            by_cases hk0 : x.k = 0
            · have e0 : (x.k == 0) = true := by rw [hk0]; rfl
              have HAN := Lib.hid (show (pcL (l.take (n + 1))).all litB = true by rw [HAL.out, e0]; rfl)
              clear hf hF hlx hk0
              go_wp2
              go_roundw
              case rel => exact ⟨n + 1, _, hnt, by go_num, rfl, hz, by rw [HAN.out], HN, G4⟩
              case measure => simp [intOf]; omega
            · have e0 : (x.k == 0) = false := by simpa using hk0
              by_cases hk1 : x.k = 1
              · have e1 : (x.k == 1) = true := by rw [hk1]; rfl
                have HAN := Lib.hid (show (pcL (l.take (n + 1))).all litB = true by rw [HAL.out, e0, e1]; rfl)
                clear hf hF hlx hk0 hk1
                go_wp2
                go_roundw
                case rel => exact ⟨n + 1, _, hnt, by go_num, rfl, hz, by rw [HAN.out], HN, G4⟩
                case measure => simp [intOf]; omega
              · have e1 : (x.k == 1) = false := by simpa using hk1
                have HAN := Lib.hid (show (pcL (l.take (n + 1))).all litB = false by rw [HAL.out, e0, e1]; rfl)
                clear hf hF hlx hk0 hk1
                go_wp2
                go_roundw
                case rel => exact ⟨n + 1, _, hnt, by go_num, rfl, hz, by rw [HAN.out], HN, G4⟩
                case measure => simp [intOf]; omega
        · obtain rfl : n = l.length := by omega
          rw [List.take_length] at hF ⊢
          obtain ⟨Y, hY, hYz⟩ : ∃ Y : ByteArray, Y.data.toList = litQ (pcL l) ∧ (if (pcL l).all litB = true then S else ⟨#[]⟩) = Y := by
            refine ⟨_, ?_, rfl⟩
            unfold litQ
            split
            · exact hF.out
            · rfl
          have GW := Lib.hid (hG.out.trans hG2.out)
          have P4 := Lib.hid (HP.out.grown hG2.out)
          have E4 := Lib.hid (HC.out.gr _ _ HE.out GW.out)
          have CL := Lib.hid (HC.out.literal _ l wr E4.out P4.out hl12 HSH.out)
          have HYY := Lib.hid (show ∀ t : ByteArray, t.data.toList = litQ (pcL l) → t = Y from fun t h => bytes_inj (h.trans hY.symm))
          clear hF hS hY
          go_upto_region 15 with fail
          cases hf : (pcL l).all litB
          all_goals
            rw [hf] at hYz
            simp only [Bool.false_eq_true, if_false, if_true] at hYz
            subst hYz
            have HFF := Lib.hid hf
            clear hf
            go_upto_region 17 with fail
            go_wp2_with fail
            refine CL.out.mono ?_
            rintro e w5 ⟨⟨t5, rfl, ht5⟩, g5⟩
            rw [HFF.out]
            obtain rfl := HYY.out t5 ht5
            have G5 := Lib.hid g5
            have E5 := Lib.hid (HC.out.gr _ _ E4.out g5)
            have CT := Lib.hid (HC.out.text _ l w5 E5.out (P4.out.grown g5) (by omega) (fun x hx => by have := HSH.out x hx; unfold Shp at this; omega) (by omega))
            clear ht5 g5 CL
            go_upto_region 18 with fail
            go_wp2_with fail
            refine CT.out.mono ?_
            rintro e w6 ⟨⟨t6, rfl, ht6⟩, g6⟩
            have G6 := Lib.hid (G5.out.trans g6)
            have HT6 := Lib.hid ht6
            clear ht6 g6 CT
            go_wp2_with fail
            refine (lWordX _ l w6 (P4.out.grown G6.out) hl12).mono ?_
            rintro e w7 ⟨⟨u7, rfl, o7⟩, g7⟩
            have P7 := Lib.hid (pc_row o7 rfl (by omega))
            obtain ⟨qa, qc, rfl⟩ := tx_shape o7
            have G7 := Lib.hid (G6.out.trans g7)
            clear g7 o7
            go_wp2_with fail
            refine (dTextX _ l w7 P7.out hl12 HSH.out).mono ?_
            rintro e w8 ⟨⟨t8, rfl, ht8⟩, g8⟩
            obtain rfl := bytes_inj (HT6.out.trans ht8.symm)
            have G8 := Lib.hid (GW.out.trans (G7.out.trans g8))
            clear ht8 g8
            go_wp2
            go_roundw
            case rel => exact ⟨j + 1, hlt, by go_num, G8⟩
            case measure => simp [intOf]; omega
    · have P0 := Lib.hid (HA.out.grown hG.out); have Q0 := Lib.hid (HB.out.grown hG.out)
      have E0 := Lib.hid (HC.out.gr _ _ HE.out hG.out)
      go_upto_region 21 with fail
      go_wp2_with fail
      refine (HC.out.same _ _ La Lb wr E0.out P0.out Q0.out).mono ?_
      rintro e w4 ⟨⟨z4, rfl, hz4⟩, g4⟩
      have Z4 := Lib.hid hz4; have G4 := Lib.hid g4
      clear hz4 g4
      go_wp2_with fail
      refine (lOfX _ La w4 (P0.out.grown G4.out) hla (fun l hl => (HSA.out l hl).1)).mono ?_
      rintro e w5 ⟨⟨u5, rfl, o5⟩, g5⟩
      have R5 := Lib.hid (rr_row o5 (by omega))
      have G5 := Lib.hid (G4.out.trans g5)
      clear o5 g5
      go_wp2_with fail
      refine (lOfX _ Lb w5 (Q0.out.grown G5.out) hlb (fun l hl => (HSB.out l hl).1)).mono ?_
      rintro e w6 ⟨⟨u6, rfl, o6⟩, g6⟩
      have R6 := Lib.hid (rr_row o6 (by omega))
      have R65 := Lib.hid (R5.out.grown g6)
      have G6 := Lib.hid (G5.out.trans g6)
      clear o6 g6
      go_wp2_with fail
      refine (dSameX _ _ La Lb w6 R65.out R6.out).mono ?_
      rintro e w7 ⟨⟨z7, rfl, hz7⟩, g7⟩
      have G7 := Lib.hid (G6.out.trans g7)
      obtain rfl : z4 = z7 := by
        have h1 := Z4.out.trans hz7.symm
        cases z4 <;> cases z7 <;> simp_all
      have E7 := Lib.hid (HC.out.gr _ _ E0.out G7.out)
      have CS := Lib.hid (HC.out.same _ _ La La w7 E7.out (P0.out.grown G7.out) (P0.out.grown G7.out))
      clear hz7 g7
      cases z4
      all_goals
        go_wp2_with fail
        refine CS.out.mono ?_
        rintro e w8 ⟨⟨z8, rfl, hz8⟩, g8⟩
        obtain rfl : z8 = true := hz8.2 rfl
        have G8 := Lib.hid (hG.out.trans (G7.out.trans g8))
        clear hz8 g8
        go_wp2
        go_ret
        exact ⟨rfl, G8.out⟩
end Go.Proofs.YtheeeofdgpcfeaaDoor

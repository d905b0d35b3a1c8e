/- The law LexBack, walked. -/
import Derived.Test.YtheeeofdgpcfeaaDoorLxOut
namespace Go.Proofs.YtheeeofdgpcfeaaDoor
open Go.RowKit

theorem bk_take {L : List (List Pq)} {j : Nat} {w : List Pq} (h : L[j]? = some w) : bkT (L.take (j + 1)) = bkT (L.take j) ++ 32 :: txW w := by
  rw [List.take_add_one, h, show (some w).toList = [w] from rfl, bkT_snoc]
set_option maxRecDepth 100000 in
set_option maxHeartbeats 4000000 in
theorem lLexBack {A : Nat → Addr} {E : World → Prop} (C : LxC A E) (s : ByteArray) (w : World) (hE : E w) : Calls Tryd.prog 4 #[.string s] w fun e w' => e = .returned (.bool true) ∧ w.grownBy w' none := by
  have CA := Lib.hid (lAliveX C w hE)
  have HE := Lib.hid hE
  have HC := Lib.hid C
  clear hE C
  by_cases h3 : 300 < s.size
  · have e1 : decide ((s.size : Int) > 300) = true := by simp; omega
    clear h3
    go_enter Tryd.func4, Tryd.ntmps4
    go_wp2_with (go_at_call 5; (with_reducible refine CA.out.mono ?_); rintro e w1 ⟨rfl, g1⟩; have G1 := Lib.hid g1; clear g1)
    go_ret
    exact ⟨rfl, G1.out⟩
  have e1 : decide ((s.size : Int) > 300) = false := by simp; omega
  have hs3 : s.data.toList.length ≤ 300 := by
    have : s.data.toList.length = s.size := by simp
    omega
  go_enter Tryd.func4, Tryd.ntmps4
  go_upto_region 5 with (go_at_call 5; (with_reducible refine CA.out.mono ?_); rintro e w1 ⟨rfl, g1⟩; have G1 := Lib.hid g1; clear g1)
  clear CA e1
  have E1 := Lib.hid (HC.out.gr _ _ HE.out G1.out)
  go_wp2_with fail
  refine (HC.out.words s w1 E1.out (by omega)).mono ?_
  rintro e w2 ⟨g2, hout⟩
  have G2 := Lib.hid (G1.out.trans g2)
  clear g2
  cases hw : wdQ [] [] s.data.toList with
  | error bad =>
    rw [hw] at hout
    obtain ⟨a, c, rfl⟩ := hout
    have hb := wd_bad _ _ _ _ _ (Nat.le_refl _) hw
    rw [errV_ne (by omega)]
    clear hw
    go_wp2
    go_ret
    exact ⟨rfl, G2.out⟩
  | ok L =>
    rw [hw] at hout
    obtain ⟨v, LB, rfl, hR, hL⟩ := hout
    obtain ⟨va, vc, rfl, hm⟩ := hR.shape
    obtain ⟨hbl, hsm⟩ := wd_small hw hs3
    have HR := Lib.hid hR; have HL := Lib.hid hL; have HW := Lib.hid hw; have HSM := Lib.hid hsm; have HBL := Lib.hid hbl
    clear hw hR hL hbl hsm
    have hLl : LB.length = L.length := by rw [← HL.out]; simp
    have HLL := Lib.hid hLl
    clear hLl
    go_wp2
    go_loopw [5, 26] (fun t i wr => ∃ (j : Nat) (S : ByteArray), j ≤ LB.length ∧ i = .int .i64 j ∧ t = .string S ∧ Hid (S.data.toList = bkT (L.take j)) ∧ Hid (w2.grownBy wr none)) (fun _ i _ => LB.length - (intOf i).toNat)
    case atStart => exact ⟨0, ⟨#[]⟩, Nat.zero_le _, rfl, rfl, Lib.hid rfl, Lib.hid (World.grownBy.refl _ _)⟩
    case round =>
      obtain ⟨j, S, hj, rfl, rfl, hS, hG⟩ := hrel
      by_cases hlt : j < LB.length
      · obtain ⟨b, off, c, l, u, ev, hx, hb, c0, hp⟩ := (HR.out.grown hG.out).at j hlt
        injection ev with ev1 ev2 ev3
        subst ev1 ev3
        obtain ⟨pa, pc, rfl, hm2⟩ := hp.shape
        have hLx : L[j]? = some (pcL l) := by rw [← HL.out, List.getElem?_map, hx]; rfl
        obtain ⟨s1, s2, s3⟩ := HSM.out _ (List.mem_of_getElem? hLx)
        have E3 := Lib.hid (HC.out.gr _ _ HE.out (G2.out.trans hG.out))
        have CT := Lib.hid (HC.out.text _ l wr E3.out hp (by simpa using s2) (fun x hx => by
          have := s3 x.q (List.mem_map.2 ⟨x, hx, rfl⟩)
          simpa [Pb.q] using this) (by omega))
        have hz : S.size ≤ 1200 := by
          have h1 : S.data.toList.length = S.size := by simp
          have h2 : (bkT (L.take j)).length ≤ (bkT L).length := by
            have e : bkT L = bkT (L.take j) ++ bkT (L.drop j) := by unfold bkT; rw [← List.flatMap_append, List.take_append_drop]
            rw [e, List.length_append]; omega
          have := hS.out; have := HBL.out
          rw [hS.out] at h1; omega
        have HT := Lib.hid (bk_take hLx)
        have hs1 : (txW (pcL l)).length ≤ 1200 := s1
        clear hx hb hp s1 s2 s3 hLx
        go_upto_region 12 with fail
        go_wp2_with fail
        refine CT.out.mono ?_
        rintro e w4 ⟨⟨t, rfl, ht⟩, g4⟩
        have G4 := Lib.hid (hG.out.trans g4)
        have htz : t.size ≤ 1200 := by
          have h1 : t.data.toList.length = t.size := by simp
          rw [ht] at h1; omega
        have HN := Lib.hid (show (S ++ (⟨#[32]⟩ ++ t)).data.toList = bkT (L.take (j + 1)) by rw [HT.out, toList_app, toList_app, hS.out, ht]; rfl)
        have l1 : (⟨#[32]⟩ : ByteArray).size = 1 := rfl
        clear ht g4 hS c0 CT
        go_wp2
        go_roundw
        case rel => exact ⟨j + 1, _, hlt, by go_num, rfl, HN, G4⟩
        case measure => simp [intOf]; omega
      · obtain rfl : j = LB.length := by omega
        have hSL : S.data.toList = bkT L := by rw [hS.out, HLL.out, List.take_length]
        have hz : S.size ≤ 1200 := by
          have h1 : S.data.toList.length = S.size := by simp
          have := HBL.out
          rw [hSL] at h1; omega
        have E3 := Lib.hid (HC.out.gr _ _ HE.out (G2.out.trans hG.out))
        have CW := Lib.hid (HC.out.words S wr E3.out (by omega))
        have HSL := Lib.hid hSL
        clear hSL hS
        go_upto_region 14 with fail
        go_wp2_with fail
        refine CW.out.mono ?_
        rintro e w5 ⟨g5, hout⟩
        rw [HSL.out, lex_back HW.out] at hout
        obtain ⟨v2, LB2, rfl, hR2, hL2⟩ := hout
        obtain rfl : LB = LB2 := pcLL_inj (HL.out.trans hL2.symm)
        obtain ⟨ua, uc, rfl, -⟩ := hR2.shape
        have G5 := Lib.hid ((G2.out.trans hG.out).trans g5)
        have CS := Lib.hid (HC.out.same _ _ LB LB w5 (HC.out.gr _ _ HE.out G5.out) hR2 ((HR.out.grown hG.out).grown g5))
        clear hR2 hL2 g5 CW
        go_upto_region 15 with fail
        go_wp2_with fail
        refine CS.out.mono ?_
        rintro e w6 ⟨⟨z, rfl, hz6⟩, g6⟩
        obtain rfl : z = true := hz6.2 rfl
        have G6 := Lib.hid (G5.out.trans g6)
        clear hz6 g6 CS
        go_wp2
        go_ret
        exact ⟨rfl, G6.out⟩
end Go.Proofs.YtheeeofdgpcfeaaDoor

/- The law ProgClosed, walked. -/
import Derived.Test.YtliefnjhobdphaaDoorPgOf
import Derived.Deep.CutRange
namespace Go.Proofs.YtliefnjhobdphaaDoor
open Go.RowKit

theorem lead_eq (m i : Nat) (c : Ins) : leadB m i c = if c.o = 6 then true else if c.o = 2 then (decide (c.x ≥ 0) && decide (c.x < m)) else if c.o = 1 then ((decide (c.x ≥ 0) && decide (c.x < m)) && (decide (c.y ≥ 0) && decide (c.y < m))) else decide ((i : Int) < m - 1) := by
  unfold leadB
  split
  · rfl
  split
  · rw [Bool.eq_iff_iff]; simp
  split
  · rw [Bool.eq_iff_iff]; simp
  · rw [Bool.eq_iff_iff]; simp; omega

set_option maxRecDepth 100000 in
set_option maxHeartbeats 8000000 in
theorem lProgClosed (A : Nat → Addr) (v : Value) (l : List Ins) (w : World) (hE : QEnv A w) (hm : l.length ≤ maxLen) (h : CRow w v l) :
    Calls Tryd.prog 5 #[v] w fun e w' => e = .returned (.bool true) ∧ w.grownBy w' none := by
  obtain ⟨a, c, rfl⟩ := h.shape
  have HM := Lib.hid hm
  unfold maxLen at hm
  have HA := Lib.hid (lAlive8 A w hE)
  have H0 := Lib.hid h
  have HT0 := Lib.hid (clsT_zero l)
  have HZ := Lib.hid (clsd_eq l)
  have HCC := Lib.hid (fun W h => cClosed (.slice a l.length c) l W hm h)
  generalize clsdB l = z at HZ HCC
  clear h hE
  go_enter Tryd.func5, Tryd.ntmps5
  by_cases h60 : l.length > 60
  · have hd : decide ((l.length : Int) > 60) = true := by simp; omega
    go_wp2_with (go_at_call 6; refine HA.out.mono ?_; rintro e w1 ⟨rfl, g1⟩; have G1 := Lib.hid g1; clear g1)
    go_ret
    exact ⟨rfl, G1.out⟩
  have hd : decide ((l.length : Int) > 60) = false := by simp; omega
  have hb : l.length ≤ 60 := by omega
  clear h60
  obtain ⟨pb, hpb⟩ : ∃ pb, pb = decide (0 < l.length) := ⟨_, rfl⟩
  have hpi : decide ((l.length : Int) > 0) = pb := by rw [hpb, Bool.eq_iff_iff]; simp
  have hpn : decide (0 < l.length) = pb := hpb.symm
  rw [← hpb] at HZ
  clear hpb
  go_wp2_with (go_at_call 6; refine HA.out.mono ?_; rintro e w1 ⟨rfl, g1⟩; have G1 := Lib.hid g1; have K1 := Lib.hid (H0.out.grown g1); clear g1)
  clear hpi hpn
  go_loopw [3, 4, 5, 6, 7, 18] (fun s3 _ _ _ _ y wr => ∃ (j : Nat) (cl : Bool), j ≤ l.length ∧ y = .int .i64 j ∧ s3 = .bool cl ∧ Hid (cl = (pb && clsT l j)) ∧ Hid (w1.grownBy wr none)) (fun _ _ _ _ _ y _ => l.length - (intOf y).toNat)
  case atStart => exact ⟨0, pb, Nat.zero_le _, rfl, rfl, Lib.hid (by rw [HT0.out, Bool.and_true]), Lib.hid (World.grownBy.refl _ _)⟩
  case round =>
    obtain ⟨j, cl, hj, rfl, rfl, hCL, hG⟩ := hrel
    by_cases hlt : j < l.length
    · obtain ⟨x, hx⟩ : ∃ x, l[j]? = some x := ⟨_, List.getElem?_eq_getElem hlt⟩
      have HT := Lib.hid (show (pb && clsT l (j + 1)) = (cl && leadB l.length j x) by rw [clsT_succ hx, hCL.out, Bool.and_assoc])
      have HL := Lib.hid (lead_eq l.length j x)
      obtain ⟨b0, off, rfl, hc⟩ := (K1.out.grown hG.out).at hx
      have c0 : wr.cell? ⟨b0, off + j * 7, none⟩ = some (.int .i64 x.o) := hc 0 _ rfl
      have c1 := hc 1 _ rfl
      have c2 := hc 2 _ rfl
      have c3 := hc 3 _ rfl
      have c4 := hc 4 _ rfl
      have c5 := hc 5 _ rfl
      have c6 := hc 6 _ rfl
      have ga := World.grownBy_alloc wr (.cells #[.int .i64 x.o, .int .i64 x.x, .int .i64 x.y, .int .u64 (wd x.s 0), .int .u64 (wd x.s 1), .int .u64 (wd x.s 2), .int .u64 (wd x.s 3)] 53) none
      have B3 := Lib.hid (heap_alloc_new wr (.cells #[.int .i64 x.o, .int .i64 x.x, .int .i64 x.y, .int .u64 (wd x.s 0), .int .u64 (wd x.s 1), .int .u64 (wd x.s 2), .int .u64 (wd x.s 3)] 53))
      have G3 := Lib.hid (hG.out.trans ga)
      clear hc hx ga
      generalize leadB l.length j x = ld at HT HL
      go_upto_region 9 with fail
      clear c0 c1 c2 c3 c4 c5 c6
      generalize wr.alloc _ = w4 at B3 G3 ⊢
      generalize wr.heap.size = q4 at B3 ⊢
      obtain ⟨c0, c1, c2, c3, c4, c5, c6⟩ := seven_cells B3.out
      obtain ⟨f1, hf1⟩ : ∃ f, decide (x.x ≥ 0) = f := ⟨_, rfl⟩
      obtain ⟨f2, hf2⟩ : ∃ f, decide (x.x < (l.length : Int)) = f := ⟨_, rfl⟩
      obtain ⟨f3, hf3⟩ : ∃ f, decide (x.y ≥ 0) = f := ⟨_, rfl⟩
      obtain ⟨f4, hf4⟩ : ∃ f, decide (x.y < (l.length : Int)) = f := ⟨_, rfl⟩
      rw [hf1, hf2, hf3, hf4] at HL
      obtain ⟨F, hF⟩ : ∃ F, F = (f1 && f2) := ⟨_, rfl⟩
      obtain ⟨S, hS⟩ : ∃ S, S = (f3 && f4) := ⟨_, rfl⟩
      rw [← hF, ← hS] at HL
      have HF := Lib.hid hF; have HS := Lib.hid hS
      clear hF hS
      go_cut [6] from 23 to 32 (fun s6 wx => s6 = .bool F ∧ wx = w4)
      case first =>
        cases f1
        all_goals
          go_wp2
          go_meet
          exact ⟨by rw [HF.out]; rfl, rfl⟩
      case rest =>
        obtain ⟨rfl, rfl⟩ := hcut
        go_upto_region 10 with fail
        go_cut [7] from 33 to 42 (fun s7 wx => s7 = .bool S ∧ wx = wc)
        case first =>
          cases f3
          all_goals
            go_wp2
            go_meet
            exact ⟨by rw [HS.out]; rfl, rfl⟩
        case rest =>
          obtain ⟨rfl, rfl⟩ := hcut
          clear HF HS hf1 hf2 hf3 hf4 hCL
          have ho : ((x.o == 1) = true ∧ x.o = 1) ∨ ((x.o == 1) = false ∧ (x.o == 2) = true ∧ x.o = 2) ∨ ((x.o == 1) = false ∧ (x.o == 2) = false ∧ (x.o == 6) = true ∧ x.o = 6) ∨ ((x.o == 1) = false ∧ (x.o == 2) = false ∧ (x.o == 6) = false ∧ x.o ≠ 1 ∧ x.o ≠ 2 ∧ x.o ≠ 6) := by simp; omega
          rcases ho with ⟨e1, ho⟩ | ⟨e1, e2, ho⟩ | ⟨e1, e2, e6, ho⟩ | ⟨e1, e2, e6, h1, h2, h6⟩
          · have HL2 := Lib.hid (show ld = (F && S) by rw [HL.out, ho]; rfl)
            clear HL ho
            cases cl <;> cases F
            all_goals
              go_wp2
              go_roundw
              case rel => exact ⟨j + 1, _, by omega, by go_num, rfl, Lib.hid (by rw [HT.out, HL2.out]; rfl), G3⟩
              case measure => simp [intOf]; omega
          · have HL2 := Lib.hid (show ld = F by rw [HL.out, ho]; rfl)
            clear HL ho
            cases cl
            all_goals
              go_wp2
              go_roundw
              case rel => exact ⟨j + 1, _, by omega, by go_num, rfl, Lib.hid (by rw [HT.out, HL2.out]; rfl), G3⟩
              case measure => simp [intOf]; omega
          · have HL2 := Lib.hid (show ld = true by rw [HL.out, ho]; rfl)
            clear HL ho
            go_wp2
            go_roundw
            case rel => exact ⟨j + 1, cl, by omega, by go_num, rfl, Lib.hid (by rw [HT.out, HL2.out, Bool.and_true]), G3⟩
            case measure => simp [intOf]; omega
          · obtain ⟨D, hD⟩ : ∃ D, decide ((j : Int) < l.length - 1) = D := ⟨_, rfl⟩
            have HL2 := Lib.hid (show ld = D by rw [HL.out, if_neg h6, if_neg h2, if_neg h1, hD])
            clear HL h1 h2 h6
            cases cl
            all_goals
              go_wp2
              go_roundw
              case rel => exact ⟨j + 1, _, by omega, by go_num, rfl, Lib.hid (by rw [HT.out, HL2.out]; rfl), G3⟩
              case measure => simp [intOf]; omega
    · obtain rfl : j = l.length := by omega
      have HE := Lib.hid (show (z == cl) = true by rw [HZ.out, hCL.out]; simp)
      have HCW := Lib.hid (HCC.out wr (K1.out.grown hG.out))
      go_wp2_with (go_at_call 12; (with_reducible refine HCW.out.mono ?_); rintro e w5 ⟨rfl, g5⟩; have G5 := Lib.hid ((G1.out.trans hG.out).trans g5); clear g5)
      go_ret
      exact ⟨ret_bool HE.out, G5.out⟩
end Go.Proofs.YtliefnjhobdphaaDoor

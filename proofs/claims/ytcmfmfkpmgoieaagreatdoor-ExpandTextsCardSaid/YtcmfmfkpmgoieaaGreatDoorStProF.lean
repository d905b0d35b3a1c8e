/- Walks of package stem: a pattern with a stem. -/
import Derived.Test.YtcmfmfkpmgoieaaGreatDoorStPro
import Derived.Test.YtcmfmfkpmgoieaaGreatDoorStMat
import Derived.Test.YtcmfmfkpmgoieaaGreatDoorQtRow
namespace Go.Proofs.YtcmfmfkpmgoieaaGreatDoor
open Go.RowKit

theorem fil_small {l s : List UInt8} (hl : l.length ≤ 200) (hs : s.length ≤ 200) : (filS l s).length ≤ 40200 := by
  have h1 := fil_len l s
  have h2 := Nat.mul_le_mul hl (show s.length + 1 ≤ 201 by omega)
  omega
set_option maxRecDepth 100000 in
set_option maxHeartbeats 4000000 in
theorem pFill (p s : ByteArray) (w : World) (hp : p.size ≤ 200) (hs : s.size ≤ 200) : Calls Tryz.prog 93 #[.string p, .string s] w fun e w' => e = .returned (.string ⟨(filS p.data.toList s.data.toList).toArray⟩) ∧ w.grownBy w' none := by
  obtain ⟨F, hF⟩ : ∃ F, filS p.data.toList s.data.toList = F := ⟨_, rfl⟩
  have HFL := Lib.hid (show F.length ≤ 40200 by rw [← hF]; exact fil_small (by rw [← Lib.size_eq]; exact hp) (by rw [← Lib.size_eq]; exact hs))
  rw [hF]
  have HF := Lib.hid (show F = [] ++ filS p.data.toList s.data.toList from hF.symm)
  have BD := Lib.hid (Lib.fresh_isBuilder 163 5 w)
  have BL := Lib.hid ((Below.refl w.heap.size w).alloc (Nat.le_refl _) (.cells #[.pointer none, .slice none 0 0] 163))
  have CW0 := Lib.hid (fun w => pWild p w (by omega))
  clear hF
  go_enter Tryz.func93, Tryz.ntmps93
  go_upto_region 2 with fail
  generalize w.alloc (.cells #[.pointer none, .slice none 0 0] 163) = wb at *
  obtain ⟨b, hb⟩ : ∃ b, w.heap.size = b := ⟨_, rfl⟩
  rw [hb] at BD BL ⊢
  have HB := Lib.hid hb
  clear hb
  go_wp2_with (go_at_call 105; (with_reducible refine (CW0.out _).mono ?_); rintro e w1 ⟨rfl, g1⟩; have G1 := Lib.hid g1; clear g1)
  have BD1 := Lib.hid (show BldQ b [] w1 from BldQ.kept (W := []) BD.out G1.out)
  have BL1 := Lib.hid (BL.out.trans ((below_of_grown G1.out).mono (by have := BL.out.size; have := HB.out; omega)))
  clear BD BL G1 CW0
  go_loopg [0, 6] p.size (fun g q_ at_ wr => ∃ (q : ByteArray) (W : List UInt8), q_ = .string q ∧ at_ = .int .i64 (wldN q.data.toList) ∧ g = q.size ∧ q.size ≤ 200 ∧ Hid (F = W ++ filS q.data.toList s.data.toList) ∧ Hid (BldQ b W wr) ∧ Hid (Below b w wr))
  case atStart => exact ⟨p, [], rfl, rfl, rfl, hp, HF, BD1, BL1⟩
  case round =>
    obtain ⟨q, W, rfl, rfl, rfl, hq, hF, hBD, hBL⟩ := hrel
    have GR := Lib.hid (show w.grownBy wr none from grown_of_below (by rw [HB.out]; exact hBL.out))
    have hbs : b ≤ wr.heap.size := by have := hBL.out.size; have := HB.out; omega
    rcases wld_cases q.data.toList with hno | ⟨a, c, z, e, ha, hc⟩
    · rw [wldN_none hno]
      have HE := Lib.hid (show F = W ++ q.data.toList by rw [hF.out, fil_none hno])
      clear hno
      have hl := congrArg List.length HE.out
      rw [List.length_append, ← Lib.size_eq] at hl
      have CT := Lib.hid (show Calls Tryz.prog 106 #[.pointer (some ⟨b, 0, none⟩), .string q] wr fun e w' => e = .returned (.tuple #[.int .i64 q.size, .nilIface]) ∧ BldQ b F w' ∧ Below b wr w' by
        rw [HE.out]
        exact bText b W q wr hBD.out (by have := HFL.out; omega) hbs)
      clear hl
      go_wp2_with (go_at_call 106; (with_reducible refine CT.out.mono ?_); rintro e w6 ⟨rfl, b6, l6⟩; have B6 := Lib.hid b6; have L6 := Lib.hid l6; clear b6 l6)
      have CS := Lib.hid (bSaid b F w6 B6.out (by have := L6.out.size; omega))
      go_wp2_with (go_at_call 107; (with_reducible refine CS.out.mono ?_); rintro e w7 ⟨rfl, l7⟩; have L7 := Lib.hid l7; clear l7)
      go_ret
      exact ⟨rfl, grown_of_below (by rw [HB.out]; exact (hBL.out.trans L6.out).trans L7.out)⟩
    · obtain ⟨hk, hkc, hz, hA, hZ⟩ := wild_at e
      have HE := Lib.hid (show F = ((W ++ (q.extract 0 a.length).data.toList) ++ s.data.toList) ++ filS (q.extract (a.length + 1) q.size).data.toList s.data.toList by
        rw [hF.out, e, fil_at ha hc, hA, hZ]; simp)
      rw [e, wldN_at ha hc]
      clear e ha hc hkc hA hZ hF
      generalize a.length = k at hk hz HE ⊢
      generalize z.length = m at hz
      have hne : ((k : Int) != -1) = true := by rw [bne_iff_ne]; omega
      have i1 : (k : Int) ≤ (k : Int) + 1 + m := by omega
      have i2 : (k : Int) + 1 ≤ (k : Int) + 1 + m := by omega
      have hl := congrArg List.length HE.out
      rw [List.length_append, List.length_append, List.length_append, ← Lib.size_eq, ← Lib.size_eq] at hl
      have hx : (q.extract (k + 1) q.size).size = m := by simp; omega
      have CT := Lib.hid (bText b W (q.extract 0 k) wr hBD.out (by have := HFL.out; omega) hbs)
      have CT2 := Lib.hid (fun w (h : BldQ b (W ++ (q.extract 0 k).data.toList) w) (hw : b ≤ w.heap.size) => bText b (W ++ (q.extract 0 k).data.toList) s w h (by rw [List.length_append, ← Lib.size_eq]; have := HFL.out; omega) hw)
      have CW := Lib.hid (fun w => pWild (q.extract (k + 1) q.size) w (by omega))
      clear hl
      rw [hz] at CW HE hx
      go_wp2_with (go_at_call 106; (with_reducible refine CT.out.mono ?_); rintro e w6 ⟨rfl, b6, l6⟩; have B6 := Lib.hid b6; have L6 := Lib.hid l6; clear b6 l6)
      refine (CT2.out w6 B6.out (by have := L6.out.size; omega)).mono ?_
      rintro e w7 ⟨rfl, b7, l7⟩
      have B7 := Lib.hid b7; have L7 := Lib.hid l7
      clear b7 l7
      go_wp2_with (go_at_call 105; (with_reducible refine (CW.out _).mono ?_); rintro e w8 ⟨rfl, g8⟩; have G8 := Lib.hid g8; clear g8)
      have B8 := Lib.hid (B7.out.kept G8.out)
      have L8 := Lib.hid (((hBL.out.trans L6.out).trans L7.out).trans ((below_of_grown G8.out).mono (by have := L6.out.size; have := L7.out.size; omega)))
      go_roundg m
      case rel => exact ⟨q.extract (k + 1) (k + 1 + m), _, rfl, by simp, hx.symm, by omega, HE, B8, L8⟩
      case measure => omega
/-- each of a list with a stem -/
def filT (l : List ByteArray) (s : List UInt8) : List ByteArray := l.map fun p => ⟨(filS p.data.toList s).toArray⟩
theorem filT_take {l : List ByteArray} {s : List UInt8} {j : Nat} {x : ByteArray} (h : l[j]? = some x) : filT (l.take (j + 1)) s = filT (l.take j) s ++ [⟨(filS x.data.toList s).toArray⟩] := by
  unfold filT; rw [List.take_add_one, h, List.map_append]; rfl
end Go.Proofs.YtcmfmfkpmgoieaaGreatDoor

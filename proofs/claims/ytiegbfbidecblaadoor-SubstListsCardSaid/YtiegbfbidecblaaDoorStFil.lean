/- The document's own answers of layer 15: a pattern with a stem. -/
import Derived.Test.YtiegbfbidecblaaDoorStMat
namespace Go.Proofs.YtiegbfbidecblaaDoor
open Go.RowKit

theorem app_st (a b : ByteArray) : (a ++ b).data.toList = a.data.toList ++ b.data.toList := by simp
theorem ba_st {x : ByteArray} {l : List UInt8} (h : x.data.toList = l) : x = ⟨l.toArray⟩ := by subst h; simp
set_option maxRecDepth 100000 in
set_option maxHeartbeats 4000000 in
theorem dFill_step (n : Nat) (p s : ByteArray) (w : World) (hp : p.size ≤ 5000) (hs : s.size ≤ 5000) (hn : p.size ≤ n)
    (ih : ∀ (q : ByteArray) (w : World), q.size < n → q.size ≤ 5000 → Calls Tryd.prog 20 #[.string q, .string s] w fun e w' => e = .returned (.string ⟨(filS q.data.toList s.data.toList).toArray⟩) ∧ ∃ n, w' = w.drewN n) :
    Calls Tryd.prog 20 #[.string p, .string s] w fun e w' => e = .returned (.string ⟨(filS p.data.toList s.data.toList).toArray⟩) ∧ ∃ n, w' = w.drewN n := by
  have CW := Lib.hid (dWild p w hp)
  rcases wld_cases p.data.toList with hno | ⟨a, c, z, e, ha, hc⟩
  · rw [wldN_none hno] at CW
    have HF := Lib.hid (show (⟨(filS p.data.toList s.data.toList).toArray⟩ : ByteArray) = p by rw [fil_none hno])
    clear hno ih
    go_enter Tryd.func20, Tryd.ntmps20
    go_wp2_with (go_at_call 27; (with_reducible refine CW.out.mono ?_); rintro e w1 ⟨rfl, rfl⟩)
    go_ret
    exact ⟨by rw [HF.out]; rfl, 0, rfl⟩
  · obtain ⟨hk, hkc, hz, hA, hZ⟩ := wild_at e
    have CW := CW.out
    rw [e, wldN_at ha hc] at CW
    have CW := Lib.hid CW
    have CI := Lib.hid (fun w => ih (p.extract (a.length + 1) p.size) w (by simp; omega) (by simp; omega))
    have HF := Lib.hid (show (⟨(filS p.data.toList s.data.toList).toArray⟩ : ByteArray) = p.extract 0 a.length ++ s ++ ⟨(filS (p.extract (a.length + 1) p.size).data.toList s.data.toList).toArray⟩ by
      rw [e, fil_at ha hc]
      refine (ba_st ?_).symm
      rw [app_st, app_st, hA, hZ])
    clear e ha hc ih hkc hA hZ
    generalize a.length = k at hk hz CW CI HF
    generalize z.length = m at hz
    rw [hz] at CI HF
    have hu : (⟨(filS (p.extract (k + 1) (k + 1 + m)).data.toList s.data.toList).toArray⟩ : ByteArray).size ≤ 30000000 := by
      have h1 := fil_len (p.extract (k + 1) (k + 1 + m)).data.toList s.data.toList
      rw [← Lib.size_eq, ← Lib.size_eq] at h1
      have h2 : (p.extract (k + 1) (k + 1 + m)).size ≤ 5000 := by simp; omega
      have h3 := Nat.mul_le_mul h2 (show s.size + 1 ≤ 5001 by omega)
      show (filS (p.extract (k + 1) (k + 1 + m)).data.toList s.data.toList).toArray.size ≤ 30000000
      rw [List.size_toArray]
      omega
    generalize (⟨(filS (p.extract (k + 1) (k + 1 + m)).data.toList s.data.toList).toArray⟩ : ByteArray) = u at CI HF hu
    have i1 : (k : Int) ≤ p.size := by omega
    have i2 : (k : Int) + 1 ≤ p.size := by omega
    have i3 : (k : Int) ≤ (k : Int) + 1 + m := by omega
    have i4 : (k : Int) + 1 ≤ (k : Int) + 1 + m := by omega
    have i5 : (0 : Int) ≤ (k : Int) + 1 := by omega
    have j1 : (p.extract 0 k).size = k := by simp; omega
    go_enter Tryd.func20, Tryd.ntmps20
    go_wp2_with (go_at_call 27; (with_reducible refine CW.out.mono ?_); rintro e w1 ⟨rfl, rfl⟩)
    go_quiet ((go_at_call 20; exact (CI.out _).mono fun e w' ⟨he, n, hw⟩ => ⟨he, _, hw.trans (World.drewN_drewN _ _ _)⟩))
    go_wp2
    go_ret
    exact ⟨by rw [HF.out]; rfl, _, rfl⟩
theorem dFill : ∀ (n : Nat) (p s : ByteArray) (w : World), p.size ≤ n → p.size ≤ 5000 → s.size ≤ 5000 →
    Calls Tryd.prog 20 #[.string p, .string s] w fun e w' => e = .returned (.string ⟨(filS p.data.toList s.data.toList).toArray⟩) ∧ ∃ n, w' = w.drewN n
  | 0, p, s, w, h, hp, hs => dFill_step 0 p s w hp hs h (fun q w hq => absurd hq (Nat.not_lt_zero _))
  | n + 1, p, s, w, h, hp, hs => dFill_step (n + 1) p s w hp hs h (fun q w hq hq5 => dFill n q s w (by omega) hq5 hs)
end Go.Proofs.YtiegbfbidecblaaDoor

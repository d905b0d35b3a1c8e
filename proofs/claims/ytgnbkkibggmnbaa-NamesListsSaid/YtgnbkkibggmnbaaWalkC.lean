/- Directory, base and suffix. -/
import Derived.Test.YtgnbkkibggmnbaaWalkB
import Derived.Test.YtgnbkkibggmnbaaShelf
import Derived.WalkSpells
namespace Go.Proofs.Ytgnbkkibggmnbaa
open Go.RowKit

theorem ret_str {a b : ByteArray} (h : a = b) : Ending.returned (.string a) = .returned (.string b) := by rw [h]

theorem last_nat (s : ByteArray) (c : Int) (q : Nat) (h : Lib.lastIndexByte s c = q) (hs : s.size < 4611686018427387904) (w : World) :
    Calls Try.prog 35 #[.string s, .int .u8 c] w fun e w' => e = .returned (.int .i64 q) ∧ w = w' :=
  (Try.strings_LastIndexByte s c hs w).mono fun _ _ ⟨he, hw⟩ => ⟨by rw [he, h], hw.symm⟩

theorem nBaseStart (s : ByteArray) (w : World) (hs : s.size ≤ maxLen) (hz : s.size < 4611686018427387904) :
    Calls Try.prog 34 #[.string s] w fun e w' => e = .returned (.int .i64 (baseN s)) ∧ w = w' := by
  unfold maxLen at hs
  have hb := Lib.hid (baseN_int s)
  have h1 : -1 ≤ Lib.lastIndexByte s 47 := last_lo s 47 _
  have h2 : Lib.lastIndexByte s 47 < s.size := last_hi s 47 _
  go_enter Try.func34, Try.ntmps34
  go_wp2_with (go_at_call 35; refine (Try.strings_LastIndexByte _ _ hz _).mono ?_; rintro e w' ⟨rfl, rfl⟩)
  go_ret
  exact ⟨ret_int hb.out.symm, rfl⟩

theorem nDir (s : ByteArray) (w : World) (hs : s.size ≤ maxLen) (hz : s.size < 4611686018427387904) :
    Calls Try.prog 13 #[.string s] w fun e w' => e = .returned (.string (s.extract 0 (baseN s))) ∧ w = w' := by
  have hb := baseN_le s
  have hs' := hs
  unfold maxLen at hs'
  go_enter Try.func13, Try.ntmps13
  go_wp2_with (go_at_call 34; refine (nBaseStart _ _ hs hz).mono ?_; rintro e w' ⟨rfl, rfl⟩)
  go_ret
  exact ⟨rfl, rfl⟩

theorem nBase (s : ByteArray) (w : World) (hs : s.size ≤ maxLen) (hz : s.size < 4611686018427387904) :
    Calls Try.prog 14 #[.string s] w fun e w' => e = .returned (.string (s.extract (baseN s) s.size)) ∧ w = w' := by
  have hb := baseN_le s
  have hs' := hs
  unfold maxLen at hs'
  go_enter Try.func14, Try.ntmps14
  go_wp2_with (go_at_call 34; refine (nBaseStart _ _ hs hz).mono ?_; rintro e w' ⟨rfl, rfl⟩)
  go_ret
  exact ⟨rfl, rfl⟩

theorem nSuffix (s : ByteArray) (w : World) (hs : s.size ≤ maxLen) (hz : s.size < 4611686018427387904) :
    Calls Try.prog 15 #[.string s] w fun e w' => e = .returned (.string (sufB s)) ∧ w = w' := by
  have hb := baseN_le s
  have hs' := hs
  unfold maxLen at hs'
  have hsz : (s.extract (baseN s) s.size).size ≤ s.size := by rw [ByteArray.size_extract]; omega
  have heq := Lib.hid (suf_of_base s)
  have h1 : -1 ≤ Lib.lastIndexByte (s.extract (baseN s) s.size) 46 := last_lo _ 46 _
  have h2 : Lib.lastIndexByte (s.extract (baseN s) s.size) 46 < s.size - baseN s := by
    have := last_hi (s.extract (baseN s) s.size) 46 (s.extract (baseN s) s.size).size
    have h3 : (s.extract (baseN s) s.size).size = s.size - baseN s := by rw [ByteArray.size_extract]; omega
    unfold Lib.lastIndexByte; omega
  by_cases hlt : Lib.lastIndexByte (s.extract (baseN s) s.size) 46 < 1
  · go_enter Try.func15, Try.ntmps15
    go_wp2_with (first | (go_at_call 14; refine (nBase _ _ hs hz).mono ?_; rintro e w' ⟨rfl, rfl⟩) | (go_at_call 35; refine (Try.strings_LastIndexByte _ _ (by omega) _).mono ?_; rintro e w' ⟨rfl, rfl⟩))
    go_ret
    exact ⟨ret_str (heq.out.1 hlt).symm, rfl⟩
  · obtain ⟨q, hq⟩ : ∃ q : Nat, Lib.lastIndexByte (s.extract (baseN s) s.size) 46 = q := ⟨(Lib.lastIndexByte (s.extract (baseN s) s.size) 46).toNat, by omega⟩
    have hr : Hid (sufB s = (s.extract (baseN s) s.size).extract q (s.size - baseN s)) := by
      have h4 := heq.out.2 (by omega)
      rw [hq] at h4; exact h4
    rw [hq] at h1 h2 hlt
    have h5 : (q : Int) ≤ s.size - baseN s := by omega
    have HQ := Lib.hid hq
    clear hq heq h1
    have hsl := fun wx => run_slice_of_slice (P := Try.prog) 9 Try.underlying9 s (baseN s) s.size q (s.size - baseN s) (by omega) (by omega) wx
    go_enter Try.func15, Try.ntmps15
    go_wp2_with (first | (go_at_call 14; refine (nBase _ _ hs hz).mono ?_; rintro e w' ⟨rfl, rfl⟩) | (go_at_call 35; refine (last_nat _ _ q HQ.out (by omega) _).mono ?_; rintro e w' ⟨rfl, rfl⟩))
    go_ret
    exact ⟨ret_str hr.out.symm, rfl⟩

set_option maxHeartbeats 400000 in
theorem rSuffix (s : ByteArray) (w : World) (hs : s.size ≤ maxLen) :
    Calls Try.prog 16 #[.string s] w fun e w' => e = .returned (.string (sufB s)) ∧ w = w' := by
  have hs' := hs
  unfold maxLen at hs'
  have hbl := baseN_le s
  go_enter Try.func16, Try.ntmps16
  go_wp2
  go_loop [3] (fun i => ∃ k : Nat, k ≤ s.size ∧ i = .int .i64 ((k : Int) - 1) ∧ Hid (Lib.lastIndexByte s 46 = Lib.lastIdx s 46 k)) (fun i => (intOf i + 1).toNat)
  case atStart => exact ⟨s.size, Nat.le_refl _, rfl, rfl⟩
  case round =>
    obtain ⟨k, hk, rfl, ha⟩ := hrel
    by_cases hlt : (baseN s : Int) < (k : Int) - 1
    · obtain ⟨j, rfl⟩ : ∃ j, k = j + 1 := ⟨k - 1, by omega⟩
      have e1 : ((j + 1 : Nat) : Int) - 1 = (j : Int) := by omega
      rw [e1] at hlt ⊢
      clear e1
      have hst := Lib.hid (suf_step s j (by omega) hlt ha.out)
      by_cases hc : ((s[j].toNat : Int) == 46) = true
      · go_wp2_with (go_at_call 12; refine (rBase _ _ hs).mono ?_; rintro e w' ⟨rfl, rfl⟩)
        go_ret
        exact ⟨ret_str (hst.out.1 (by simpa using hc)).symm, rfl⟩
      · have hc' : ((s[j].toNat : Int) == 46) = false := by simpa using hc
        go_wp2_with (go_at_call 12; refine (rBase _ _ hs).mono ?_; rintro e w' ⟨rfl, rfl⟩)
        go_round
        case rel => exact ⟨j, by omega, rfl, hst.out.2 (by simpa using hc)⟩
        case measure => simp [intOf]
    · have hn := Lib.hid (suf_none s k (by omega) ha.out)
      go_wp2_with (go_at_call 12; refine (rBase _ _ hs).mono ?_; rintro e w' ⟨rfl, rfl⟩)
      go_ret
      exact ⟨ret_str hn.out.symm, rfl⟩
end Go.Proofs.Ytgnbkkibggmnbaa

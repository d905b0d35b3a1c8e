/- The document's own answers of layer 15: where the wild sign stands, which texts fit, a pattern with a stem. -/
import Derived.Test.YtiegbfbidecblaaDoorStPlain
import Derived.Test.YtiegbfbidecblaaDoorGrown
import Derived.WalkSmall
namespace Go.Proofs.YtiegbfbidecblaaDoor
open Go.RowKit

theorem at_st {s : ByteArray} {i : Nat} (h : i < s.size) : s.data.toList[i]? = some s[i] := by
  rw [List.getElem?_eq_getElem (by simpa using h)]; rfl
theorem cut_st {s : ByteArray} (j e : Nat) : (s.extract j e).data.toList = (s.data.toList.take e).drop j := by
  have e1 : (s.extract j e).data.toList = (s.data.toList.drop j).take (e - j) := by simp
  rw [e1, List.drop_take]
theorem rest_st {s : ByteArray} (j : Nat) : (s.extract j s.size).data.toList = s.data.toList.drop j := by
  rw [cut_st, List.take_of_length_le (by simp)]
theorem head_st {s : ByteArray} (e : Nat) : (s.extract 0 e).data.toList = s.data.toList.take e := by
  rw [cut_st, List.drop_zero]
theorem byte_st {b : UInt8} {n : Nat} (hn : n < 256) : ((b.toNat : Int) == (n : Int)) = (b == UInt8.ofNat n) := by
  rw [Bool.eq_iff_iff, beq_iff_eq, beq_iff_eq, ← UInt8.toNat_inj, UInt8.toNat_ofNat']
  omega

set_option maxRecDepth 100000 in
set_option maxHeartbeats 4000000 in
theorem dWild (p : ByteArray) (w : World) (hp : p.size ≤ 5000) : Calls Tryd.prog 27 #[.string p] w fun e w' => e = .returned (.int .i64 (wldN p.data.toList)) ∧ w = w' := by
  have HZ := Lib.hid (wldA_zero p.data.toList)
  have HE := Lib.hid (wldA_end (l := p.data.toList) (j := p.size) (by simp))
  generalize wldN p.data.toList = v at HZ ⊢
  go_enter Tryd.func27, Tryd.ntmps27
  go_wp2
  go_loop [3, 4] (fun at' i => ∃ (j : Nat) (x : Int), j ≤ p.size ∧ x = (j : Int) - 1 ∧ i = .int .i64 x ∧ at' = .int .i64 (wldA p.data.toList j)) (fun _ i => (intOf i + 1).toNat)
  case atStart => exact ⟨p.size, _, Nat.le_refl _, rfl, rfl, by rw [HE.out]⟩
  case round =>
    obtain ⟨j, x, hj, hx, rfl, rfl⟩ := hrel
    cases j with
    | zero =>
      have hx0 : x < 0 := by omega
      clear hx
      rw [HZ.out]
      go_wp2
      go_ret
      exact ⟨rfl, rfl⟩
    | succ j =>
      obtain rfl : x = (j : Int) := by omega
      clear hx
      have HJ := Lib.hid (at_st (show j < p.size by omega))
      have hjl : j < p.size := by omega
      have e1 : (((p[j]).toNat : Int) == 37) = (p[j] == UInt8.ofNat 37) := byte_st (n := 37) (by decide)
      have e2 : (((p[j]).toNat : Int) == 38) = (p[j] == UInt8.ofNat 38) := byte_st (n := 38) (by decide)
      obtain ⟨f1, h1⟩ : ∃ f, f = (p[j] == UInt8.ofNat 37) := ⟨_, rfl⟩
      obtain ⟨f2, h2⟩ : ∃ f, f = (p[j] == UInt8.ofNat 38) := ⟨_, rfl⟩
      rw [← h1] at e1
      rw [← h2] at e2
      have HB := Lib.hid (show wldB p[j] = (f1 || f2) by unfold wldB; rw [h1, h2]; rfl)
      clear h1 h2
      cases f1 <;> cases f2
      · have HV := Lib.hid (wldA_miss HJ.out HB.out)
        go_wp2
        go_round
        case rel => exact ⟨j, _, by omega, rfl, by go_num, by rw [HV.out]⟩
        case measure => simp [intOf]
      all_goals
        have HV := Lib.hid (wldA_hit HJ.out HB.out)
        go_wp2
        go_round
        case rel => exact ⟨j, _, by omega, rfl, by go_num, by rw [HV.out]⟩
        case measure => simp [intOf]
end Go.Proofs.YtiegbfbidecblaaDoor

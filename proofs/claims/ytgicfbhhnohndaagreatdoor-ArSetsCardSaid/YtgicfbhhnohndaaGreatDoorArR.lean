/- Walks of the document's layer 3: a member's name, a column, figures. -/
import Derived.Test.YtgicfbhhnohndaaGreatDoorArC
namespace Go.Proofs.YtgicfbhhnohndaaGreatDoor
open Go.RowKit

set_option maxRecDepth 100000 in
set_option maxHeartbeats 1000000 in
theorem rNamed (s : ByteArray) (w : World) (hs : s.size ≤ maxLen) :
    Calls Tryz.prog 18 #[.string s] w fun e w' => e = .returned (.bool (nameB s)) ∧ w = w' := by
  unfold maxLen at hs
  go_enter Tryz.func18, Tryz.ntmps18
  go_wp2
  go_loop [3, 4] (fun i _ => ∃ k : Nat, k ≤ s.size ∧ i = .int .i64 k ∧ Hid ((s.data.toList.take k).all namc = true)) (fun i _ => s.size - (intOf i).toNat)
  case atStart => exact ⟨0, Nat.zero_le _, rfl, Lib.hid rfl⟩
  case round =>
    obtain ⟨k, hk, rfl, ha⟩ := hrel
    by_cases hlt : k < s.size
    · have hbad : Hid (namc s[k] = false → nameB s = false) := name_bad s k hlt
      have hgood : Hid (namc s[k] = true → (s.data.toList.take (k + 1)).all namc = true) := all_snoc s k hlt namc ha.out
      by_cases hc1 : (s[k].toNat : Int) < 33
      · have HN := Lib.hid (hbad (by unfold namc okc; simp; intro h; omega))
        go_wp2
        go_ret
        exact ⟨ret_bool HN.out.symm, rfl⟩
      by_cases hc2 : 126 < (s[k].toNat : Int)
      · have HN := Lib.hid (hbad (by unfold namc okc; simp; intro h; omega))
        go_wp2
        go_ret
        exact ⟨ret_bool HN.out.symm, rfl⟩
      cases e1 : ((s[k].toNat : Int) == 47)
      · cases e2 : ((s[k].toNat : Int) == 40)
        · cases e3 : ((s[k].toNat : Int) == 41)
          · have HG := Lib.hid (hgood (by
              unfold namc brc okc
              rw [e1, e2, e3, decide_eq_true (by omega), decide_eq_true (by omega)]; rfl))
            go_wp2
            go_round
            case rel => exact ⟨k + 1, by omega, by go_num, HG⟩
            case measure => simp [intOf]; omega
          · have HN := Lib.hid (hbad (by unfold namc brc; rw [e3]; simp))
            go_wp2
            go_ret
            exact ⟨ret_bool HN.out.symm, rfl⟩
        · have HN := Lib.hid (hbad (by unfold namc brc; rw [e2]; simp))
          go_wp2
          go_ret
          exact ⟨ret_bool HN.out.symm, rfl⟩
      · have HN := Lib.hid (hbad (by unfold namc brc; rw [e1]; simp))
        go_wp2
        go_ret
        exact ⟨ret_bool HN.out.symm, rfl⟩
    · have HN := Lib.hid (name_end s k (by omega) ha.out)
      by_cases h1 : s.size < 1
      · have d1 : decide ((1 : Int) ≤ (s.size : Int)) = false := decide_eq_false (by omega)
        have HM := Lib.hid (show nameB s = false by rw [HN.out, decide_eq_false (by omega)]; rfl)
        go_wp2
        go_ret
        exact ⟨ret_bool (by rw [HM.out]), rfl⟩
      · have d1 : decide ((1 : Int) ≤ (s.size : Int)) = true := decide_eq_true (by omega)
        have HM := Lib.hid (show nameB s = decide ((s.size : Int) ≤ 15) by rw [HN.out, decide_eq_true (by omega), Bool.true_and]; exact decide_eq_decide.2 (by omega))
        go_wp2
        go_ret
        exact ⟨ret_bool HM.out.symm, rfl⟩

theorem blank_snoc {s x : ByteArray} {j : Nat} (h : x.data.toList = s.data.toList ++ List.replicate j 32) : (x ++ (⟨#[32]⟩ : ByteArray)).data.toList = s.data.toList ++ List.replicate (j + 1) 32 := by
  rw [ba_app, h, List.append_assoc, List.replicate_succ']
set_option maxHeartbeats 1000000 in
theorem rWide {s x : ByteArray} {n : Nat} (w : World) (hn : n ≤ 100) (hx : x.data.toList = padL s.data.toList n) :
    Calls Tryz.prog 34 #[.string s, .int .i64 n] w fun e w' => e = .returned (.string x) ∧ w = w' := by
  have HX := Lib.hid hx
  clear hx
  go_enter Tryz.func34, Tryz.ntmps34
  go_wp2
  go_loopg [0] (n - s.size) (fun g r wr => ∃ (y : ByteArray) (j : Nat), r = .string y ∧ g = n - y.size ∧ Hid (y.data.toList = s.data.toList ++ List.replicate j 32) ∧ y.size = s.size + j ∧ (j = 0 ∨ s.size + j ≤ n) ∧ w = wr)
  case atStart => exact ⟨s, 0, rfl, rfl, Lib.hid (by simp), rfl, .inl rfl, rfl⟩
  case round =>
    obtain ⟨y, j, rfl, rfl, hy, hz, hj, rfl⟩ := hrel
    by_cases hlt : y.size < n
    · have HY := Lib.hid (blank_snoc hy.out)
      have hlt' : (y.size : Int) < (n : Int) := by omega
      have hz2 : y.size ≤ 100 := by omega
      have HZ := Lib.hid hz
      clear hz
      go_wp2
      go_roundg (n - (y.size + 1))
      case measure => omega
      case rel => exact ⟨_, j + 1, rfl, by rw [ByteArray.size_append]; rfl, HY, by rw [ByteArray.size_append]; have := HZ.out; show y.size + 1 = _; omega, .inr (by have := HZ.out; omega), rfl⟩
    · have HE := Lib.hid (show y = x from ba_ext (by
        rw [hy.out, HX.out]; unfold padL; rw [bytes_len]
        congr 2; omega))
      have hlt' : ¬ (y.size : Int) < (n : Int) := by omega
      clear hz
      go_wp2
      go_ret
      exact ⟨ret_str HE.out, rfl⟩

theorem fig_last (d : Nat) (h : d < 10) : ((⟨#[48, 49, 50, 51, 52, 53, 54, 55, 56, 57]⟩ : ByteArray).extract d (d + 1)).data.toList = [UInt8.ofNat (48 + d)] := by
  have : ∀ d : Fin 10, ((⟨#[48, 49, 50, 51, 52, 53, 54, 55, 56, 57]⟩ : ByteArray).extract d.1 (d.1 + 1)).data.toList = [UInt8.ofNat (48 + d.1)] := by decide
  exact this ⟨d, h⟩
set_option maxRecDepth 100000 in
set_option maxHeartbeats 1000000 in
theorem rFigures (n : Nat) : ∀ {x : ByteArray} (w : World), n ≤ 9223372036854775807 → x.data.toList = Lib.decDigits n →
    Calls Tryz.prog 35 #[.int .i64 n] w fun e w' => e = .returned (.string x) ∧ w = w' := by
  induction n using Nat.strongRecOn with
  | _ n ih =>
    intro x w hn hx
    have HF := Lib.hid (fig_last (n % 10) (by omega))
    have h0 : (0 : Int) ≤ (n : Int) := by omega
    have hz : ((⟨#[48, 49, 50, 51, 52, 53, 54, 55, 56, 57]⟩ : ByteArray).extract (n % 10) (n % 10 + 1)).size = 1 := by rw [ByteArray.size_extract]; show min (n % 10 + 1) 10 - n % 10 = 1; omega
    by_cases h10 : n < 10
    · have HX := Lib.hid (show (⟨#[]⟩ : ByteArray) ++ (⟨#[48, 49, 50, 51, 52, 53, 54, 55, 56, 57]⟩ : ByteArray).extract (n % 10) (n % 10 + 1) = x from ba_ext (by
        rw [ba_app, HF.out, hx, Lib.decDigits_one h10, Nat.mod_eq_of_lt h10]; rfl))
      have h1 : (n : Int) < 10 := by omega
      clear ih hx
      go_enter Tryz.func35, Tryz.ntmps35
      go_wp2
      go_ret
      exact ⟨ret_str HX.out, rfl⟩
    · obtain ⟨y, hy, zy⟩ := some_ba (Lib.decDigits (n / 10))
      have HX := Lib.hid (show y ++ (⟨#[48, 49, 50, 51, 52, 53, 54, 55, 56, 57]⟩ : ByteArray).extract (n % 10) (n % 10 + 1) = x from ba_ext (by
        rw [ba_app, HF.out, hy, hx]
        have := digits_snoc (n := n / 10) (d := n % 10) (by omega) (by omega)
        rw [← this]; congr 1; omega))
      have hcon := fun (W : World) => ih (n / 10) (by omega) W (by omega) hy
      rw [show ((n / 10 : Nat) : Int) = (n : Int) / 10 by omega] at hcon
      have HC := Lib.hid hcon
      have h1 : (10 : Int) ≤ (n : Int) := by omega
      have ys : y.size ≤ 20 := by
        rw [zy, Lib.decDigits_length]
        have := nDigits_le 19 (n / 10) (by omega)
        omega
      clear ih hx hy zy hcon
      go_enter Tryz.func35, Tryz.ntmps35
      go_wp2_with (go_at_call 35; refine (HC.out _).mono ?_; rintro e w' ⟨rfl, rfl⟩)
      go_ret
      exact ⟨ret_str HX.out, rfl⟩
end Go.Proofs.YtgicfbhhnohndaaGreatDoor

/- Walks of package lines: how many lines a text has, its lines, whether a line is a recipe's, where a comment begins. -/
import Derived.Test.YtigjmaicolgalaaDoorLnRead
import Derived.Test.YtigjmaicolgalaaDoorLnOut
import Derived.Test.YtigjmaicolgalaaDoorQtBld
import Derived.Shelf.Strings.PiecesUse
namespace Go.Proofs.YtigjmaicolgalaaDoor
open Go.RowKit

theorem no_bytes {s : ByteArray} (h : s.size = 0) : s = ⟨#[]⟩ := by
  obtain ⟨⟨l⟩⟩ := s
  cases l with
  | nil => rfl
  | cons a t => simp [ByteArray.size] at h
theorem has_bytes {s : ByteArray} (h : 0 < s.size) : s.data.toList ≠ [] ∧ s.toList.isEmpty = false ∧ ¬s.toList = [] := by
  have h1 : s.data.toList ≠ [] := by
    intro e
    have h2 : s.data.toList.length = s.size := by simp
    rw [e] at h2
    simp at h2; omega
  have h3 : s.toList ≠ [] := by rw [Lib.toList_data]; exact h1
  refine ⟨h1, ?_, h3⟩
  cases he : s.toList.isEmpty
  · rfl
  · exact (h3 (List.isEmpty_iff.1 he)).elim
theorem last_at {s : ByteArray} (h : 0 < s.size) : s.data.toList.getLast? = some (s[s.size - 1]'(by omega)) := by
  rw [List.getLast?_eq_getElem?]
  have e : s.data.toList.length = s.size := by simp
  rw [e]
  exact list_at (by omega)
set_option maxRecDepth 100000 in
set_option maxHeartbeats 1000000 in
theorem pCount (s : ByteArray) (w : World) (hs : s.size ≤ 5000) : Calls Tryd.prog 11 #[.string s] w fun e w' => e = .returned (.int .i64 (linQ s.data.toList).length) ∧ w' = w := by
  obtain ⟨k, hk⟩ : ∃ k, s.data.toList.count 10 = k := ⟨_, rfl⟩
  have hkl : k ≤ s.size := by rw [← hk]; have := List.count_le_length (a := (10 : UInt8)) (l := s.data.toList); simpa using this
  have CC := Lib.hid (show Calls Tryd.prog 26 #[.string s, .string ⟨#[10]⟩] w fun e w' => e = .returned (.int .i64 k) ∧ w' = w by
    refine (Tryd.strings_Count_one s 10 w).mono fun e w' ⟨he, hw⟩ => ⟨?_, hw⟩
    rw [he, ← hk]; rfl)
  have hc := linQ_count s.data.toList
  rw [hk] at hc
  by_cases h0 : s.size = 0
  · obtain rfl := no_bytes h0
    have HZ := Lib.hid (show ((linQ (⟨#[]⟩ : ByteArray).data.toList).length : Int) = k by rw [hc]; simp)
    clear hc hk h0
    go_enter Tryd.func11, Tryd.ntmps11
    go_wp2_with (go_at_call 26; (with_reducible refine CC.out.mono ?_); rintro e w1 ⟨rfl, rfl⟩)
    go_ret
    exact ⟨ret_int HZ.out.symm, rfl⟩
  · have hp : 0 < s.size := by omega
    obtain ⟨hne, e0, e00⟩ := has_bytes hp
    have hl := last_at hp
    by_cases h10 : s[s.size - 1] = 10
    · have HZ := Lib.hid (show ((linQ s.data.toList).length : Int) = k by rw [hc, if_pos (.inr (by rw [hl, h10]))]; simp)
      have e1 : (((s[s.size - 1]).toNat : Int) == 10) = true := by rw [h10]; rfl
      clear hc hk hne hl h10
      go_enter Tryd.func11, Tryd.ntmps11
      go_wp2_with (go_at_call 26; (with_reducible refine CC.out.mono ?_); rintro e w1 ⟨rfl, rfl⟩)
      go_ret
      exact ⟨ret_int HZ.out.symm, rfl⟩
    · have HZ := Lib.hid (show ((linQ s.data.toList).length : Int) = k + 1 by
        rw [hc, if_neg (by rw [hl]; simp only [Option.some.injEq]; rintro (h | h); exact hne h; exact h10 h)]; simp)
      have e1 : (((s[s.size - 1]).toNat : Int) == 10) = false := by
        rw [beq_eq_false_iff_ne]
        intro h
        exact h10 (UInt8.toNat_inj.1 (by show (s[s.size - 1]).toNat = 10; omega))
      clear hc hk hne hl h10
      go_enter Tryd.func11, Tryd.ntmps11
      go_wp2_with (go_at_call 26; (with_reducible refine CC.out.mono ?_); rintro e w1 ⟨rfl, rfl⟩)
      go_ret
      exact ⟨ret_int (by rw [HZ.out]), rfl⟩
set_option maxRecDepth 100000 in
set_option maxHeartbeats 1000000 in
theorem pRecipe (s : ByteArray) (w : World) : Calls Tryd.prog 33 #[.string s] w fun e w' => e = .returned (.bool (recQ s.data.toList)) ∧ w' = w := by
  by_cases h0 : s.size = 0
  · obtain rfl := no_bytes h0
    clear h0
    go_enter Tryd.func33, Tryd.ntmps33
    go_wp2
    go_ret
    exact ⟨rfl, rfl⟩
  · have hp : 0 < s.size := by omega
    obtain ⟨-, e0, e00⟩ := has_bytes hp
    obtain ⟨b, hb⟩ : ∃ b, s[0] = b := ⟨_, rfl⟩
    obtain ⟨k, hk⟩ : ∃ k, Lib.indexByte [32, 9] b = k := ⟨_, rfl⟩
    have HR := Lib.hid (show recQ s.data.toList = decide (0 ≤ k) by
      have h := list_at hp
      cases hl : s.data.toList with
      | nil => rw [hl] at h; simp at h
      | cons a r =>
        rw [hl] at h
        obtain rfl : a = b := by simpa [hb] using h
        rw [rec_byte, hk])
    have CI := Lib.hid (show ∀ w, Calls Tryd.prog 46 #[.string ⟨#[32, 9]⟩, .int .u8 ((s[0]).toNat : Int)] w fun e w' => e = .returned (.int .i64 k) ∧ w' = w from fun w => by
      refine (Tryd.strings_IndexByte ⟨#[32, 9]⟩ ((s[0]).toNat : Int) w).mono fun e w' ⟨he, hw⟩ => ⟨?_, hw⟩
      rw [he, ← hk, ← hb]; simp)
    clear hk hb h0
    go_enter Tryd.func33, Tryd.ntmps33
    go_wp2_with (go_at_call 46; (with_reducible refine (CI.out _).mono ?_); rintro e w1 ⟨rfl, rfl⟩)
    go_ret
    exact ⟨ret_bool (by rw [HR.out]), rfl⟩
/-- a text cut at each line feed, as the program's slice of it -/
theorem pPhysical (s : ByteArray) (w : World) (hM : MaxI w) (hs : s.size ≤ 5000) : Calls Tryd.prog 22 #[.string s] w fun e w' =>
    w.grownBy w' none ∧ ∃ v l, e = .returned v ∧ TxRow w' v l ∧ txL l = linQ s.data.toList := by
  obtain ⟨m, hm⟩ := hM
  obtain ⟨P, hP⟩ : ∃ P, Lib.splitB ⟨#[10]⟩ 0 (Lib.countB s ⟨#[10]⟩) s = P := ⟨_, rfl⟩
  have hPl : P.length = Lib.countB s ⟨#[10]⟩ + 1 := by rw [← hP]; exact Lib.splitB_all ⟨#[10]⟩ (by decide) 0 _ s rfl
  have hPq : P.map (·.data.toList) = pcs [] s.data.toList := by rw [← hP, Lib.splitB_data]; exact split_pcs s.data.toList
  have hcl := Lib.countB_le ⟨#[10]⟩ (by decide) s.size s (Nat.le_refl _)
  obtain ⟨n, hn⟩ : ∃ n, (linQ s.data.toList).length = n := ⟨_, rfl⟩
  have hq : linQ s.data.toList = (P.take n).map (·.data.toList) := by rw [List.map_take, hPq, ← hn]; exact linA_pcs s.data.toList []
  have hnP : n ≤ P.length := by
    have := congrArg List.length hq
    rw [hn, List.length_map, List.length_take] at this; omega
  have CS := Lib.hid (show Calls Tryd.prog 32 #[.string s, .string ⟨#[10]⟩] w fun e w' => e = .returned (.slice (some ⟨w.heap.size, 0, none⟩) P.length P.length) ∧ w' = w.alloc (.cells (P.map Value.string).toArray 9) by
    refine (Tryd.strings_Split s ⟨#[10]⟩ m w (by omega) hm (by decide)).mono fun e w' ⟨he, hw⟩ => ⟨?_, ?_⟩
    · rw [he, hPl]
    · rw [hw, hP])
  have CC := Lib.hid (fun w => show Calls Tryd.prog 11 #[.string s] w fun e w' => e = .returned (.int .i64 n) ∧ w' = w by rw [← hn]; exact pCount s w hs)
  have HQ := Lib.hid hq
  have hPm : P.length ≤ 5001 := by omega
  clear hP hPl hPq hcl hn hq hm
  go_enter Tryd.func22, Tryd.ntmps22
  go_wp2_with (first
    | (go_at_call 32; (with_reducible refine CS.out.mono ?_); rintro e w1 ⟨rfl, rfl⟩)
    | (go_at_call 11; (with_reducible refine (CC.out _).mono ?_); rintro e w2 ⟨rfl, rfl⟩))
  go_ret
  refine ⟨World.grownBy_alloc _ _ _, .slice (some ⟨w.heap.size, 0, none⟩) n P.length, P.take n, rfl, ⟨some ⟨w.heap.size, 0, none⟩, P.length, by rw [List.length_take, Nat.min_eq_left hnP], ⟨by rw [List.length_take]; omega, fun e => by cases e⟩, fun hne => ⟨w.heap.size, 0, rfl, by simp, fun j x hj => ?_⟩⟩, HQ.out.symm⟩
  have hj2 : P[j]? = some x := by
    rw [List.getElem?_take] at hj
    split at hj
    · exact hj
    · cases hj
  exact Lib.pieces_cell w P _ j x hj2
set_option maxRecDepth 100000 in
set_option maxHeartbeats 4000000 in
theorem pComment (s : ByteArray) (w : World) (hs : s.size ≤ 5000) : Calls Tryd.prog 13 #[.string s] w fun e w' => e = .returned (.int .i64 (cmA s.data.toList 0)) ∧ w.grownBy w' none := by
  have hlen : s.data.toList.length = s.size := by simp
  have HLN := Lib.hid hlen
  obtain ⟨z, hz⟩ : ∃ z, cmA s.data.toList 0 = z := ⟨_, rfl⟩
  rw [hz]
  have HZ := Lib.hid (show z = cmA s.data.toList 0 from hz.symm)
  clear hz hlen
  go_enter Tryd.func13, Tryd.ntmps13
  go_wp2
  go_loopw [3] (fun i wr => ∃ j : Nat, j ≤ s.size ∧ i = .int .i64 j ∧ Hid (z = cmA s.data.toList j) ∧ Hid (w.grownBy wr none)) (fun i _ => s.size - (intOf i).toNat)
  case atStart => exact ⟨0, Nat.zero_le _, rfl, HZ, Lib.hid (World.grownBy.refl _ _)⟩
  case round =>
    obtain ⟨j, hj, rfl, hF, hG⟩ := hrel
    by_cases hlt : j < s.size
    · have HJ := Lib.hid (list_at hlt)
      by_cases h35 : s[j] = 35
      · have e1 : (((s[j]).toNat : Int) == 35) = true := by rw [h35]; rfl
        have HV := Lib.hid (show z = (j : Int) by rw [hF.out, cmA_sharp (by rw [HJ.out, h35])])
        clear h35
        go_wp2
        go_ret
        exact ⟨ret_int HV.out.symm, hG.out⟩
      · have e1 : (((s[j]).toNat : Int) == 35) = false := by
          rw [beq_eq_false_iff_ne]; intro h; exact h35 (UInt8.toNat_inj.1 (by show (s[j]).toNat = 35; omega))
        by_cases h39 : s[j] = 39
        · have e2 : (((s[j]).toNat : Int) == 39) = true := by rw [h39]; rfl
          have hq : s.data.toList[j]? = some 39 := by rw [HJ.out, h39]
          have CE := Lib.hid (fun w => pEnd0 s j w hs)
          rcases endAt_val hq with ⟨he, hv⟩ | ⟨f, he, hv, hf1, hf2⟩
          · rw [hv] at CE
            have HV := Lib.hid (show z = -1 by rw [hF.out, cmA_none hq he])
            clear h39 hq he hv h35
            go_wp2_with (go_at_call 27; (with_reducible refine (CE.out _).mono ?_); rintro e w4 ⟨rfl, rfl⟩)
            go_ret
            exact ⟨ret_int HV.out.symm, hG.out⟩
          · rw [hv] at CE
            rw [HLN.out] at hf2
            have HV := Lib.hid (show z = cmA s.data.toList (f + 1) by rw [hF.out, cmA_part hq he])
            clear h39 hq he hv h35
            go_wp2_with (go_at_call 27; (with_reducible refine (CE.out _).mono ?_); rintro e w4 ⟨rfl, rfl⟩)
            go_roundw
            case rel => exact ⟨f + 1, by omega, by go_num, HV, hG⟩
            case measure => simp [intOf]; omega
        · have e2 : (((s[j]).toNat : Int) == 39) = false := by
            rw [beq_eq_false_iff_ne]; intro h; exact h39 (UInt8.toNat_inj.1 (by show (s[j]).toNat = 39; omega))
          have HV := Lib.hid (show z = cmA s.data.toList (j + 1) by rw [hF.out, cmA_byte HJ.out h39 h35])
          clear h39 h35
          go_wp2
          go_roundw
          case rel => exact ⟨j + 1, by omega, by go_num, HV, hG⟩
          case measure => simp [intOf]; omega
    · have HV := Lib.hid (show z = -1 by rw [hF.out, cmA_end (by rw [HLN.out]; omega)])
      go_wp2
      go_ret
      exact ⟨ret_int HV.out.symm, hG.out⟩
end Go.Proofs.YtigjmaicolgalaaDoor

/- The reader: an atom. -/
import Derived.Test.YtonbcldhbinmeaaDoorRexN
namespace Go.Proofs.YtonbcldhbinmeaaDoor
open Go.RowKit

theorem nxt_not {s : ByteArray} {i c k : Nat} (hi : i < s.size) (h : s[i].toNat = c) (hk : c ≠ k) : nxt s i k = false := by
  unfold nxt; rw [dif_pos hi, h]; simpa using hk
theorem rep_not {s : ByteArray} {i : Nat} (hi : i < s.size) (h : s[i].toNat ≠ 42 ∧ s[i].toNat ≠ 43 ∧ s[i].toNat ≠ 63) : isRep s i = false := by
  unfold isRep; rw [nxt_not hi rfl h.1, nxt_not hi rfl h.2.1, nxt_not hi rfl h.2.2]; rfl
theorem rep_is {s : ByteArray} {i : Nat} (hi : i < s.size) (h : s[i].toNat = 42 ∨ s[i].toNat = 43 ∨ s[i].toNat = 63) : isRep s i = true := by
  unfold isRep
  rcases h with h | h | h <;> simp [nxt_is hi h]

set_option maxRecDepth 100000 in
set_option maxHeartbeats 8000000 in
theorem cAtom (r : Nat) (s : ByteArray) (i c : Nat) (w : World) (h : Rd w r s i c) (hi : i < s.size) (h41 : nxt s i 41 = false) (h124 : nxt s i 124 = false) (hE : RepEnv w) (hr : r ≠ 19)
    (hx : ∀ w, RepEnv w → Rd w r s (i + 1) (c + 1) → Calls Tryd.prog 20 #[.pointer (some ⟨r, 0, none⟩)] w (NdOut r s w (ExP s (i + 1) (c + 1)))) :
    Calls Tryd.prog 49 #[.pointer (some ⟨r, 0, none⟩)] w (NdOut r s w (AtomP s i c)) := by
  have hlt := h.lt
  have B3 := heap_alloc_new w (.cells #[.int .i64 0, .int .i64 0, .int .u64 0, .int .u64 0, .int .u64 0, .int .u64 0, .slice none 0 0] 28)
  have G := Lib.hid (World.grownBy_alloc w (.cells #[.int .i64 0, .int .i64 0, .int .u64 0, .int .u64 0, .int .u64 0, .int .u64 0, .slice none 0 0] 28) none)
  have H1 := Lib.hid (h.kept G.out)
  have E1 := Lib.hid (hE.kept G.out (by simp))
  have HX := Lib.hid hx; have HRR := Lib.hid hr
  have N41 := nxt_no h41 hi; have N124 := nxt_no h124 hi
  have HC := Lib.hid h.hc
  clear h hE hx hr h41 h124
  go_enter Tryd.func49, Tryd.ntmps49
  go_upto_region 1 with fail
  generalize w.alloc _ = w1 at B3 G H1 E1 ⊢
  obtain ⟨g, eg⟩ : ∃ g, g = w.heap.size := ⟨_, rfl⟩
  rw [← eg] at B3 ⊢
  have HR := Lib.hid (show w.heap.size ≤ g by omega)
  have HN := Lib.hid (show g ≠ r by omega)
  have B3 := Lib.hid B3
  clear eg hlt
  go_wp2_with fail
  refine (cNext1 _ _ _ _ _ H1.out hi).mono ?_
  rintro e w2 ⟨rfl, r2, g2⟩
  have R2 := Lib.hid r2
  have B4 := Lib.hid (heap_row g2 HN.out B3.out)
  have G2 := Lib.hid (grown_into G.out g2)
  have E2 := Lib.hid (E1.out.kept g2 (by simp only [ne_eq, Option.some.injEq]; exact fun e => HRR.out e.symm))
  clear r2 g2 H1 E1 B3 G
  have HW := Lib.hid (show w.heap.size ≤ w2.heap.size from G2.out.size)
  obtain ⟨b, hb⟩ : ∃ b, b = s[i].toNat := ⟨_, rfl⟩
  have hb256 : b < 256 := by rw [hb]; exact UInt8.toNat_lt _
  rw [← hb] at N41 N124 ⊢
  by_cases h40 : b = 40
  · subst h40
    have HO := Lib.hid (nxt_is hi hb.symm)
    clear hb N41 N124 hb256
    go_wp2_with fail
    refine (cGroup r s i c _ R2.out HC.out E2.out HRR.out HO.out HX.out).mono ?_
    rintro e w3 ⟨g3, ⟨n, a, m, k, rfl, hp⟩ | ⟨n, a, m, k, j, c2, rfl, hk, r3, hp⟩⟩
    · have B5 := Lib.hid (heap_row g3 HN.out B4.out)
      have G5 := Lib.hid (G2.out.trans g3)
      have HP := Lib.hid hp
      clear g3 hp
      obtain ⟨r0, r1, r2, r3, r4, r5, r6⟩ := seven_cells B5.out
      have fr := four_free B5.out
      go_wp2
      refine bodyPost_ret (v := .tuple #[ndV n (.slice a m k), .bool false]) (back_nd2 28 Tryd.underlying28 sizeNd28 Tryd.results49 rfl rfl (set_seven B5.out _ _ _ _ _ _ _)) rfl ?_
      exact ⟨grown_seven G5.out _ _ _ _ _ _ _ HR.out, .inl ⟨n, a, m, k, rfl, HP.out⟩⟩
    · have B5 := Lib.hid (heap_row g3 HN.out B4.out)
      have G5 := Lib.hid (G2.out.trans g3)
      have HP := Lib.hid hp
      have R5 := Lib.hid r3
      have K5 := Lib.hid (hk.weak (q := fun b => w.heap.size ≤ b ∧ b ≠ g) fun b _ hb => by
        have := HW.out; have := (Array.getElem?_eq_some_iff.1 B4.out).1; omega)
      clear g3 hp r3 hk
      obtain ⟨r0, r1, r2, r3, r4, r5, r6⟩ := seven_cells B5.out
      have fr := four_free B5.out
      go_wp2
      refine bodyPost_ret (v := .tuple #[ndV n (.slice a m k), .bool true]) (back_nd2 28 Tryd.underlying28 sizeNd28 Tryd.results49 rfl rfl (set_seven B5.out _ _ _ _ _ _ _)) rfl ?_
      exact ⟨grown_seven G5.out _ _ _ _ _ _ _ HR.out, .inr ⟨n, a, m, k, j, c2, rfl, (K5.out.seven _ _ _ _ _ _ _ fun b hb => hb.2).weak fun b _ hb => hb.1, R5.out.seven _ _ _ _ _ _ _ (Ne.symm HN.out), HP.out⟩⟩
  by_cases h91 : b = 91
  · subst h91
    have HB := Lib.hid hb.symm
    cases hcl : clsP s (i + 1) with
    | none =>
      have HP := Lib.hid (atom_bad c (sgn_clsbad hi HB.out hcl))
      have CC := Lib.hid (fun w h => hcl ▸ cClass r s (i + 1) c w h)
      clear hb N41 N124 hb256 h40 hcl
      go_wp2_with fail
      refine (CC.out _ R2.out).mono ?_
      rintro e w3 ⟨rfl, g3⟩
      have B5 := Lib.hid (heap_row g3 HN.out B4.out)
      have G5 := Lib.hid (G2.out.trans g3)
      clear g3
      obtain ⟨r0, r1, r2, r3, r4, r5, r6⟩ := seven_cells B5.out
      have fr := four_free B5.out
      go_wp2
      refine bodyPost_ret (v := .tuple #[ndV ndE (.slice none 0 0), .bool false]) (back_nd2 28 Tryd.underlying28 sizeNd28 Tryd.results49 rfl rfl (set_seven B5.out _ _ _ _ _ _ _)) rfl ?_
      exact ⟨grown_seven G5.out _ _ _ _ _ _ _ HR.out, .inl ⟨ndE, none, 0, 0, rfl, HP.out⟩⟩
    | some te =>
      obtain ⟨t, j⟩ := te
      have hgt := cls_gt hcl
      have HP := Lib.hid (atom_set c (sgn_cls hi HB.out hcl) (by omega))
      have CC := Lib.hid (fun w h => hcl ▸ cClass r s (i + 1) c w h)
      clear hb N41 N124 hb256 h40 hcl
      go_wp2_with fail
      refine (CC.out _ R2.out).mono ?_
      rintro e w3 ⟨rfl, r3, g3⟩
      have B5 := Lib.hid (heap_row g3 HN.out B4.out)
      have G5 := Lib.hid (G2.out.trans g3)
      have R5 := Lib.hid r3
      clear g3 r3
      obtain ⟨r0, r1, r2, r3, r4, r5, r6⟩ := seven_cells B5.out
      have fr := four_free B5.out
      go_wp2
      refine bodyPost_ret (v := .tuple #[ndV (.mk 1 0 t []) (.slice none 0 0), .bool true]) (back_nd2 28 Tryd.underlying28 sizeNd28 Tryd.results49 rfl rfl (set_seven B5.out _ _ _ _ _ _ _)) rfl ?_
      exact ⟨grown_seven G5.out _ _ _ _ _ _ _ HR.out, .inr ⟨.mk 1 0 t [], none, 0, 0, j + 1, c, rfl, .empty none 0, R5.out.seven _ _ _ _ _ _ _ (Ne.symm HN.out), HP.out⟩⟩
  by_cases h46 : b = 46
  · subst h46
    have HP := Lib.hid (atom_set c (sgn_dot hi hb.symm) (Nat.lt_succ_self i))
    have HO := Lib.hid (ofL_one 10)
    clear hb N41 N124 hb256 h40 h91
    go_wp2_with (first
      | (go_at_call 44; refine (cOf _ [10] _ (brow_one _ _ _ (by decide) _ rfl)).mono ?_; rintro e w4 ⟨rfl, g4⟩; have g5 := (World.grownBy_alloc w2 (.cells #[.int .u8 10] 5) none).trans g4; have B5 := Lib.hid (heap_grown g5 B4.out); have G5 := Lib.hid (grown_then G2.out g5); have R5 := Lib.hid (R2.out.kept g5); clear g4 g5; rw [HO.out])
      | (go_at_call 55; refine (cNot (one 10) _).mono ?_; rintro e w6 ⟨rfl, g6⟩; have B6 := Lib.hid (heap_grown g6 B5.out); have G6 := Lib.hid (grown_then G5.out g6); have R6 := Lib.hid (R5.out.kept g6); clear g6; obtain ⟨r0, r1, r2, r3, r4, r5, r6⟩ := seven_cells B6.out; have fr := four_free B6.out))
    refine bodyPost_ret (v := .tuple #[ndV (.mk 1 0 (no (one 10)) []) (.slice none 0 0), .bool true]) (back_nd2 28 Tryd.underlying28 sizeNd28 Tryd.results49 rfl rfl (set_seven B6.out _ _ _ _ _ _ _)) rfl ?_
    exact ⟨grown_seven G6.out _ _ _ _ _ _ _ HR.out, .inr ⟨.mk 1 0 (no (one 10)) [], none, 0, 0, i + 1, c, rfl, .empty none 0, R6.out.seven _ _ _ _ _ _ _ (Ne.symm HN.out), HP.out⟩⟩
  by_cases h94 : b = 94
  · subst h94
    have HP := Lib.hid (atom_hat c (nxt_is hi hb.symm))
    clear hb N41 N124 hb256 h40 h91 h46
    obtain ⟨r0, r1, r2, r3, r4, r5, r6⟩ := seven_cells B4.out
    have fr := four_free B4.out
    go_wp2
    refine bodyPost_ret (v := .tuple #[ndV (.mk 8 0 emp []) (.slice none 0 0), .bool true]) (back_nd2 28 Tryd.underlying28 sizeNd28 Tryd.results49 rfl rfl (by
      have := set_seven B4.out (.int .i64 8) (.int .i64 0) (.int .u64 0) (.int .u64 0) (.int .u64 0) (.int .u64 0) (.slice none 0 0)
      simpa [wd_emp, Nd.kind, Nd.index, Nd.set] using this)) rfl ?_
    exact ⟨grown_seven G2.out _ _ _ _ _ _ _ HR.out, .inr ⟨.mk 8 0 emp [], none, 0, 0, i + 1, c, rfl, .empty none 0, R2.out.seven _ _ _ _ _ _ _ (Ne.symm HN.out), HP.out⟩⟩
  by_cases h36 : b = 36
  · subst h36
    have HP := Lib.hid (atom_dollar c (nxt_is hi hb.symm))
    clear hb N41 N124 hb256 h40 h91 h46 h94
    obtain ⟨r0, r1, r2, r3, r4, r5, r6⟩ := seven_cells B4.out
    have fr := four_free B4.out
    go_wp2
    refine bodyPost_ret (v := .tuple #[ndV (.mk 9 0 emp []) (.slice none 0 0), .bool true]) (back_nd2 28 Tryd.underlying28 sizeNd28 Tryd.results49 rfl rfl (by
      have := set_seven B4.out (.int .i64 9) (.int .i64 0) (.int .u64 0) (.int .u64 0) (.int .u64 0) (.int .u64 0) (.slice none 0 0)
      simpa [wd_emp, Nd.kind, Nd.index, Nd.set] using this)) rfl ?_
    exact ⟨grown_seven G2.out _ _ _ _ _ _ _ HR.out, .inr ⟨.mk 9 0 emp [], none, 0, 0, i + 1, c, rfl, .empty none 0, R2.out.seven _ _ _ _ _ _ _ (Ne.symm HN.out), HP.out⟩⟩
  by_cases hrep : b = 42 ∨ b = 43 ∨ b = 63
  · have HP := Lib.hid (atom_rep c (rep_is hi (by rw [← hb]; exact hrep)))
    clear hb N41 N124 hb256 h40 h91 h46 h94 h36
    obtain ⟨r0, r1, r2, r3, r4, r5, r6⟩ := seven_cells B4.out
    have fr := four_free B4.out
    rcases hrep with rfl | rfl | rfl
    all_goals
      go_wp2
      refine bodyPost_ret (v := .tuple #[ndV ndE (.slice none 0 0), .bool false]) (back_nd2 28 Tryd.underlying28 sizeNd28 Tryd.results49 rfl rfl (zero_seven B4.out)) rfl ?_
      exact ⟨grown_seven G2.out _ _ _ _ _ _ _ HR.out, .inl ⟨ndE, none, 0, 0, rfl, HP.out⟩⟩
  by_cases h92 : b = 92
  · subst h92
    by_cases hi1 : i + 1 < s.size
    · have HP := Lib.hid (atom_set c (sgn_esc hi hb.symm hi1) (show i < i + 2 by omega))
      have HB := Lib.hid (UInt8.toNat_lt s[i + 1])
      clear hb N41 N124 hb256 h40 h91 h46 h94 h36 hrep
      go_wp2_with fail
      refine (cNext1 _ _ _ _ _ R2.out hi1).mono ?_
      rintro e w3 ⟨rfl, r3, g3⟩
      have R3 := Lib.hid r3
      have B5 := Lib.hid (heap_row g3 HN.out B4.out)
      have G3 := Lib.hid (G2.out.trans g3)
      clear r3 g3
      go_wp2_with (go_at_call 30; refine (cOneP _ HB.out _).mono ?_; rintro e w4 ⟨rfl, g4⟩; have B6 := Lib.hid (heap_grown g4 B5.out); have G6 := Lib.hid (grown_then G3.out g4); have R6 := Lib.hid (R3.out.kept g4); clear g4; obtain ⟨r0, r1, r2, r3, r4, r5, r6⟩ := seven_cells B6.out; have fr := four_free B6.out)
      refine bodyPost_ret (v := .tuple #[ndV (.mk 1 0 (one s[i + 1].toNat) []) (.slice none 0 0), .bool true]) (back_nd2 28 Tryd.underlying28 sizeNd28 Tryd.results49 rfl rfl (set_seven B6.out _ _ _ _ _ _ _)) rfl ?_
      exact ⟨grown_seven G6.out _ _ _ _ _ _ _ HR.out, .inr ⟨.mk 1 0 (one s[i + 1].toNat) [], none, 0, 0, i + 2, c, rfl, .empty none 0, R6.out.seven _ _ _ _ _ _ _ (Ne.symm HN.out), HP.out⟩⟩
    · have HP := Lib.hid (atom_bad c (sgn_escbad hi hb.symm hi1))
      clear hb N41 N124 hb256 h40 h91 h46 h94 h36 hrep
      go_wp2_with fail
      refine (cNext0 _ _ _ _ _ R2.out hi1).mono ?_
      rintro e w3 ⟨rfl, rfl⟩
      have C1 := Lib.hid (fun w => cOneP 0 (by decide) w)
      go_wp2_with (go_at_call 30; refine (C1.out _).mono ?_; rintro e w4 ⟨rfl, g4⟩; have B6 := Lib.hid (heap_grown g4 B4.out); have G6 := Lib.hid (grown_then G2.out g4); clear g4; obtain ⟨r0, r1, r2, r3, r4, r5, r6⟩ := seven_cells B6.out; have fr := four_free B6.out)
      refine bodyPost_ret (v := .tuple #[ndV (.mk 1 0 (one 0) []) (.slice none 0 0), .bool false]) (back_nd2 28 Tryd.underlying28 sizeNd28 Tryd.results49 rfl rfl (set_seven B6.out _ _ _ _ _ _ _)) rfl ?_
      exact ⟨grown_seven G6.out _ _ _ _ _ _ _ HR.out, .inl ⟨.mk 1 0 (one 0) [], none, 0, 0, rfl, HP.out⟩⟩
  have HP := Lib.hid (atom_set c (sgn_lit hi (by rw [← hb]; exact ⟨h92, h91, h46, h40, N41, N124, by omega, by omega, by omega, h94, h36⟩)) (Nat.lt_succ_self i))
  rw [← hb] at HP
  have HB := Lib.hid hb256
  have n0 : ((b : Int) == 92) = false := by simp; omega
  have n1 : ((b : Int) == 91) = false := by simp; omega
  have n2 : ((b : Int) == 46) = false := by simp; omega
  have n3 : ((b : Int) == 40) = false := by simp; omega
  have n4 : ((b : Int) == 41) = false := by simp; omega
  have n5 : ((b : Int) == 124) = false := by simp; omega
  have n6 : ((b : Int) == 42) = false := by simp; omega
  have n7 : ((b : Int) == 43) = false := by simp; omega
  have n8 : ((b : Int) == 63) = false := by simp; omega
  have n9 : ((b : Int) == 94) = false := by simp; omega
  have na : ((b : Int) == 36) = false := by simp; omega
  clear hb N41 N124 hb256 h40 h91 h46 h94 h36 hrep h92
  go_wp2_with (go_at_call 30; refine (cOneP _ HB.out _).mono ?_; rintro e w4 ⟨rfl, g4⟩; have B6 := Lib.hid (heap_grown g4 B4.out); have G6 := Lib.hid (grown_then G2.out g4); have R6 := Lib.hid (R2.out.kept g4); clear g4; obtain ⟨r0, r1, r2, r3, r4, r5, r6⟩ := seven_cells B6.out; have fr := four_free B6.out)
  refine bodyPost_ret (v := .tuple #[ndV (.mk 1 0 (one b) []) (.slice none 0 0), .bool true]) (back_nd2 28 Tryd.underlying28 sizeNd28 Tryd.results49 rfl rfl (set_seven B6.out _ _ _ _ _ _ _)) rfl ?_
  exact ⟨grown_seven G6.out _ _ _ _ _ _ _ HR.out, .inr ⟨.mk 1 0 (one b) [], none, 0, 0, i + 1, c, rfl, .empty none 0, R6.out.seven _ _ _ _ _ _ _ (Ne.symm HN.out), HP.out⟩⟩
end Go.Proofs.YtonbcldhbinmeaaDoor

/- Walks of package lex: the piece that begins at a place, a word, all words. -/
import Derived.Test.YtheeeofdgpcfeaaDoorLxBk
import Derived.Test.YtheeeofdgpcfeaaDoorLxVr
import Derived.Test.YtheeeofdgpcfeaaDoorLxOut
import Derived.Test.YtheeeofdgpcfeaaDoorLaidLx
namespace Go.Proofs.YtheeeofdgpcfeaaDoor
open Go.RowKit

theorem plc_ne {b : UInt8} (h : blkQ b = false) (h1 : b ≠ 39) (h2 : b ≠ 36) (h3 : b ≠ 96) : plcQ b = true := plc_of h h1 h2 h3
set_option maxRecDepth 100000 in
set_option maxHeartbeats 8000000 in
theorem xPieceAt {M : World → Prop} (L : LbX M) (A : Nat → Addr) (s : ByteArray) (k : Nat) (w : World) (hM : M w) (hE : ThrE A w) (hs : s.size ≤ 5000) (hk : k < s.size) (hb : blkQ s[k] = false) :
    Calls Tryd.prog 24 #[.string s, .int .i64 k] w (PPc (onA s.data.toList k) s.data.toList A w) := by
  have hlen : s.data.toList.length = s.size := by simp
  have HLN := Lib.hid hlen
  have HK := Lib.hid (list_at hk)
  have B0 := Lib.hid (heap_alloc_new w (.cells #[.int .i64 0, .string ⟨#[]⟩, .string ⟨#[]⟩, .string ⟨#[]⟩] 27))
  have G0 := Lib.hid (World.grownBy_alloc w (.cells #[.int .i64 0, .string ⟨#[]⟩, .string ⟨#[]⟩, .string ⟨#[]⟩] 27) none)
  have HM := Lib.hid (L.gr _ _ hM G0.out)
  have HE := Lib.hid (hE.grown G0.out)
  have HB := Lib.hid hb
  have CPL := Lib.hid (fun b w => xPlainByte b w)
  have CQ : s[k] = 39 → Hid (∀ w, M w → ThrE A w → Calls Tryd.prog 27 #[.string s, .int .i64 k] w (PPc (onA s.data.toList k) s.data.toList A w)) := fun h => Lib.hid (fun w hm he => xQuotedAt L A s k w hm hs (by rw [HK.out, h]) he.quote)
  have CV : s[k] = 36 → Hid (∀ w, M w → ThrE A w → Calls Tryd.prog 28 #[.string s, .int .i64 k] w (PPc (onA s.data.toList k) s.data.toList A w)) := fun h => Lib.hid (fun w hm he => xVarAt L A s k w hs (by rw [HK.out, h]) he.name he.form)
  have CK : s[k] = 96 → Hid (∀ w, M w → ThrE A w → Calls Tryd.prog 29 #[.string s, .int .i64 k] w (PPc (onA s.data.toList k) s.data.toList A w)) := fun h => Lib.hid (fun w hm he => xBackAt L A s k w hm hs (by rw [HK.out, h]) he.form)
  clear hM hE hb hlen
  go_enter Tryd.func24, Tryd.ntmps24
  go_upto_region 1 with fail
  generalize w.alloc _ = w1 at B0 G0 HM HE ⊢
  obtain ⟨g, eg⟩ : ∃ g, w.heap.size = g := ⟨_, rfl⟩
  rw [eg] at B0 ⊢
  have hgs : w.heap.size ≤ g := by omega
  obtain ⟨c0, c1, c2, c3⟩ := four_px B0.out
  have fr := free_pc B0.out
  clear eg
  by_cases h39 : s[k] = 39
  · have C := CQ h39
    have e1 : (((s[k]).toNat : Int) == 39) = true := by rw [h39]; rfl
    clear CQ CV CK h39
    go_wp2_with fail
    refine (C.out _ HM.out HE.out).mono ?_
    rintro e w8 ⟨g8, hout⟩
    have B8 := Lib.hid (heap_grown g8 B0.out)
    have G8 := Lib.hid (G0.out.trans g8)
    clear c0 c1 c2 c3 fr C g8
    obtain ⟨c0, c1, c2, c3⟩ := four_px B8.out
    have fr := free_pc B8.out
    rcases hout with ⟨y, q, rfl, hq, hR⟩ | ⟨bad, rfl, hb, hR⟩
    · have HN := Lib.hid hR
      clear hR
      go_wp2
      refine bodyPost_ret (back_pc (a0 := .int .i64 y.k) (a1 := .string y.t) (a2 := .string y.f) (a3 := .string y.o) Tryd.results24 rfl rfl rfl (set_pc B8.out _ _ _ _)) rfl ?_
      exact ⟨grown_pc G8.out _ _ _ _ hgs, .inl ⟨y, q, rfl, hq, HN.out⟩⟩
    · have HN := Lib.hid hR
      clear hR
      go_wp2
      refine bodyPost_ret (back_pc (a0 := .int .i64 0) (a1 := .string ⟨#[]⟩) (a2 := .string ⟨#[]⟩) (a3 := .string ⟨#[]⟩) Tryd.results24 rfl rfl rfl (set_pc B8.out _ _ _ _)) rfl ?_
      exact ⟨grown_pc G8.out _ _ _ _ hgs, .inr ⟨bad, rfl, hb, HN.out⟩⟩
  have e1 : (((s[k]).toNat : Int) == 39) = false := byte_ne (n := 39) (by omega) h39
  by_cases h36 : s[k] = 36
  · have C := CV h36
    have e2 : (((s[k]).toNat : Int) == 36) = true := by rw [h36]; rfl
    clear CQ CV CK h39 h36
    go_wp2_with fail
    refine (C.out _ HM.out HE.out).mono ?_
    rintro e w8 ⟨g8, hout⟩
    have B8 := Lib.hid (heap_grown g8 B0.out)
    have G8 := Lib.hid (G0.out.trans g8)
    clear c0 c1 c2 c3 fr C g8
    obtain ⟨c0, c1, c2, c3⟩ := four_px B8.out
    have fr := free_pc B8.out
    rcases hout with ⟨y, q, rfl, hq, hR⟩ | ⟨bad, rfl, hb, hR⟩
    · have HN := Lib.hid hR
      clear hR
      go_wp2
      refine bodyPost_ret (back_pc (a0 := .int .i64 y.k) (a1 := .string y.t) (a2 := .string y.f) (a3 := .string y.o) Tryd.results24 rfl rfl rfl (set_pc B8.out _ _ _ _)) rfl ?_
      exact ⟨grown_pc G8.out _ _ _ _ hgs, .inl ⟨y, q, rfl, hq, HN.out⟩⟩
    · have HN := Lib.hid hR
      clear hR
      go_wp2
      refine bodyPost_ret (back_pc (a0 := .int .i64 0) (a1 := .string ⟨#[]⟩) (a2 := .string ⟨#[]⟩) (a3 := .string ⟨#[]⟩) Tryd.results24 rfl rfl rfl (set_pc B8.out _ _ _ _)) rfl ?_
      exact ⟨grown_pc G8.out _ _ _ _ hgs, .inr ⟨bad, rfl, hb, HN.out⟩⟩
  have e2 : (((s[k]).toNat : Int) == 36) = false := byte_ne (n := 36) (by omega) h36
  by_cases h96 : s[k] = 96
  · have C := CK h96
    have e3 : (((s[k]).toNat : Int) == 96) = true := by rw [h96]; rfl
    clear CQ CV CK h39 h36 h96
    go_wp2_with fail
    refine (C.out _ HM.out HE.out).mono ?_
    rintro e w8 ⟨g8, hout⟩
    have B8 := Lib.hid (heap_grown g8 B0.out)
    have G8 := Lib.hid (G0.out.trans g8)
    clear c0 c1 c2 c3 fr C g8
    obtain ⟨c0, c1, c2, c3⟩ := four_px B8.out
    have fr := free_pc B8.out
    rcases hout with ⟨y, q, rfl, hq, hR⟩ | ⟨bad, rfl, hb, hR⟩
    · have HN := Lib.hid hR
      clear hR
      go_wp2
      refine bodyPost_ret (back_pc (a0 := .int .i64 y.k) (a1 := .string y.t) (a2 := .string y.f) (a3 := .string y.o) Tryd.results24 rfl rfl rfl (set_pc B8.out _ _ _ _)) rfl ?_
      exact ⟨grown_pc G8.out _ _ _ _ hgs, .inl ⟨y, q, rfl, hq, HN.out⟩⟩
    · have HN := Lib.hid hR
      clear hR
      go_wp2
      refine bodyPost_ret (back_pc (a0 := .int .i64 0) (a1 := .string ⟨#[]⟩) (a2 := .string ⟨#[]⟩) (a3 := .string ⟨#[]⟩) Tryd.results24 rfl rfl rfl (set_pc B8.out _ _ _ _)) rfl ?_
      exact ⟨grown_pc G8.out _ _ _ _ hgs, .inr ⟨bad, rfl, hb, HN.out⟩⟩
  have e3 : (((s[k]).toNat : Int) == 96) = false := byte_ne (n := 96) (by omega) h96
  have HP := Lib.hid (on_pl HK.out (plc_of HB.out h39 h36 h96))
  clear CQ CV CK h39 h36 h96
  obtain ⟨z, hz⟩ : ∃ z, spnQ plcQ s.data.toList k = z := ⟨_, rfl⟩
  have hzl := spn_le (p := plcQ) (l := s.data.toList) (k := k) (by rw [HLN.out]; omega)
  rw [hz, HLN.out] at hzl
  rw [hz] at HP
  have HZ := Lib.hid hz
  clear hz
  obtain ⟨hz1, hz2⟩ := hzl
  go_wp2
  clear e1 e2 e3
  go_loop [5] (fun i => ∃ j : Nat, j ≤ s.size ∧ i = .int .i64 j ∧ Hid (spnQ plcQ s.data.toList j = z)) (fun i => s.size - (intOf i).toNat)
  case atStart => exact ⟨k, by omega, rfl, HZ⟩
  case round =>
    obtain ⟨j, hj, rfl, hE⟩ := hrel
    by_cases hlt : j < s.size
    · have HJ := Lib.hid (list_at hlt)
      have CB := Lib.hid (fun w => CPL.out s[j] w)
      cases hp : plcQ s[j]
      · rw [hp] at CB
        have hjz : j = z := by rw [← spn_off HJ.out hp]; exact hE.out
        clear hE hp
        subst hjz
        go_wp2_with (go_at_call 30; (with_reducible refine (CB.out _).mono ?_); rintro e w3 ⟨rfl, rfl⟩)
        refine bodyPost_ret (back_pc (a0 := .int .i64 0) (a1 := .string (s.extract k j)) (a2 := .string ⟨#[]⟩) (a3 := .string ⟨#[]⟩) Tryd.results24 rfl rfl rfl (set_pc B0.out _ _ _ _)) rfl ?_
        exact ⟨grown_pc G0.out _ _ _ _ hgs, .inl ⟨⟨0, s.extract k j, ⟨#[]⟩, ⟨#[]⟩⟩, j, rfl, by rw [HLN.out]; omega, by rw [HP.out, ← toList_cut]; rfl⟩⟩
      · rw [hp] at CB
        have HN := Lib.hid (show spnQ plcQ s.data.toList (j + 1) = z by rw [← spn_on HJ.out hp]; exact hE.out)
        clear hE hp
        go_wp2_with (go_at_call 30; (with_reducible refine (CB.out _).mono ?_); rintro e w3 ⟨rfl, rfl⟩)
        go_round
        case rel => exact ⟨j + 1, by omega, by go_num, HN⟩
        case measure => simp [intOf]; omega
    · have hjz : j = z := by rw [← spn_end (p := plcQ) (l := s.data.toList) (k := j) (by rw [HLN.out]; omega)]; exact hE.out
      clear hE
      subst hjz
      go_wp2
      refine bodyPost_ret (back_pc (a0 := .int .i64 0) (a1 := .string (s.extract k j)) (a2 := .string ⟨#[]⟩) (a3 := .string ⟨#[]⟩) Tryd.results24 rfl rfl rfl (set_pc B0.out _ _ _ _)) rfl ?_
      exact ⟨grown_pc G0.out _ _ _ _ hgs, .inl ⟨⟨0, s.extract k j, ⟨#[]⟩, ⟨#[]⟩⟩, j, rfl, by rw [HLN.out]; omega, by rw [HP.out, ← toList_cut]; rfl⟩⟩
end Go.Proofs.YtheeeofdgpcfeaaDoor

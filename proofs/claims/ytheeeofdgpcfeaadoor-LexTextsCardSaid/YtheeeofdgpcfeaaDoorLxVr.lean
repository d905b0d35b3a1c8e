/- Walks of package lex: what begins at a dollar sign. -/
import Derived.Test.YtheeeofdgpcfeaaDoorLxPc
namespace Go.Proofs.YtheeeofdgpcfeaaDoor
open Go.RowKit

theorem nam_cut {s : ByteArray} {k z : Nat} : (s.extract k z).data.toList = (s.data.toList.take z).drop k := toList_cut k z
set_option maxRecDepth 100000 in
set_option maxHeartbeats 8000000 in
theorem xVarAt {M : World → Prop} (L : LbX M) (A : Nat → Addr) (s : ByteArray) (k : Nat) (w : World) (hs : s.size ≤ 5000) (hk : s.data.toList[k]? = some 36)
    (hN : w.cell? ⟨1, 0, none⟩ = some (.iface 86 (.pointer (some (A 4)))))
    (hF : w.cell? ⟨2, 0, none⟩ = some (.iface 86 (.pointer (some (A 3))))) :
    Calls Tryd.prog 28 #[.string s, .int .i64 k] w (PPc (onA s.data.toList k) s.data.toList A w) := by
  have HO := Lib.hid (on_dl hk)
  have CP := Lib.hid (show ∀ (j : Nat) (c : UInt8) (w : World), Calls Tryd.prog 36 #[.string (s.extract j s.size), .string ⟨#[c]⟩] w fun e w' => e = .returned (.bool (decide (s.data.toList[j]? = some c))) ∧ w = w' from fun j c w => (L.pre _ _ w).mono fun e w' ⟨h1, h2⟩ => ⟨by rw [h1, ← pre_at], h2⟩)
  have CE := Lib.hid (fun j w (h : j ≤ s.size) => xNameEnd s j w (by omega) h)
  have HLE := Lib.hid (fun (j : Nat) (h : j ≤ s.size) => show j ≤ spnQ ltrQ s.data.toList j ∧ spnQ ltrQ s.data.toList j ≤ s.size from by have := spn_le (p := ltrQ) (l := s.data.toList) (k := j) (by simp; exact h); simpa using this)
  have hlen : s.data.toList.length = s.size := by simp
  have hks : k < s.size := by have := (List.getElem?_eq_some_iff.1 hk).1; omega
  have HLN := Lib.hid hlen; have HK := Lib.hid hk
  have B0 := Lib.hid (heap_alloc_new w (.cells #[.int .i64 0, .string ⟨#[]⟩, .string ⟨#[]⟩, .string ⟨#[]⟩] 27))
  have G0 := Lib.hid (World.grownBy_alloc w (.cells #[.int .i64 0, .string ⟨#[]⟩, .string ⟨#[]⟩, .string ⟨#[]⟩] 27) none)
  have hN1 := Lib.hid hN; have hrhN : 1 < w.heap.size := cell_block hN
  have hF1 := Lib.hid hF; have hrhF : 2 < w.heap.size := cell_block hF
  clear hlen hk hN hF
  go_enter Tryd.func28, Tryd.ntmps28
  go_upto_region 1 with fail
  generalize w.alloc _ = w1 at B0 G0 ⊢
  obtain ⟨g, eg⟩ : ∃ g, w.heap.size = g := ⟨_, rfl⟩
  rw [eg] at B0 hrhN hrhF ⊢
  have hgs : w.heap.size ≤ g := by omega
  obtain ⟨c0, c1, c2, c3⟩ := four_px B0.out
  have fr := free_pc B0.out
  have hN2 : w1.cell? ⟨1, 0, none⟩ = some (.iface 86 (.pointer (some (A 4)))) := G0.out.cell hN1.out (by simp)
  have hN3 : ¬g = 1 := by omega
  have hN4 : ¬1 = g := by omega
  have hF2 : w1.cell? ⟨2, 0, none⟩ = some (.iface 86 (.pointer (some (A 3)))) := G0.out.cell hF1.out (by simp)
  have hF3 : ¬g = 2 := by omega
  have hF4 : ¬2 = g := by omega
  clear eg
  have CN := Lib.hid (fun x w (h : x.size ≤ 100000) => xName x w h)
  by_cases hbr : s.data.toList[k + 1]? = some 123
  · have hk2 : k + 2 ≤ s.size := by have := (List.getElem?_eq_some_iff.1 hbr).1; have := HLN.out; omega
    have CP1 := Lib.hid (show ∀ w, Calls Tryd.prog 36 #[.string (s.extract (k + 1) s.size), .string ⟨#[123]⟩] w fun e w' => e = .returned (.bool true) ∧ w = w' from fun w => by
      have := CP.out (k + 1) 123 w; rwa [decide_eq_true hbr] at this)
    obtain ⟨z, hz⟩ : ∃ z, spnQ ltrQ s.data.toList (k + 2) = z := ⟨_, rfl⟩
    have hzl := HLE.out (k + 2) hk2
    have CE1 := Lib.hid (show ∀ w, Calls Tryd.prog 37 #[.string s, .int .i64 ((k : Int) + 1 + 1)] w fun e w' => e = .returned (.int .i64 z) ∧ w = w' from fun w => by
      have := CE.out (k + 2) w hk2; rwa [hz] at this)
    rw [hz] at hzl
    obtain ⟨hz1, hz2⟩ := hzl
    obtain ⟨x, hx⟩ : ∃ x, s.extract (k + 2) z = x := ⟨_, rfl⟩
    have hxz : x.size ≤ 100000 := by rw [← hx]; simp; omega
    have HR := Lib.hid (show onA s.data.toList k = if namQ x.data.toList then crQ x.data.toList (s.data.toList.drop z) else .error 4 by
      rw [HO.out, dl_curly hbr, hz, ← hx, toList_cut])
    have HX := Lib.hid hx
    have CX := Lib.hid (fun w => CN.out x w hxz)
    clear hbr hz hx hxz CN CE HLE
    cases hn : namQ x.data.toList
    · have HN := Lib.hid (show onA s.data.toList k = .error 4 by rw [HR.out, hn]; rfl)
      rw [hn] at CX
      clear hn
      go_wp2_with (first
        | (go_at_call 36; (with_reducible refine (CP1.out _).mono ?_); rintro e w3 ⟨rfl, rfl⟩)
        | (go_at_call 37; (with_reducible refine (CE1.out _).mono ?_); rintro e w4 ⟨rfl, rfl⟩)
        | (go_at_call 38; rw [HX.out]; (with_reducible refine (CX.out _).mono ?_); rintro e w5 ⟨rfl, rfl⟩))
      go_region
      go_wp2
      refine bodyPost_ret (back_pc (a0 := .int .i64 0) (a1 := .string ⟨#[]⟩) (a2 := .string ⟨#[]⟩) (a3 := .string ⟨#[]⟩) Tryd.results28 rfl rfl rfl (set_pc B0.out _ _ _ _)) rfl ?_
      exact ⟨grown_drew (grown_pc G0.out _ _ _ _ hgs), .inr ⟨4, rfl, by decide, HN.out⟩⟩
    · rw [hn] at CX
      have HR2 := Lib.hid (show onA s.data.toList k = crQ x.data.toList (s.data.toList.drop z) by rw [HR.out, hn]; rfl)
      clear hn HR
      by_cases h125 : s.data.toList[z]? = some 125
      · have hzs : z < s.size := by have := (List.getElem?_eq_some_iff.1 h125).1; have := HLN.out; omega
        have CP2 := Lib.hid (show ∀ w, Calls Tryd.prog 36 #[.string (s.extract z s.size), .string ⟨#[125]⟩] w fun e w' => e = .returned (.bool true) ∧ w = w' from fun w => by
          have := CP.out z 125 w; rwa [decide_eq_true h125] at this)
        have HN := Lib.hid (show onA s.data.toList k = .ok ((⟨2, x, ⟨#[]⟩, ⟨#[]⟩⟩ : Pb).q, s.data.toList.drop (z + 1)) by rw [HR2.out, cr_var h125]; rfl)
        clear h125
        go_wp2_with (first
          | (go_at_call 36; (with_reducible refine (CP1.out _).mono ?_); rintro e w3 ⟨rfl, rfl⟩)
          | (go_at_call 36; (with_reducible refine (CP2.out _).mono ?_); rintro e w6 ⟨rfl, rfl⟩)
          | (go_at_call 37; (with_reducible refine (CE1.out _).mono ?_); rintro e w4 ⟨rfl, rfl⟩)
          | (go_at_call 38; rw [HX.out]; (with_reducible refine (CX.out _).mono ?_); rintro e w5 ⟨rfl, rfl⟩))
        refine bodyPost_ret (back_pc (a0 := .int .i64 2) (a1 := .string x) (a2 := .string ⟨#[]⟩) (a3 := .string ⟨#[]⟩) Tryd.results28 rfl rfl rfl (set_pc B0.out _ _ _ _)) rfl ?_
        exact ⟨grown_pc G0.out _ _ _ _ hgs, .inl ⟨⟨2, x, ⟨#[]⟩, ⟨#[]⟩⟩, z + 1, rfl, by rw [HLN.out]; omega, HN.out⟩⟩
      · have CP2 := Lib.hid (show ∀ w, Calls Tryd.prog 36 #[.string (s.extract z s.size), .string ⟨#[125]⟩] w fun e w' => e = .returned (.bool false) ∧ w = w' from fun w => by
          have := CP.out z 125 w; rwa [decide_eq_false h125] at this)
        by_cases h58 : s.data.toList[z]? = some 58
        · have CP3 := Lib.hid (show ∀ w, Calls Tryd.prog 36 #[.string (s.extract z s.size), .string ⟨#[58]⟩] w fun e w' => e = .returned (.bool true) ∧ w = w' from fun w => by
            have := CP.out z 58 w; rwa [decide_eq_true h58] at this)
          have hzs : z < s.size := by have := (List.getElem?_eq_some_iff.1 h58).1; have := HLN.out; omega
          have CS := Lib.hid (xSubstAt L A s x z w1 hs h58 hF2)
          clear h58 h125
          go_wp2_with (first
            | (go_at_call 36; (with_reducible refine (CP1.out _).mono ?_); rintro e w3 ⟨rfl, rfl⟩)
            | (go_at_call 36; (with_reducible refine (CP2.out _).mono ?_); rintro e w6 ⟨rfl, rfl⟩)
            | (go_at_call 36; (with_reducible refine (CP3.out _).mono ?_); rintro e w7 ⟨rfl, rfl⟩)
            | (go_at_call 37; (with_reducible refine (CE1.out _).mono ?_); rintro e w4 ⟨rfl, rfl⟩)
            | (go_at_call 38; rw [HX.out]; (with_reducible refine (CX.out _).mono ?_); rintro e w5 ⟨rfl, rfl⟩))
          refine CS.out.mono ?_
          rintro e w8 ⟨g8, hout⟩
          have B8 := Lib.hid (heap_grown g8 B0.out)
          have G8 := Lib.hid (G0.out.trans g8)
          clear c0 c1 c2 c3 fr CS g8
          obtain ⟨c0, c1, c2, c3⟩ := four_px B8.out
          have fr := free_pc B8.out
          rcases hout with ⟨y, q, rfl, hq, hR⟩ | ⟨bad, rfl, hb, hR⟩
          · have HN := Lib.hid (HR2.out.trans hR)
            clear hR
            go_wp2
            refine bodyPost_ret (back_pc (a0 := .int .i64 y.k) (a1 := .string y.t) (a2 := .string y.f) (a3 := .string y.o) Tryd.results28 rfl rfl rfl (set_pc B8.out _ _ _ _)) rfl ?_
            exact ⟨grown_pc G8.out _ _ _ _ hgs, .inl ⟨y, q, rfl, hq, HN.out⟩⟩
          · have HN := Lib.hid (HR2.out.trans hR)
            clear hR
            go_wp2
            refine bodyPost_ret (back_pc (a0 := .int .i64 0) (a1 := .string ⟨#[]⟩) (a2 := .string ⟨#[]⟩) (a3 := .string ⟨#[]⟩) Tryd.results28 rfl rfl rfl (set_pc B8.out _ _ _ _)) rfl ?_
            exact ⟨grown_pc G8.out _ _ _ _ hgs, .inr ⟨bad, rfl, hb, HN.out⟩⟩
        · have CP3 := Lib.hid (show ∀ w, Calls Tryd.prog 36 #[.string (s.extract z s.size), .string ⟨#[58]⟩] w fun e w' => e = .returned (.bool false) ∧ w = w' from fun w => by
            have := CP.out z 58 w; rwa [decide_eq_false h58] at this)
          have HN := Lib.hid (show onA s.data.toList k = .error 3 by rw [HR2.out, cr_no h58 h125])
          clear h58 h125
          go_wp2_with (first
            | (go_at_call 36; (with_reducible refine (CP1.out _).mono ?_); rintro e w3 ⟨rfl, rfl⟩)
            | (go_at_call 36; (with_reducible refine (CP2.out _).mono ?_); rintro e w6 ⟨rfl, rfl⟩)
            | (go_at_call 36; (with_reducible refine (CP3.out _).mono ?_); rintro e w7 ⟨rfl, rfl⟩)
            | (go_at_call 37; (with_reducible refine (CE1.out _).mono ?_); rintro e w4 ⟨rfl, rfl⟩)
            | (go_at_call 38; rw [HX.out]; (with_reducible refine (CX.out _).mono ?_); rintro e w5 ⟨rfl, rfl⟩))
          go_region
          go_wp2
          refine bodyPost_ret (back_pc (a0 := .int .i64 0) (a1 := .string ⟨#[]⟩) (a2 := .string ⟨#[]⟩) (a3 := .string ⟨#[]⟩) Tryd.results28 rfl rfl rfl (set_pc B0.out _ _ _ _)) rfl ?_
          exact ⟨grown_drew (grown_pc G0.out _ _ _ _ hgs), .inr ⟨3, rfl, by decide, HN.out⟩⟩
  · have CP1 := Lib.hid (show ∀ w, Calls Tryd.prog 36 #[.string (s.extract (k + 1) s.size), .string ⟨#[123]⟩] w fun e w' => e = .returned (.bool false) ∧ w = w' from fun w => by
      have := CP.out (k + 1) 123 w; rwa [decide_eq_false hbr] at this)
    obtain ⟨z, hz⟩ : ∃ z, spnQ ltrQ s.data.toList (k + 1) = z := ⟨_, rfl⟩
    have hzl := HLE.out (k + 1) (by omega)
    have CE1 := Lib.hid (show ∀ w, Calls Tryd.prog 37 #[.string s, .int .i64 ((k : Int) + 1)] w fun e w' => e = .returned (.int .i64 z) ∧ w = w' from fun w => by
      have := CE.out (k + 1) w (by omega); rwa [hz] at this)
    rw [hz] at hzl
    obtain ⟨hz1, hz2⟩ := hzl
    obtain ⟨x, hx⟩ : ∃ x, s.extract (k + 1) z = x := ⟨_, rfl⟩
    have hxz : x.size ≤ 100000 := by rw [← hx]; simp; omega
    have HR := Lib.hid (show onA s.data.toList k = if namQ x.data.toList then .ok (⟨2, x.data.toList, [], []⟩, s.data.toList.drop z) else .error 4 by
      rw [HO.out, dl_plain hbr, hz, ← hx, toList_cut])
    have HX := Lib.hid hx
    have CX := Lib.hid (fun w => CN.out x w hxz)
    clear hbr hz hx hxz CN CE HLE
    cases hn : namQ x.data.toList
    · have HN := Lib.hid (show onA s.data.toList k = .error 4 by rw [HR.out, hn]; rfl)
      rw [hn] at CX
      clear hn
      go_wp2_with (first
        | (go_at_call 36; (with_reducible refine (CP1.out _).mono ?_); rintro e w3 ⟨rfl, rfl⟩)
        | (go_at_call 37; (with_reducible refine (CE1.out _).mono ?_); rintro e w4 ⟨rfl, rfl⟩)
        | (go_at_call 38; rw [HX.out]; (with_reducible refine (CX.out _).mono ?_); rintro e w5 ⟨rfl, rfl⟩))
      go_region
      go_wp2
      refine bodyPost_ret (back_pc (a0 := .int .i64 0) (a1 := .string ⟨#[]⟩) (a2 := .string ⟨#[]⟩) (a3 := .string ⟨#[]⟩) Tryd.results28 rfl rfl rfl (set_pc B0.out _ _ _ _)) rfl ?_
      exact ⟨grown_drew (grown_pc G0.out _ _ _ _ hgs), .inr ⟨4, rfl, by decide, HN.out⟩⟩
    · rw [hn] at CX
      have HN := Lib.hid (show onA s.data.toList k = .ok ((⟨2, x, ⟨#[]⟩, ⟨#[]⟩⟩ : Pb).q, s.data.toList.drop z) by rw [HR.out, hn]; rfl)
      clear hn HR
      go_wp2_with (first
        | (go_at_call 36; (with_reducible refine (CP1.out _).mono ?_); rintro e w3 ⟨rfl, rfl⟩)
        | (go_at_call 37; (with_reducible refine (CE1.out _).mono ?_); rintro e w4 ⟨rfl, rfl⟩)
        | (go_at_call 38; rw [HX.out]; (with_reducible refine (CX.out _).mono ?_); rintro e w5 ⟨rfl, rfl⟩))
      refine bodyPost_ret (back_pc (a0 := .int .i64 2) (a1 := .string x) (a2 := .string ⟨#[]⟩) (a3 := .string ⟨#[]⟩) Tryd.results28 rfl rfl rfl (set_pc B0.out _ _ _ _)) rfl ?_
      exact ⟨grown_pc G0.out _ _ _ _ hgs, .inl ⟨⟨2, x, ⟨#[]⟩, ⟨#[]⟩⟩, z, rfl, by rw [HLN.out]; omega, HN.out⟩⟩
end Go.Proofs.YtheeeofdgpcfeaaDoor

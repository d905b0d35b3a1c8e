/- The document's way with a text: which piece begins at a place, where it ends. The document's way with a text: the piece that begins with a dollar sign. The document's way with a text: the piece at a place. The document's words of a text (layer 13's Words). -/
import Derived.Test.YtdganemgldocoaaGreatDoorLxPc
import Derived.Test.YtdganemgldocoaaGreatDoorEvRef
import Derived.Test.YtdganemgldocoaaGreatDoorQtRow
import Derived.Test.YtdganemgldocoaaGreatDoorLxOf
namespace Go.Proofs.YtdganemgldocoaaGreatDoor
open Go.RowKit

theorem sizePd : (Tryz.prog.info? 107).map (·.size) = some 4 := by kernel_rfl
theorem back_pd {fn : Func} {p q r : Tmp} {w : World} {g : Nat} {a0 a1 a2 a3 u v : Value} {tmps : Array Value} (hf : fn.results = #[.cell p 107, .tmp q, .tmp r])
    (hp : tmps.getD p undef = .pointer (some ⟨g, 0, none⟩)) (hq : tmps.getD q undef = u) (hr : tmps.getD r undef = v) (hg : w.heap[g]? = some (.cells #[a0, a1, a2, a3] 107 (0, 0))) :
    (results fn tmps).run Tryz.prog w = .ok (.tuple #[.agg #[a0, a1, a2, a3], u, v]) w := by
  have hp' : tmps[p]?.getD undef = .pointer (some ⟨g, 0, none⟩) := by simpa using hp
  have hq' : tmps[q]?.getD undef = u := by simpa using hq
  have hr' : tmps[r]?.getD undef = v := by simpa using hr
  have hl := run_loadVar_row (P := Tryz.prog) w g 107 107 _ (0, 0) _ hg Tryz.underlying107 rfl sizePd
  simp [results, hf, hp', hq', hr', asAddr, hl]
/-- a piece and where it ends, or an error's number -/
def PPd (R : Except Nat (Pq × List UInt8)) (l : List UInt8) (w : World) (e : Ending) (w' : World) : Prop :=
  w.grownBy w' none ∧
  ((∃ (x : Pb) (q : Nat), e = .returned (.tuple #[pcA x, .int .i64 q, .int .i64 0]) ∧ q ≤ l.length ∧ R = .ok (x.q, l.drop q)) ∨
   (∃ bad : Nat, e = .returned (.tuple #[zPc, .int .i64 0, .int .i64 bad]) ∧ bad ≠ 0 ∧ R = .error bad))
theorem b_is {b : UInt8} (n : Nat) (hn : n < 256) {c : Bool} (h : (b == UInt8.ofNat n) = c) : ((b.toNat : Int) == (n : Int)) = c := by
  rw [← h, Bool.eq_iff_iff, beq_iff_eq, beq_iff_eq]
  constructor
  · intro e; apply UInt8.toNat_inj.1; rw [UInt8.toNat_ofNat']; omega
  · intro e; rw [e, UInt8.toNat_ofNat']; omega
theorem b_isn {b : UInt8} (n : Nat) (hn : n < 256) {c : Bool} (h : (b == UInt8.ofNat n) = c) : ((b.toNat : Int) != (n : Int)) = !c := by
  show (!((b.toNat : Int) == (n : Int))) = !c
  rw [b_is n hn h]
set_option maxRecDepth 100000 in
set_option maxHeartbeats 4000000 in
theorem dPattern (s : ByteArray) (k : Nat) (w : World) (hs : s.size ≤ 5000) (hk : k ≤ s.size) : Calls Tryz.prog 116 #[.string s, .int .i64 k] w fun e w' => e = .returned (.int .i64 (spnQ patQ s.data.toList k)) ∧ w = w' := by
  obtain ⟨z, hz⟩ : ∃ z, spnQ patQ s.data.toList k = z := ⟨_, rfl⟩
  rw [hz]
  have HZ := Lib.hid hz
  have CB := Lib.hid (fun b w => dBlank b w)
  clear hz
  go_enter Tryz.func116, Tryz.ntmps116
  go_wp2
  go_loop [1, 5] (fun i _ => ∃ j : Nat, j ≤ s.size ∧ i = .int .i64 j ∧ Hid (spnQ patQ s.data.toList j = z)) (fun i _ => s.size - (intOf i).toNat)
  case atStart => exact ⟨k, hk, rfl, HZ⟩
  case round =>
    obtain ⟨j, hj, rfl, hE⟩ := hrel
    by_cases hlt : j < s.size
    · have HJ := Lib.hid (list_at hlt)
      have C1 := Lib.hid (fun w => CB.out s[j] w)
      cases hb : blkQ s[j]
      · cases h39 : (s[j] == 39)
        · cases h36 : (s[j] == 36)
          · cases h96 : (s[j] == 96)
            · cases h61 : (s[j] == 61)
              · cases h123 : (s[j] == 123)
                · cases h125 : (s[j] == 125)
                  · have e39 : ((s[j].toNat : Int) == 39) = false := b_is 39 (by decide) h39; have e36 : ((s[j].toNat : Int) == 36) = false := b_is 36 (by decide) h36; have e96 : ((s[j].toNat : Int) == 96) = false := b_is 96 (by decide) h96; have e61 : ((s[j].toNat : Int) == 61) = false := b_is 61 (by decide) h61; have e123 : ((s[j].toNat : Int) == 123) = false := b_is 123 (by decide) h123; have e125 : ((s[j].toNat : Int) == 125) = false := b_is 125 (by decide) h125
                    rw [hb] at C1
                    have HN := Lib.hid (show spnQ patQ s.data.toList (j + 1) = z by rw [← spn_on HJ.out (show patQ s[j] = true by unfold patQ; rw [hb, h39, h36, h96, h61, h123, h125]; rfl)]; exact hE.out)
                    clear hb hE h39 h36 h96 h61 h123 h125
                    go_wp2_with (go_at_call 72; (with_reducible refine (C1.out _).mono ?_); rintro e w3 ⟨rfl, rfl⟩)
                    go_round
                    case rel => exact ⟨j + 1, hlt, by go_num, HN⟩
                    case measure => simp [intOf]; omega
                  · have e39 : ((s[j].toNat : Int) == 39) = false := b_is 39 (by decide) h39; have e36 : ((s[j].toNat : Int) == 36) = false := b_is 36 (by decide) h36; have e96 : ((s[j].toNat : Int) == 96) = false := b_is 96 (by decide) h96; have e61 : ((s[j].toNat : Int) == 61) = false := b_is 61 (by decide) h61; have e123 : ((s[j].toNat : Int) == 123) = false := b_is 123 (by decide) h123; have e125 : ((s[j].toNat : Int) == 125) = true := b_is 125 (by decide) h125
                    rw [hb] at C1
                    have HN := Lib.hid (show j = z by rw [← spn_off HJ.out (show patQ s[j] = false by unfold patQ; simp [hb, h39, h36, h96, h61, h123, h125])]; exact hE.out)
                    clear hb hE h39 h36 h96 h61 h123 h125
                    go_wp2_with (go_at_call 72; (with_reducible refine (C1.out _).mono ?_); rintro e w3 ⟨rfl, rfl⟩)
                    go_ret
                    exact ⟨ret_int (by rw [HN.out]), rfl⟩
                · have e39 : ((s[j].toNat : Int) == 39) = false := b_is 39 (by decide) h39; have e36 : ((s[j].toNat : Int) == 36) = false := b_is 36 (by decide) h36; have e96 : ((s[j].toNat : Int) == 96) = false := b_is 96 (by decide) h96; have e61 : ((s[j].toNat : Int) == 61) = false := b_is 61 (by decide) h61; have e123 : ((s[j].toNat : Int) == 123) = true := b_is 123 (by decide) h123
                  rw [hb] at C1
                  have HN := Lib.hid (show j = z by rw [← spn_off HJ.out (show patQ s[j] = false by unfold patQ; simp [hb, h39, h36, h96, h61, h123])]; exact hE.out)
                  clear hb hE h39 h36 h96 h61 h123
                  go_wp2_with (go_at_call 72; (with_reducible refine (C1.out _).mono ?_); rintro e w3 ⟨rfl, rfl⟩)
                  go_ret
                  exact ⟨ret_int (by rw [HN.out]), rfl⟩
              · have e39 : ((s[j].toNat : Int) == 39) = false := b_is 39 (by decide) h39; have e36 : ((s[j].toNat : Int) == 36) = false := b_is 36 (by decide) h36; have e96 : ((s[j].toNat : Int) == 96) = false := b_is 96 (by decide) h96; have e61 : ((s[j].toNat : Int) == 61) = true := b_is 61 (by decide) h61
                rw [hb] at C1
                have HN := Lib.hid (show j = z by rw [← spn_off HJ.out (show patQ s[j] = false by unfold patQ; simp [hb, h39, h36, h96, h61])]; exact hE.out)
                clear hb hE h39 h36 h96 h61
                go_wp2_with (go_at_call 72; (with_reducible refine (C1.out _).mono ?_); rintro e w3 ⟨rfl, rfl⟩)
                go_ret
                exact ⟨ret_int (by rw [HN.out]), rfl⟩
            · have e39 : ((s[j].toNat : Int) == 39) = false := b_is 39 (by decide) h39; have e36 : ((s[j].toNat : Int) == 36) = false := b_is 36 (by decide) h36; have e96 : ((s[j].toNat : Int) == 96) = true := b_is 96 (by decide) h96
              rw [hb] at C1
              have HN := Lib.hid (show j = z by rw [← spn_off HJ.out (show patQ s[j] = false by unfold patQ; simp [hb, h39, h36, h96])]; exact hE.out)
              clear hb hE h39 h36 h96
              go_wp2_with (go_at_call 72; (with_reducible refine (C1.out _).mono ?_); rintro e w3 ⟨rfl, rfl⟩)
              go_ret
              exact ⟨ret_int (by rw [HN.out]), rfl⟩
          · have e39 : ((s[j].toNat : Int) == 39) = false := b_is 39 (by decide) h39; have e36 : ((s[j].toNat : Int) == 36) = true := b_is 36 (by decide) h36
            rw [hb] at C1
            have HN := Lib.hid (show j = z by rw [← spn_off HJ.out (show patQ s[j] = false by unfold patQ; simp [hb, h39, h36])]; exact hE.out)
            clear hb hE h39 h36
            go_wp2_with (go_at_call 72; (with_reducible refine (C1.out _).mono ?_); rintro e w3 ⟨rfl, rfl⟩)
            go_ret
            exact ⟨ret_int (by rw [HN.out]), rfl⟩
        · have e39 : ((s[j].toNat : Int) == 39) = true := b_is 39 (by decide) h39
          rw [hb] at C1
          have HN := Lib.hid (show j = z by rw [← spn_off HJ.out (show patQ s[j] = false by unfold patQ; simp [hb, h39])]; exact hE.out)
          clear hb hE h39
          go_wp2_with (go_at_call 72; (with_reducible refine (C1.out _).mono ?_); rintro e w3 ⟨rfl, rfl⟩)
          go_ret
          exact ⟨ret_int (by rw [HN.out]), rfl⟩
      · rw [hb] at C1
        have HN := Lib.hid (show j = z by rw [← spn_off HJ.out (show patQ s[j] = false by unfold patQ; simp [hb])]; exact hE.out)
        clear hb hE
        go_wp2_with (go_at_call 72; (with_reducible refine (C1.out _).mono ?_); rintro e w3 ⟨rfl, rfl⟩)
        go_ret
        exact ⟨ret_int (by rw [HN.out]), rfl⟩
    · have HN := Lib.hid (show j = z by rw [← spn_end (p := patQ) (l := s.data.toList) (k := j) (by simp; omega)]; exact hE.out)
      go_wp2
      go_ret
      exact ⟨ret_int (by rw [HN.out]), rfl⟩
end Go.Proofs.YtdganemgldocoaaGreatDoor

namespace Go.Proofs.YtdganemgldocoaaGreatDoor
open Go.RowKit

theorem grown_one {w w1 : World} (h : w.grownBy w1 none) (b i : Nat) (v : Value) (hb : w.heap.size ≤ b) : w.grownBy (w1.setCell ⟨b, i, none⟩ v) none := grown_of_below ((below_of_grown h).setCell hb v)
/-- is a byte at a place -/
theorem byte3 (s : ByteArray) (z : Nat) (c : UInt8) (m : Int) (hm : m = (c.toNat : Int)) :
    (s.size ≤ z ∧ s.data.toList[z]? ≠ some c) ∨ (∃ h : z < s.size, s.data.toList[z]? ≠ some c ∧ ((s[z].toNat : Int) == m) = false ∧ ((s[z].toNat : Int) != m) = true) ∨
      (∃ h : z < s.size, s.data.toList[z]? = some c ∧ ((s[z].toNat : Int) == m) = true ∧ ((s[z].toNat : Int) != m) = false) := by
  subst hm
  by_cases h : z < s.size
  · right
    by_cases hc : s[z] = c
    · right
      exact ⟨h, by rw [list_at h, hc], by rw [hc]; simp, by rw [hc]; simp⟩
    · left
      have hn : ¬ ((s[z].toNat : Int) = (c.toNat : Int)) := fun e => hc (UInt8.toNat_inj.1 (by omega))
      exact ⟨h, by rw [list_at h]; simpa using hc, by simpa using hn, by simpa using hn⟩
  · left
    exact ⟨by omega, by rw [List.getElem?_eq_none (by simp; omega)]; simp⟩
set_option maxRecDepth 100000 in
set_option maxHeartbeats 8000000 in
theorem dDollar (s : ByteArray) (k : Nat) (w : World) (hs : s.size ≤ 5000) (hk : s.data.toList[k]? = some 36) :
    Calls Tryz.prog 99 #[.string s, .int .i64 k] w (PPd (onA s.data.toList k) s.data.toList w) := by
  have HO := Lib.hid (on_dl hk)
  have CL := Lib.hid (fun b w => dLetter b w)
  have hlen : s.data.toList.length = s.size := by simp
  have hks : k < s.size := by have := (List.getElem?_eq_some_iff.1 hk).1; omega
  have HLE := Lib.hid (fun (j : Nat) (h : j ≤ s.size) => show j ≤ spnQ ltrQ s.data.toList j ∧ spnQ ltrQ s.data.toList j ≤ s.size from by have := spn_le (p := ltrQ) (l := s.data.toList) (k := j) (by simp; exact h); simpa using this)
  have HPE := Lib.hid (fun (j : Nat) (h : j ≤ s.size) => show j ≤ spnQ patQ s.data.toList j ∧ spnQ patQ s.data.toList j ≤ s.size from by have := spn_le (p := patQ) (l := s.data.toList) (k := j) (by simp; exact h); simpa using this)
  have HLN := Lib.hid hlen
  have B0 := Lib.hid (heap_alloc_new w (.cells #[.int .i64 0, .string ⟨#[]⟩, .string ⟨#[]⟩, .string ⟨#[]⟩] 107))
  have G0 := Lib.hid (World.grownBy_alloc w (.cells #[.int .i64 0, .string ⟨#[]⟩, .string ⟨#[]⟩, .string ⟨#[]⟩] 107) none)
  clear hlen hk
  go_enter Tryz.func99, Tryz.ntmps99
  go_upto_region 1 with fail
  generalize w.alloc _ = w1 at B0 G0 ⊢
  obtain ⟨g, eg⟩ : ∃ g, w.heap.size = g := ⟨_, rfl⟩
  rw [eg] at B0 ⊢
  have hgs : w.heap.size ≤ g := by omega
  obtain ⟨c0, c1, c2, c3⟩ := four_px B0.out
  have fr := free_pc B0.out
  clear eg
  have CN := Lib.hid (fun x w (h : x.size ≤ 5000) => dName13 x w h)
  rcases byte3 s (k + 1) 123 123 (by decide) with ⟨h1, hbr⟩ | ⟨h1, hbr, e1, e2⟩ | ⟨h1, hbr, e1, e2⟩
  · obtain ⟨z, hz⟩ : ∃ z, spnQ ltrQ s.data.toList (k + 1) = z := ⟨_, rfl⟩
    have hzl := HLE.out (k + 1) (by omega)
    rw [hz] at hzl
    obtain ⟨hz1, hz2⟩ := hzl
    have HZ := Lib.hid hz
    obtain ⟨x, hx⟩ : ∃ x, s.extract (k + 1) z = x := ⟨_, rfl⟩
    have hxz : x.size ≤ 5000 := by rw [← hx]; simp; omega
    have HR := Lib.hid (show onA s.data.toList k = if namQ x.data.toList then .ok (⟨2, x.data.toList, [], []⟩, s.data.toList.drop z) else .error 4 by
      rw [HO.out, dl_plain hbr, hz, ← hx, toList_cut])
    have HX := Lib.hid hx
    have CX := Lib.hid (fun w => CN.out x w hxz)
    clear hbr hz hx hxz CN
    go_upto_block 0 with fail
    go_cut [9] (fun e wi => e = .int .i64 z ∧ w1 = wi)
    case first =>
      go_wp2
      go_loop [9] (fun i => ∃ j : Nat, k + 1 ≤ j ∧ j ≤ z ∧ i = .int .i64 j ∧ Hid (spnQ ltrQ s.data.toList j = z)) (fun i => s.size - (intOf i).toNat)
      case atStart => exact ⟨k + 1, Nat.le_refl _, hz1, by go_num, HZ⟩
      case round =>
        obtain ⟨j, hfj, hj, rfl, hE⟩ := hrel
        by_cases hlt : j < s.size
        · have HJ := Lib.hid (list_at hlt)
          have C1 := Lib.hid (fun w => CL.out s[j] w)
          cases hb : ltrQ s[j]
          · have HN := Lib.hid (show j = z by rw [← spn_off HJ.out hb]; exact hE.out)
            rw [hb] at C1
            clear hb hE
            go_wp2_with (go_at_call 74; (with_reducible refine (C1.out _).mono ?_); rintro e w3 ⟨rfl, rfl⟩)
            go_meet
            exact ⟨by rw [HN.out], rfl⟩
          · have HN := Lib.hid (show spnQ ltrQ s.data.toList (j + 1) = z by rw [← spn_on HJ.out hb]; exact hE.out)
            have hz9 := (HLE.out (j + 1) hlt).1
            rw [HN.out] at hz9
            rw [hb] at C1
            clear hb hE
            go_wp2_with (go_at_call 74; (with_reducible refine (C1.out _).mono ?_); rintro e w3 ⟨rfl, rfl⟩)
            go_round
            case rel => exact ⟨j + 1, by omega, hz9, by go_num, HN⟩
            case measure => simp [intOf]; omega
        · have HN := Lib.hid (show j = z by omega)
          go_wp2
          go_meet
          exact ⟨by rw [HN.out], rfl⟩
    case rest =>
      obtain ⟨rfl, rfl⟩ := hcut
      cases hn : namQ x.data.toList
      · have HN := Lib.hid (show onA s.data.toList k = .error 4 by rw [HR.out, hn]; rfl)
        rw [show namQ (nmB x) = false from hn] at CX
        clear hn HR
        go_wp2_with (go_at_call 43; rw [HX.out]; (with_reducible refine (CX.out _).mono ?_); rintro e w5 ⟨rfl, rfl⟩)
        refine bodyPost_ret (back_pd (a0 := .int .i64 0) (a1 := .string ⟨#[]⟩) (a2 := .string ⟨#[]⟩) (a3 := .string ⟨#[]⟩) Tryz.results99 rfl rfl rfl (set_pc B0.out _ _ _ _)) rfl ?_
        exact ⟨grown_pc G0.out _ _ _ _ hgs, .inr ⟨4, rfl, by decide, HN.out⟩⟩
      · have HN := Lib.hid (show onA s.data.toList k = .ok ((⟨2, x, ⟨#[]⟩, ⟨#[]⟩⟩ : Pb).q, s.data.toList.drop z) by rw [HR.out, hn]; rfl)
        rw [show namQ (nmB x) = true from hn] at CX
        clear hn HR
        go_upto_region 11 with (go_at_call 43; rw [HX.out]; (with_reducible refine (CX.out _).mono ?_); rintro e w5 ⟨rfl, rfl⟩)
        rw [HX.out]
        have B4 := Lib.hid (heap_alloc_new w1 (.cells #[.int .i64 2, .string x, .string ⟨#[]⟩, .string ⟨#[]⟩] 107))
        have g4 := World.grownBy_alloc w1 (.cells #[.int .i64 2, .string x, .string ⟨#[]⟩, .string ⟨#[]⟩] 107) none
        have B5 := Lib.hid (heap_grown g4 B0.out)
        have G5 := Lib.hid (G0.out.trans g4)
        generalize w1.alloc _ = w4 at B4 B5 G5 g4 ⊢
        clear c0 c1 c2 c3 fr g4
        obtain ⟨c0, c1, c2, c3⟩ := four_px B5.out
        obtain ⟨d0, d1, d2, d3⟩ := four_px B4.out
        have fr := free_pc B5.out
        go_wp2
        refine bodyPost_ret (back_pd (a0 := .int .i64 2) (a1 := .string x) (a2 := .string ⟨#[]⟩) (a3 := .string ⟨#[]⟩) Tryz.results99 rfl rfl rfl (set_pc B5.out _ _ _ _)) rfl ?_
        exact ⟨grown_pc G5.out _ _ _ _ hgs, .inl ⟨⟨2, x, ⟨#[]⟩, ⟨#[]⟩⟩, z, rfl, by rw [HLN.out]; omega, HN.out⟩⟩
  · obtain ⟨z, hz⟩ : ∃ z, spnQ ltrQ s.data.toList (k + 1) = z := ⟨_, rfl⟩
    have hzl := HLE.out (k + 1) (by omega)
    rw [hz] at hzl
    obtain ⟨hz1, hz2⟩ := hzl
    have HZ := Lib.hid hz
    obtain ⟨x, hx⟩ : ∃ x, s.extract (k + 1) z = x := ⟨_, rfl⟩
    have hxz : x.size ≤ 5000 := by rw [← hx]; simp; omega
    have HR := Lib.hid (show onA s.data.toList k = if namQ x.data.toList then .ok (⟨2, x.data.toList, [], []⟩, s.data.toList.drop z) else .error 4 by
      rw [HO.out, dl_plain hbr, hz, ← hx, toList_cut])
    have HX := Lib.hid hx
    have CX := Lib.hid (fun w => CN.out x w hxz)
    clear hbr hz hx hxz CN
    go_upto_block 0 with fail
    go_cut [9] (fun e wi => e = .int .i64 z ∧ w1 = wi)
    case first =>
      go_wp2
      go_loop [9] (fun i => ∃ j : Nat, k + 1 ≤ j ∧ j ≤ z ∧ i = .int .i64 j ∧ Hid (spnQ ltrQ s.data.toList j = z)) (fun i => s.size - (intOf i).toNat)
      case atStart => exact ⟨k + 1, Nat.le_refl _, hz1, by go_num, HZ⟩
      case round =>
        obtain ⟨j, hfj, hj, rfl, hE⟩ := hrel
        by_cases hlt : j < s.size
        · have HJ := Lib.hid (list_at hlt)
          have C1 := Lib.hid (fun w => CL.out s[j] w)
          cases hb : ltrQ s[j]
          · have HN := Lib.hid (show j = z by rw [← spn_off HJ.out hb]; exact hE.out)
            rw [hb] at C1
            clear hb hE
            go_wp2_with (go_at_call 74; (with_reducible refine (C1.out _).mono ?_); rintro e w3 ⟨rfl, rfl⟩)
            go_meet
            exact ⟨by rw [HN.out], rfl⟩
          · have HN := Lib.hid (show spnQ ltrQ s.data.toList (j + 1) = z by rw [← spn_on HJ.out hb]; exact hE.out)
            have hz9 := (HLE.out (j + 1) hlt).1
            rw [HN.out] at hz9
            rw [hb] at C1
            clear hb hE
            go_wp2_with (go_at_call 74; (with_reducible refine (C1.out _).mono ?_); rintro e w3 ⟨rfl, rfl⟩)
            go_round
            case rel => exact ⟨j + 1, by omega, hz9, by go_num, HN⟩
            case measure => simp [intOf]; omega
        · have HN := Lib.hid (show j = z by omega)
          go_wp2
          go_meet
          exact ⟨by rw [HN.out], rfl⟩
    case rest =>
      obtain ⟨rfl, rfl⟩ := hcut
      cases hn : namQ x.data.toList
      · have HN := Lib.hid (show onA s.data.toList k = .error 4 by rw [HR.out, hn]; rfl)
        rw [show namQ (nmB x) = false from hn] at CX
        clear hn HR
        go_wp2_with (go_at_call 43; rw [HX.out]; (with_reducible refine (CX.out _).mono ?_); rintro e w5 ⟨rfl, rfl⟩)
        refine bodyPost_ret (back_pd (a0 := .int .i64 0) (a1 := .string ⟨#[]⟩) (a2 := .string ⟨#[]⟩) (a3 := .string ⟨#[]⟩) Tryz.results99 rfl rfl rfl (set_pc B0.out _ _ _ _)) rfl ?_
        exact ⟨grown_pc G0.out _ _ _ _ hgs, .inr ⟨4, rfl, by decide, HN.out⟩⟩
      · have HN := Lib.hid (show onA s.data.toList k = .ok ((⟨2, x, ⟨#[]⟩, ⟨#[]⟩⟩ : Pb).q, s.data.toList.drop z) by rw [HR.out, hn]; rfl)
        rw [show namQ (nmB x) = true from hn] at CX
        clear hn HR
        go_upto_region 11 with (go_at_call 43; rw [HX.out]; (with_reducible refine (CX.out _).mono ?_); rintro e w5 ⟨rfl, rfl⟩)
        rw [HX.out]
        have B4 := Lib.hid (heap_alloc_new w1 (.cells #[.int .i64 2, .string x, .string ⟨#[]⟩, .string ⟨#[]⟩] 107))
        have g4 := World.grownBy_alloc w1 (.cells #[.int .i64 2, .string x, .string ⟨#[]⟩, .string ⟨#[]⟩] 107) none
        have B5 := Lib.hid (heap_grown g4 B0.out)
        have G5 := Lib.hid (G0.out.trans g4)
        generalize w1.alloc _ = w4 at B4 B5 G5 g4 ⊢
        clear c0 c1 c2 c3 fr g4
        obtain ⟨c0, c1, c2, c3⟩ := four_px B5.out
        obtain ⟨d0, d1, d2, d3⟩ := four_px B4.out
        have fr := free_pc B5.out
        go_wp2
        refine bodyPost_ret (back_pd (a0 := .int .i64 2) (a1 := .string x) (a2 := .string ⟨#[]⟩) (a3 := .string ⟨#[]⟩) Tryz.results99 rfl rfl rfl (set_pc B5.out _ _ _ _)) rfl ?_
        exact ⟨grown_pc G5.out _ _ _ _ hgs, .inl ⟨⟨2, x, ⟨#[]⟩, ⟨#[]⟩⟩, z, rfl, by rw [HLN.out]; omega, HN.out⟩⟩
  · obtain ⟨z, hz⟩ : ∃ z, spnQ ltrQ s.data.toList (k + 2) = z := ⟨_, rfl⟩
    have hzl := HLE.out (k + 2) (by omega)
    rw [hz] at hzl
    obtain ⟨hz1, hz2⟩ := hzl
    have HZ := Lib.hid hz
    obtain ⟨x, hx⟩ : ∃ x, s.extract (k + 2) z = x := ⟨_, rfl⟩
    have hxz : x.size ≤ 5000 := by rw [← hx]; simp; omega
    have HR := Lib.hid (show onA s.data.toList k = if namQ x.data.toList then crQ x.data.toList (s.data.toList.drop z) else .error 4 by
      rw [HO.out, dl_curly hbr, hz, ← hx, toList_cut])
    have HX := Lib.hid hx
    have CX := Lib.hid (fun w => CN.out x w hxz)
    clear hbr hz hx hxz CN
    go_upto_block 0 with fail
    go_cut [9] (fun e wi => e = .int .i64 z ∧ w1 = wi)
    case first =>
      go_wp2
      go_loop [9] (fun i => ∃ j : Nat, k + 2 ≤ j ∧ j ≤ z ∧ i = .int .i64 j ∧ Hid (spnQ ltrQ s.data.toList j = z)) (fun i => s.size - (intOf i).toNat)
      case atStart => exact ⟨k + 2, Nat.le_refl _, hz1, by go_num, HZ⟩
      case round =>
        obtain ⟨j, hfj, hj, rfl, hE⟩ := hrel
        by_cases hlt : j < s.size
        · have HJ := Lib.hid (list_at hlt)
          have C1 := Lib.hid (fun w => CL.out s[j] w)
          cases hb : ltrQ s[j]
          · have HN := Lib.hid (show j = z by rw [← spn_off HJ.out hb]; exact hE.out)
            rw [hb] at C1
            clear hb hE
            go_wp2_with (go_at_call 74; (with_reducible refine (C1.out _).mono ?_); rintro e w3 ⟨rfl, rfl⟩)
            go_meet
            exact ⟨by rw [HN.out], rfl⟩
          · have HN := Lib.hid (show spnQ ltrQ s.data.toList (j + 1) = z by rw [← spn_on HJ.out hb]; exact hE.out)
            have hz9 := (HLE.out (j + 1) hlt).1
            rw [HN.out] at hz9
            rw [hb] at C1
            clear hb hE
            go_wp2_with (go_at_call 74; (with_reducible refine (C1.out _).mono ?_); rintro e w3 ⟨rfl, rfl⟩)
            go_round
            case rel => exact ⟨j + 1, by omega, hz9, by go_num, HN⟩
            case measure => simp [intOf]; omega
        · have HN := Lib.hid (show j = z by omega)
          go_wp2
          go_meet
          exact ⟨by rw [HN.out], rfl⟩
    case rest =>
      obtain ⟨rfl, rfl⟩ := hcut
      cases hn : namQ x.data.toList
      · have HN := Lib.hid (show onA s.data.toList k = .error 4 by rw [HR.out, hn]; rfl)
        rw [show namQ (nmB x) = false from hn] at CX
        clear hn HR
        go_wp2_with (go_at_call 43; rw [HX.out]; (with_reducible refine (CX.out _).mono ?_); rintro e w5 ⟨rfl, rfl⟩)
        refine bodyPost_ret (back_pd (a0 := .int .i64 0) (a1 := .string ⟨#[]⟩) (a2 := .string ⟨#[]⟩) (a3 := .string ⟨#[]⟩) Tryz.results99 rfl rfl rfl (set_pc B0.out _ _ _ _)) rfl ?_
        exact ⟨grown_pc G0.out _ _ _ _ hgs, .inr ⟨4, rfl, by decide, HN.out⟩⟩
      have HR2 := Lib.hid (show onA s.data.toList k = crQ x.data.toList (s.data.toList.drop z) by rw [HR.out, hn]; rfl)
      rw [show namQ (nmB x) = true from hn] at CX
      clear hn HR
      go_upto_region 11 with (go_at_call 43; rw [HX.out]; (with_reducible refine (CX.out _).mono ?_); rintro e w5 ⟨rfl, rfl⟩)
      rw [HX.out]
      have B4 := Lib.hid (heap_alloc_new w1 (.cells #[.int .i64 2, .string x, .string ⟨#[]⟩, .string ⟨#[]⟩] 107))
      have g4 := World.grownBy_alloc w1 (.cells #[.int .i64 2, .string x, .string ⟨#[]⟩, .string ⟨#[]⟩] 107) none
      have B5 := Lib.hid (heap_grown g4 B0.out)
      have G5 := Lib.hid (G0.out.trans g4)
      obtain ⟨g1, eg1⟩ : ∃ g1, w1.heap.size = g1 := ⟨_, rfl⟩
      have hgg : g < g1 := by have := (Array.getElem?_eq_some_iff.1 B0.out).1; omega
      rw [eg1] at B4 ⊢
      generalize w1.alloc _ = w4 at B4 B5 G5 g4 ⊢
      clear c0 c1 c2 c3 fr g4 eg1 B0 G0
      have B0 := B5
      have G0 := G5
      obtain ⟨c0, c1, c2, c3⟩ := four_px B5.out
      obtain ⟨d0, d1, d2, d3⟩ := four_px B4.out
      have fr := free_pc B5.out
      have fd := free_pc B4.out
      clear B5 G5
      have hzn : z ≤ s.size := hz2
      rcases byte3 s z 58 58 (by decide) with ⟨h5, n5⟩ | ⟨h5, n5, e3, e4⟩ | ⟨h5, n5, e3, e4⟩
      · rcases byte3 s z 125 125 (by decide) with ⟨h6, n6⟩ | ⟨h6, n6, e5, e6⟩ | ⟨h6, n6, e5, e6⟩
        · have HN := Lib.hid (show onA s.data.toList k = .error 3 by rw [HR2.out, cr_no n5 n6])
          clear n5 n6 HR2
          go_wp2
          refine bodyPost_ret (back_pd (a0 := .int .i64 0) (a1 := .string ⟨#[]⟩) (a2 := .string ⟨#[]⟩) (a3 := .string ⟨#[]⟩) Tryz.results99 rfl rfl rfl (set_pc B0.out _ _ _ _)) rfl ?_
          exact ⟨grown_pc G0.out _ _ _ _ hgs, .inr ⟨3, rfl, by decide, HN.out⟩⟩
        · omega
        · omega
      · rcases byte3 s z 125 125 (by decide) with ⟨h6, n6⟩ | ⟨h6, n6, e5, e6⟩ | ⟨h6, n6, e5, e6⟩
        · omega
        · have HN := Lib.hid (show onA s.data.toList k = .error 3 by rw [HR2.out, cr_no n5 n6])
          clear n5 n6 HR2
          go_wp2
          refine bodyPost_ret (back_pd (a0 := .int .i64 0) (a1 := .string ⟨#[]⟩) (a2 := .string ⟨#[]⟩) (a3 := .string ⟨#[]⟩) Tryz.results99 rfl rfl rfl (set_pc B0.out _ _ _ _)) rfl ?_
          exact ⟨grown_pc G0.out _ _ _ _ hgs, .inr ⟨3, rfl, by decide, HN.out⟩⟩
        · have HN := Lib.hid (show onA s.data.toList k = .ok ((⟨2, x, ⟨#[]⟩, ⟨#[]⟩⟩ : Pb).q, s.data.toList.drop (z + 1)) by rw [HR2.out, cr_var n6]; rfl)
          clear n5 n6 HR2
          go_wp2
          refine bodyPost_ret (back_pd (a0 := .int .i64 2) (a1 := .string x) (a2 := .string ⟨#[]⟩) (a3 := .string ⟨#[]⟩) Tryz.results99 rfl rfl rfl (set_pc B0.out _ _ _ _)) rfl ?_
          exact ⟨grown_pc G0.out _ _ _ _ hgs, .inl ⟨⟨2, x, ⟨#[]⟩, ⟨#[]⟩⟩, z + 1, rfl, by rw [HLN.out]; omega, HN.out⟩⟩
      · have hg1 : w.heap.size ≤ g1 := by omega
        go_upto_region 15 with fail
        have B6 := Lib.hid (heap_setCell_same w4 g1 0 _ _ (.int .i64 3) B4.out)
        have B7 := Lib.hid ((heap_setCell_other w4 ⟨g1, 0, none⟩ g (.int .i64 3) (by show g ≠ g1; omega)).trans B0.out)
        have G7 := Lib.hid (grown_one G0.out g1 0 (.int .i64 3) hg1)
        generalize w4.setCell _ _ = w5 at B6 B7 G7 ⊢
        clear c0 c1 c2 c3 d0 d1 d2 d3 fr fd B0 B4 G0
        obtain ⟨c0, c1, c2, c3⟩ := four_px B7.out
        obtain ⟨d0, d1, d2, d3⟩ := four_px B6.out
        have fr := free_pc B7.out
        have fd := free_pc B6.out
        obtain ⟨m, hm⟩ : ∃ m, spnQ patQ s.data.toList (z + 1) = m := ⟨_, rfl⟩
        have hml := HPE.out (z + 1) (by omega)
        rw [hm] at hml
        obtain ⟨hm1, hm2⟩ := hml
        have CP1 := Lib.hid (show ∀ w, Calls Tryz.prog 116 #[.string s, .int .i64 ((z : Int) + 1)] w fun e w' => e = .returned (.int .i64 m) ∧ w = w' from fun w => by
          have := dPattern s (z + 1) w hs (by omega); rwa [hm] at this)
        have HM := Lib.hid hm
        clear hm
        rcases byte3 s m 61 61 (by decide) with ⟨h7, n7⟩ | ⟨h7, n7, e7, e8⟩ | ⟨h7, n7, e7, e8⟩
        · have HN := Lib.hid (show onA s.data.toList k = .error 3 by rw [HR2.out, cr_eq n5 (by rw [HM.out]; exact n7)])
          clear n5 n7 HR2
          go_wp2_with (go_at_call 116; (with_reducible refine (CP1.out _).mono ?_); rintro e w6 ⟨rfl, rfl⟩)
          refine bodyPost_ret (back_pd (a0 := .int .i64 0) (a1 := .string ⟨#[]⟩) (a2 := .string ⟨#[]⟩) (a3 := .string ⟨#[]⟩) Tryz.results99 rfl rfl rfl (set_pc B7.out _ _ _ _)) rfl ?_
          exact ⟨grown_pc G7.out _ _ _ _ hgs, .inr ⟨3, rfl, by decide, HN.out⟩⟩
        · have HN := Lib.hid (show onA s.data.toList k = .error 3 by rw [HR2.out, cr_eq n5 (by rw [HM.out]; exact n7)])
          clear n5 n7 HR2
          go_wp2_with (go_at_call 116; (with_reducible refine (CP1.out _).mono ?_); rintro e w6 ⟨rfl, rfl⟩)
          refine bodyPost_ret (back_pd (a0 := .int .i64 0) (a1 := .string ⟨#[]⟩) (a2 := .string ⟨#[]⟩) (a3 := .string ⟨#[]⟩) Tryz.results99 rfl rfl rfl (set_pc B7.out _ _ _ _)) rfl ?_
          exact ⟨grown_pc G7.out _ _ _ _ hgs, .inr ⟨3, rfl, by decide, HN.out⟩⟩
        · obtain ⟨q, hq⟩ : ∃ q, spnQ patQ s.data.toList (m + 1) = q := ⟨_, rfl⟩
          have hql := HPE.out (m + 1) (by omega)
          rw [hq] at hql
          obtain ⟨hq1, hq2⟩ := hql
          have CP2 := Lib.hid (show ∀ w, Calls Tryz.prog 116 #[.string s, .int .i64 ((m : Int) + 1)] w fun e w' => e = .returned (.int .i64 q) ∧ w = w' from fun w => by
            have := dPattern s (m + 1) w hs (by omega); rwa [hq] at this)
          have HQ := Lib.hid hq
          clear hq
          go_upto_region 19 with (go_at_call 116; (with_reducible refine (CP1.out _).mono ?_); rintro e w6 ⟨rfl, rfl⟩)
          obtain ⟨y, hy⟩ : ∃ y, s.extract (z + 1) m = y := ⟨_, rfl⟩
          rw [hy]
          have B8 := Lib.hid (heap_setCell_same w5 g1 2 _ _ (.string y) B6.out)
          have B9 := Lib.hid ((heap_setCell_other w5 ⟨g1, 2, none⟩ g (.string y) (by show g ≠ g1; omega)).trans B7.out)
          have G9 := Lib.hid (grown_one G7.out g1 2 (.string y) hg1)
          generalize w5.setCell _ _ = w6 at B8 B9 G9 ⊢
          clear c0 c1 c2 c3 d0 d1 d2 d3 fr fd B6 B7 G7
          obtain ⟨c0, c1, c2, c3⟩ := four_px B9.out
          obtain ⟨d0, d1, d2, d3⟩ := four_px B8.out
          have fr := free_pc B9.out
          have fd := free_pc B8.out
          go_upto_region 21 with (go_at_call 116; (with_reducible refine (CP2.out _).mono ?_); rintro e w7 ⟨rfl, rfl⟩)
          obtain ⟨v, hv⟩ : ∃ v, s.extract (m + 1) q = v := ⟨_, rfl⟩
          rw [hv]
          have D8 := Lib.hid (heap_setCell_same w6 g1 3 _ _ (.string v) B8.out)
          have D9 := Lib.hid ((heap_setCell_other w6 ⟨g1, 3, none⟩ g (.string v) (by show g ≠ g1; omega)).trans B9.out)
          have E9 := Lib.hid (grown_one G9.out g1 3 (.string v) hg1)
          generalize w6.setCell _ _ = w7 at D8 D9 E9 ⊢
          clear c0 c1 c2 c3 d0 d1 d2 d3 fr fd B8 B9 G9
          obtain ⟨c0, c1, c2, c3⟩ := four_px D9.out
          obtain ⟨d0, d1, d2, d3⟩ := four_px D8.out
          have fr := free_pc D9.out
          rcases byte3 s q 125 125 (by decide) with ⟨h9, n9⟩ | ⟨h9, n9, e9, e10⟩ | ⟨h9, n9, e9, e10⟩
          · have HN := Lib.hid (show onA s.data.toList k = .error 3 by rw [HR2.out, cr_shut n5 HM.out n7 (by rw [HQ.out]; exact n9)])
            clear n5 n7 n9 HR2
            go_wp2
            refine bodyPost_ret (back_pd (a0 := .int .i64 0) (a1 := .string ⟨#[]⟩) (a2 := .string ⟨#[]⟩) (a3 := .string ⟨#[]⟩) Tryz.results99 rfl rfl rfl (set_pc D9.out _ _ _ _)) rfl ?_
            exact ⟨grown_pc E9.out _ _ _ _ hgs, .inr ⟨3, rfl, by decide, HN.out⟩⟩
          · have HN := Lib.hid (show onA s.data.toList k = .error 3 by rw [HR2.out, cr_shut n5 HM.out n7 (by rw [HQ.out]; exact n9)])
            clear n5 n7 n9 HR2
            go_wp2
            refine bodyPost_ret (back_pd (a0 := .int .i64 0) (a1 := .string ⟨#[]⟩) (a2 := .string ⟨#[]⟩) (a3 := .string ⟨#[]⟩) Tryz.results99 rfl rfl rfl (set_pc D9.out _ _ _ _)) rfl ?_
            exact ⟨grown_pc E9.out _ _ _ _ hgs, .inr ⟨3, rfl, by decide, HN.out⟩⟩
          · have HN := Lib.hid (show onA s.data.toList k = .ok ((⟨3, x, y, v⟩ : Pb).q, s.data.toList.drop (q + 1)) by
              rw [HR2.out, cr_sub n5 HM.out n7 HQ.out n9]; unfold Pb.q; rw [← hy, ← hv, toList_cut, toList_cut])
            clear n5 n7 n9 HR2 hy hv
            go_wp2
            refine bodyPost_ret (back_pd (a0 := .int .i64 3) (a1 := .string x) (a2 := .string y) (a3 := .string v) Tryz.results99 rfl rfl rfl (set_pc D9.out _ _ _ _)) rfl ?_
            exact ⟨grown_pc E9.out _ _ _ _ hgs, .inl ⟨⟨3, x, y, v⟩, q + 1, rfl, by rw [HLN.out]; omega, HN.out⟩⟩
end Go.Proofs.YtdganemgldocoaaGreatDoor

namespace Go.Proofs.YtdganemgldocoaaGreatDoor
open Go.RowKit

theorem bit_take {l : List UInt8} {j f : Nat} {b : UInt8} (h : l[j]? = some b) (hj : j < f) : (l.take f).drop j = b :: (l.take f).drop (j + 1) := by
  have h2 : (l.take f)[j]? = some b := by rw [List.getElem?_take, if_pos hj, h]
  obtain ⟨h3, h4⟩ := List.getElem?_eq_some_iff.1 h2
  rw [List.drop_eq_getElem_cons h3, h4]
set_option maxRecDepth 100000 in
set_option maxHeartbeats 8000000 in
theorem dOne (s : ByteArray) (k : Nat) (w : World) (hs : s.size ≤ 5000) (hk : k < s.size) (hb : blkQ s[k] = false) :
    Calls Tryz.prog 73 #[.string s, .int .i64 k] w (PPd (onA s.data.toList k) s.data.toList w) := by
  have hlen : s.data.toList.length = s.size := by simp
  have HLN := Lib.hid hlen
  have B0 := Lib.hid (heap_alloc_new w (.cells #[.int .i64 0, .string ⟨#[]⟩, .string ⟨#[]⟩, .string ⟨#[]⟩] 107))
  have G0 := Lib.hid (World.grownBy_alloc w (.cells #[.int .i64 0, .string ⟨#[]⟩, .string ⟨#[]⟩, .string ⟨#[]⟩] 107) none)
  have HK := Lib.hid (list_at hk)
  have HBK := Lib.hid hb
  clear hlen hb
  go_enter Tryz.func73, Tryz.ntmps73
  go_upto_region 1 with fail
  generalize w.alloc _ = w1 at B0 G0 ⊢
  obtain ⟨g, eg⟩ : ∃ g, w.heap.size = g := ⟨_, rfl⟩
  rw [eg] at B0 ⊢
  have hgs : w.heap.size ≤ g := by omega
  obtain ⟨c0, c1, c2, c3⟩ := four_px B0.out
  have fr := free_pc B0.out
  clear eg
  cases h39 : (s[k] == 39)
  case true =>
    have e39 : ((s[k].toNat : Int) == 39) = true := b_is 39 (by decide) h39
    have hk39 : s.data.toList[k]? = some 39 := by rw [HK.out]; simpa using h39
    have CE := Lib.hid (fun w => dEnd s k w hs)
    rcases endAt_val hk39 with ⟨he, hv⟩ | ⟨f, he, hv, hf1, hf2⟩
    · rw [hv] at CE
      have HN := Lib.hid (show onA s.data.toList k = .error 5 from on_qt_no hk39 he)
      clear he hv h39 hk39
      go_wp2_with (go_at_call 29; (with_reducible refine (CE.out _).mono ?_); rintro e w4 ⟨rfl, rfl⟩)
      refine bodyPost_ret (back_pd (a0 := .int .i64 0) (a1 := .string ⟨#[]⟩) (a2 := .string ⟨#[]⟩) (a3 := .string ⟨#[]⟩) Tryz.results73 rfl rfl rfl (set_pc B0.out _ _ _ _)) rfl ?_
      exact ⟨grown_pc G0.out _ _ _ _ hgs, .inr ⟨5, rfl, by decide, HN.out⟩⟩
    · rw [hv] at CE
      rw [HLN.out] at hf2
      have HN := Lib.hid (show onA s.data.toList k = .ok (⟨1, unQ ((s.data.toList.take f).drop (k + 1)), [], []⟩, s.data.toList.drop (f + 1)) by rw [on_qt hk39 he, Nat.add_sub_cancel])
      have HE := Lib.hid he
      obtain ⟨T, hT⟩ : ∃ T, unQ ((s.data.toList.take f).drop (k + 1)) = T := ⟨_, rfl⟩
      rw [hT] at HN
      have HT := Lib.hid hT
      clear he hv h39 hk39 hT
      go_upto_block 0 with (go_at_call 29; (with_reducible refine (CE.out _).mono ?_); rintro e w4 ⟨rfl, rfl⟩)
      go_cut [9, 10] (fun t _ wi => ∃ Y : ByteArray, t = .string Y ∧ Hid (Y.data.toList = T) ∧ w1 = wi)
      case first =>
        go_wp2
        go_loop [9, 10] (fun t i => ∃ (j : Nat) (Y : ByteArray), t = .string Y ∧ i = .int .i64 j ∧ k + 1 ≤ j ∧ j ≤ f ∧ Y.size ≤ j ∧ Hid (T = Y.data.toList ++ unQ ((s.data.toList.take f).drop j)) ∧ Hid (endF (s.data.toList.drop j) j = some (f + 1))) (fun _ i => f - (intOf i).toNat)
        case atStart => exact ⟨k + 1, ⟨#[]⟩, rfl, by go_num, Nat.le_refl _, hf1, Nat.zero_le _, Lib.hid (by rw [← HT.out]; rfl), HE⟩
        case round =>
          obtain ⟨j, Y, rfl, rfl, hj1, hj2, hY, hT, hF⟩ := hrel
          by_cases hlt : j < f
          · have hjs : j < s.size := by omega
            have HJ := Lib.hid (list_at hjs)
            have HE1 := Lib.hid (toList_one hjs)
            have hez : (s.extract j (j + 1)).size = 1 := by simp; omega
            have hD := bit_take HJ.out hlt
            by_cases h39 : s[j] = 39
            · have e9 : (((s[j]).toNat : Int) == 39) = true := by rw [h39]; rfl
              have hj39 : s.data.toList[j]? = some 39 := by rw [HJ.out, h39]
              have hn39 : s.data.toList[j + 1]? = some 39 := by
                by_cases hc : s.data.toList[j + 1]? = some 39
                · exact hc
                · have := hF.out
                  rw [endF_end hj39 hc] at this
                  simp at this
                  omega
              have HF2 := Lib.hid (show endF (s.data.toList.drop (j + 2)) (j + 2) = some (f + 1) by rw [← endF_two hj39 hn39]; exact hF.out)
              have hle := (endF_le _ _ _ HF2.out).1
              have HN2 := Lib.hid (show T = (Y ++ s.extract j (j + 1)).data.toList ++ unQ ((s.data.toList.take f).drop (j + 2)) by
                rw [hT.out, hD, bit_take hn39 (by omega), h39, unQ_two]; simp only [toList_app, HE1.out, h39]; simp)
              have hz2 : (Y ++ s.extract j (j + 1)).size ≤ j + 2 := by simp only [ByteArray.size_append]; omega
              clear h39 hD hF hT hj39 hn39
              go_wp2
              go_round
              case rel => exact ⟨j + 2, _, rfl, by go_num, by omega, by omega, hz2, HN2, HF2⟩
              case measure => simp [intOf]; omega
            · have e9 : (((s[j]).toNat : Int) == 39) = false := by
                rw [beq_eq_false_iff_ne]; intro h; exact h39 (UInt8.toNat_inj.1 (by show (s[j]).toNat = 39; omega))
              have HF2 := Lib.hid (show endF (s.data.toList.drop (j + 1)) (j + 1) = some (f + 1) by rw [← endF_no HJ.out h39]; exact hF.out)
              have HN2 := Lib.hid (show T = (Y ++ s.extract j (j + 1)).data.toList ++ unQ ((s.data.toList.take f).drop (j + 1)) by
                rw [hT.out, hD, unQ_one h39]; simp only [toList_app, HE1.out]; simp)
              have hz2 : (Y ++ s.extract j (j + 1)).size ≤ j + 1 := by simp only [ByteArray.size_append]; omega
              clear h39 hD hF hT
              go_wp2
              go_round
              case rel => exact ⟨j + 1, _, rfl, by go_num, by omega, by omega, hz2, HN2, HF2⟩
              case measure => simp [intOf]; omega
          · obtain rfl : j = f := by omega
            have HN2 := Lib.hid (show Y.data.toList = T by rw [hT.out, List.drop_of_length_le (by simp; omega), unQ_nil, List.append_nil])
            clear hT
            go_wp2
            go_meet
            exact ⟨Y, rfl, HN2, rfl⟩
      case rest =>
        obtain ⟨Y, rfl, hY, rfl⟩ := hcut
        have HN3 := Lib.hid (show onA s.data.toList k = .ok ((⟨1, Y, ⟨#[]⟩, ⟨#[]⟩⟩ : Pb).q, s.data.toList.drop (f + 1)) by rw [HN.out]; unfold Pb.q; rw [hY.out])
        go_wp2
        refine bodyPost_ret (back_pd (a0 := .int .i64 1) (a1 := .string Y) (a2 := .string ⟨#[]⟩) (a3 := .string ⟨#[]⟩) Tryz.results73 rfl rfl rfl (set_pc B0.out _ _ _ _)) rfl ?_
        exact ⟨grown_pc G0.out _ _ _ _ hgs, .inl ⟨⟨1, Y, ⟨#[]⟩, ⟨#[]⟩⟩, f + 1, rfl, by rw [HLN.out]; omega, HN3.out⟩⟩
  case false =>
  have e39 : ((s[k].toNat : Int) == 39) = false := b_is 39 (by decide) h39
  cases h96 : (s[k] == 96)
  case true =>
    have e96 : ((s[k].toNat : Int) == 96) = true := b_is 96 (by decide) h96
    have hk96 : s.data.toList[k]? = some 96 := by rw [HK.out]; simpa using h96
    obtain ⟨z, hz⟩ : ∃ z, spnQ bckQ s.data.toList (k + 2) = z := ⟨_, rfl⟩
    have HZ := Lib.hid hz
    have hz0 : k + 2 ≤ z := by rw [← hz]; unfold spnQ; omega
    have hz2 := Lib.hid (show k + 2 ≤ s.size → z ≤ s.size from fun h => by rw [← hz]; have := (spn_le (p := bckQ) (l := s.data.toList) (k := k + 2) (by rw [HLN.out]; exact h)).2; rwa [HLN.out] at this)
    clear hz h96 h39
    have HK6 := Lib.hid hk96
    clear hk96
    go_upto_block 2 with fail
    go_cut [11] (fun e wi => e = .int .i64 z ∧ w1 = wi)
    case first =>
      go_wp2
      go_loop [11] (fun i => ∃ j : Nat, k + 2 ≤ j ∧ j ≤ z ∧ i = .int .i64 j ∧ Hid (spnQ bckQ s.data.toList j = z)) (fun i => s.size - (intOf i).toNat)
      case atStart => exact ⟨k + 2, Nat.le_refl _, hz0, by go_num, HZ⟩
      case round =>
        obtain ⟨j, hfj, hj, rfl, hE⟩ := hrel
        by_cases hlt : j < s.size
        · have HJ := Lib.hid (list_at hlt)
          cases h3 : (s[j] == 123)
          · have n3 : ((s[j].toNat : Int) != 123) = true := b_isn 123 (by decide) h3
            cases h5 : (s[j] == 125)
            · have n5 : ((s[j].toNat : Int) != 125) = true := b_isn 125 (by decide) h5
              have HN := Lib.hid (show spnQ bckQ s.data.toList (j + 1) = z by rw [← spn_on HJ.out (show bckQ s[j] = true by unfold bckQ; rw [h3, h5]; rfl)]; exact hE.out)
              have hz9 : j + 1 ≤ z := by rw [← HN.out]; unfold spnQ; omega
              clear h3 h5 hE
              go_wp2
              go_round
              case rel => exact ⟨j + 1, by omega, hz9, by go_num, HN⟩
              case measure => simp [intOf]; omega
            · have n5 : ((s[j].toNat : Int) != 125) = false := b_isn 125 (by decide) h5
              have HN := Lib.hid (show j = z by rw [← spn_off HJ.out (show bckQ s[j] = false by unfold bckQ; rw [h3, h5]; rfl)]; exact hE.out)
              clear h3 h5 hE
              go_wp2
              go_meet
              exact ⟨by rw [HN.out], rfl⟩
          · have n3 : ((s[j].toNat : Int) != 123) = false := b_isn 123 (by decide) h3
            have HN := Lib.hid (show j = z by rw [← spn_off HJ.out (show bckQ s[j] = false by unfold bckQ; rw [h3]; rfl)]; exact hE.out)
            clear h3 hE
            go_wp2
            go_meet
            exact ⟨by rw [HN.out], rfl⟩
        · have HN := Lib.hid (show j = z by rw [← spn_end (p := bckQ) (l := s.data.toList) (k := j) (by rw [HLN.out]; omega)]; exact hE.out)
          clear hE
          go_wp2
          go_meet
          exact ⟨by rw [HN.out], rfl⟩
    case rest =>
      obtain ⟨rfl, rfl⟩ := hcut
      rcases byte3 s (k + 1) 123 123 (by decide) with ⟨h1, n1⟩ | ⟨h1, n1, e1, e2⟩ | ⟨h1, n1, e1, e2⟩
      · have HN := Lib.hid (show onA s.data.toList k = .error 3 from on_bk_open HK6.out n1)
        clear n1
        go_wp2
        refine bodyPost_ret (back_pd (a0 := .int .i64 0) (a1 := .string ⟨#[]⟩) (a2 := .string ⟨#[]⟩) (a3 := .string ⟨#[]⟩) Tryz.results73 rfl rfl rfl (set_pc B0.out _ _ _ _)) rfl ?_
        exact ⟨grown_pc G0.out _ _ _ _ hgs, .inr ⟨3, rfl, by decide, HN.out⟩⟩
      · have HN := Lib.hid (show onA s.data.toList k = .error 3 from on_bk_open HK6.out n1)
        clear n1
        go_wp2
        refine bodyPost_ret (back_pd (a0 := .int .i64 0) (a1 := .string ⟨#[]⟩) (a2 := .string ⟨#[]⟩) (a3 := .string ⟨#[]⟩) Tryz.results73 rfl rfl rfl (set_pc B0.out _ _ _ _)) rfl ?_
        exact ⟨grown_pc G0.out _ _ _ _ hgs, .inr ⟨3, rfl, by decide, HN.out⟩⟩
      · have hzs := hz2.out (by omega)
        rcases byte3 s z 125 125 (by decide) with ⟨h3, n3⟩ | ⟨h3, n3, e3, e4⟩ | ⟨h3, n3, e3, e4⟩
        · have HN := Lib.hid (show onA s.data.toList k = .error 3 from on_bk_shut HK6.out n1 (by rw [HZ.out]; exact n3))
          clear n1 n3
          go_wp2
          refine bodyPost_ret (back_pd (a0 := .int .i64 0) (a1 := .string ⟨#[]⟩) (a2 := .string ⟨#[]⟩) (a3 := .string ⟨#[]⟩) Tryz.results73 rfl rfl rfl (set_pc B0.out _ _ _ _)) rfl ?_
          exact ⟨grown_pc G0.out _ _ _ _ hgs, .inr ⟨3, rfl, by decide, HN.out⟩⟩
        · have HN := Lib.hid (show onA s.data.toList k = .error 3 from on_bk_shut HK6.out n1 (by rw [HZ.out]; exact n3))
          clear n1 n3
          go_wp2
          refine bodyPost_ret (back_pd (a0 := .int .i64 0) (a1 := .string ⟨#[]⟩) (a2 := .string ⟨#[]⟩) (a3 := .string ⟨#[]⟩) Tryz.results73 rfl rfl rfl (set_pc B0.out _ _ _ _)) rfl ?_
          exact ⟨grown_pc G0.out _ _ _ _ hgs, .inr ⟨3, rfl, by decide, HN.out⟩⟩
        · obtain ⟨x, hx⟩ : ∃ x, s.extract (k + 2) z = x := ⟨_, rfl⟩
          have HN := Lib.hid (show onA s.data.toList k = .ok ((⟨4, x, ⟨#[]⟩, ⟨#[]⟩⟩ : Pb).q, s.data.toList.drop (z + 1)) by
            rw [on_bk HK6.out n1 (by rw [HZ.out]; exact n3), HZ.out]; unfold Pb.q; rw [← hx, toList_cut])
          have HX := Lib.hid hx
          clear n1 n3 hx
          go_wp2
          rw [HX.out]
          refine bodyPost_ret (back_pd (a0 := .int .i64 4) (a1 := .string x) (a2 := .string ⟨#[]⟩) (a3 := .string ⟨#[]⟩) Tryz.results73 rfl rfl rfl (set_pc B0.out _ _ _ _)) rfl ?_
          exact ⟨grown_pc G0.out _ _ _ _ hgs, .inl ⟨⟨4, x, ⟨#[]⟩, ⟨#[]⟩⟩, z + 1, rfl, by rw [HLN.out]; omega, HN.out⟩⟩
  case false =>
  have e96 : ((s[k].toNat : Int) == 96) = false := b_is 96 (by decide) h96
  cases h36 : (s[k] == 36)
  case true =>
    have e36 : ((s[k].toNat : Int) == 36) = true := b_is 36 (by decide) h36
    have hk36 : s.data.toList[k]? = some 36 := by rw [HK.out]; simpa using h36
    have CD := Lib.hid (dDollar s k w1 hs hk36)
    clear h39 h96 h36 hk36
    go_wp2_with fail
    refine CD.out.mono ?_
    rintro e w8 ⟨g8, hout⟩
    have B8 := Lib.hid (heap_grown g8 B0.out)
    have G8 := Lib.hid (G0.out.trans g8)
    clear c0 c1 c2 c3 fr CD g8
    obtain ⟨c0, c1, c2, c3⟩ := four_px B8.out
    have fr := free_pc B8.out
    rcases hout with ⟨y, q, rfl, hq, hR⟩ | ⟨bad, rfl, hb, hR⟩
    · have HN := Lib.hid hR
      clear hR
      go_wp2
      refine bodyPost_ret (back_pd (a0 := .int .i64 y.k) (a1 := .string y.t) (a2 := .string y.f) (a3 := .string y.o) Tryz.results73 rfl rfl rfl (set_pc B8.out _ _ _ _)) rfl ?_
      exact ⟨grown_pc G8.out _ _ _ _ hgs, .inl ⟨y, q, rfl, hq, HN.out⟩⟩
    · have HN := Lib.hid hR
      clear hR
      go_wp2
      refine bodyPost_ret (back_pd (a0 := .int .i64 0) (a1 := .string ⟨#[]⟩) (a2 := .string ⟨#[]⟩) (a3 := .string ⟨#[]⟩) Tryz.results73 rfl rfl rfl (set_pc B8.out _ _ _ _)) rfl ?_
      exact ⟨grown_pc G8.out _ _ _ _ hgs, .inr ⟨bad, rfl, hb, HN.out⟩⟩
  case false =>
  have e36 : ((s[k].toNat : Int) == 36) = false := b_is 36 (by decide) h36
  have hpk : plcQ s[k] = true := by unfold plcQ; rw [HBK.out, h39, h36, h96]; rfl
  obtain ⟨z, hz⟩ : ∃ z, spnQ plcQ s.data.toList k = z := ⟨_, rfl⟩
  have HZ := Lib.hid hz
  have hzl : k ≤ z ∧ z ≤ s.size := by have := spn_le (p := plcQ) (l := s.data.toList) (k := k) (by rw [HLN.out]; omega); rw [hz, HLN.out] at this; exact this
  have HR := Lib.hid (on_pl HK.out hpk)
  rw [hz] at HR
  obtain ⟨hz1, hz2⟩ := hzl
  have CB := Lib.hid (fun b w => dBlank b w)
  clear hz hpk h39 h96 h36
  go_upto_block 4 with fail
  go_cut [12] (fun e wi => e = .int .i64 z ∧ w1 = wi)
  case first =>
    go_wp2
    go_loop [12] (fun i => ∃ j : Nat, k ≤ j ∧ j ≤ z ∧ i = .int .i64 j ∧ Hid (spnQ plcQ s.data.toList j = z)) (fun i => s.size - (intOf i).toNat)
    case atStart => exact ⟨k, Nat.le_refl _, hz1, rfl, HZ⟩
    case round =>
      obtain ⟨j, hfj, hj, rfl, hE⟩ := hrel
      by_cases hlt : j < s.size
      · have HJ := Lib.hid (list_at hlt)
        have C1 := Lib.hid (fun w => CB.out s[j] w)
        cases hb : blkQ s[j]
        · cases h39 : (s[j] == 39)
          · cases h96 : (s[j] == 96)
            · cases h36 : (s[j] == 36)
              · have n39 : ((s[j].toNat : Int) != 39) = true := b_isn 39 (by decide) h39
                have n96 : ((s[j].toNat : Int) != 96) = true := b_isn 96 (by decide) h96
                have n36 : ((s[j].toNat : Int) != 36) = true := b_isn 36 (by decide) h36
                have HN := Lib.hid (show spnQ plcQ s.data.toList (j + 1) = z by rw [← spn_on HJ.out (show plcQ s[j] = true by unfold plcQ; simp [hb, h39, h96, h36])]; exact hE.out)
                have hz9 : j + 1 ≤ z := by rw [← HN.out]; unfold spnQ; omega
                rw [hb] at C1
                clear hb hE h39 h96 h36
                go_wp2_with (go_at_call 72; (with_reducible refine (C1.out _).mono ?_); rintro e w3 ⟨rfl, rfl⟩)
                go_round
                case rel => exact ⟨j + 1, by omega, hz9, by go_num, HN⟩
                case measure => simp [intOf]; omega
              · have n39 : ((s[j].toNat : Int) != 39) = true := b_isn 39 (by decide) h39
                have n96 : ((s[j].toNat : Int) != 96) = true := b_isn 96 (by decide) h96
                have n36 : ((s[j].toNat : Int) != 36) = false := b_isn 36 (by decide) h36
                have HN := Lib.hid (show j = z by rw [← spn_off HJ.out (show plcQ s[j] = false by unfold plcQ; simp [hb, h39, h96, h36])]; exact hE.out)
                rw [hb] at C1
                clear hb hE h39 h96 h36
                go_wp2_with (go_at_call 72; (with_reducible refine (C1.out _).mono ?_); rintro e w3 ⟨rfl, rfl⟩)
                go_meet
                exact ⟨by rw [HN.out], rfl⟩
            · have n39 : ((s[j].toNat : Int) != 39) = true := b_isn 39 (by decide) h39
              have n96 : ((s[j].toNat : Int) != 96) = false := b_isn 96 (by decide) h96
              have HN := Lib.hid (show j = z by rw [← spn_off HJ.out (show plcQ s[j] = false by unfold plcQ; simp [hb, h39, h96])]; exact hE.out)
              rw [hb] at C1
              clear hb hE h39 h96
              go_wp2_with (go_at_call 72; (with_reducible refine (C1.out _).mono ?_); rintro e w3 ⟨rfl, rfl⟩)
              go_meet
              exact ⟨by rw [HN.out], rfl⟩
          · have n39 : ((s[j].toNat : Int) != 39) = false := b_isn 39 (by decide) h39
            have HN := Lib.hid (show j = z by rw [← spn_off HJ.out (show plcQ s[j] = false by unfold plcQ; simp [hb, h39])]; exact hE.out)
            rw [hb] at C1
            clear hb hE h39
            go_wp2_with (go_at_call 72; (with_reducible refine (C1.out _).mono ?_); rintro e w3 ⟨rfl, rfl⟩)
            go_meet
            exact ⟨by rw [HN.out], rfl⟩
        · have HN := Lib.hid (show j = z by rw [← spn_off HJ.out (show plcQ s[j] = false by unfold plcQ; simp [hb])]; exact hE.out)
          rw [hb] at C1
          clear hb hE
          go_wp2_with (go_at_call 72; (with_reducible refine (C1.out _).mono ?_); rintro e w3 ⟨rfl, rfl⟩)
          go_meet
          exact ⟨by rw [HN.out], rfl⟩
      · have HN := Lib.hid (show j = z by rw [← spn_end (p := plcQ) (l := s.data.toList) (k := j) (by rw [HLN.out]; omega)]; exact hE.out)
        clear hE
        go_wp2
        go_meet
        exact ⟨by rw [HN.out], rfl⟩
  case rest =>
    obtain ⟨rfl, rfl⟩ := hcut
    obtain ⟨x, hx⟩ : ∃ x, s.extract k z = x := ⟨_, rfl⟩
    have HN := Lib.hid (show onA s.data.toList k = .ok ((⟨0, x, ⟨#[]⟩, ⟨#[]⟩⟩ : Pb).q, s.data.toList.drop z) by
      rw [HR.out]; unfold Pb.q; rw [← hx, toList_cut])
    have HX := Lib.hid hx
    clear hx
    go_wp2
    rw [HX.out]
    refine bodyPost_ret (back_pd (a0 := .int .i64 0) (a1 := .string x) (a2 := .string ⟨#[]⟩) (a3 := .string ⟨#[]⟩) Tryz.results73 rfl rfl rfl (set_pc B0.out _ _ _ _)) rfl ?_
    exact ⟨grown_pc G0.out _ _ _ _ hgs, .inl ⟨⟨0, x, ⟨#[]⟩, ⟨#[]⟩⟩, z, rfl, by rw [HLN.out]; omega, HN.out⟩⟩
end Go.Proofs.YtdganemgldocoaaGreatDoor

namespace Go.Proofs.YtdganemgldocoaaGreatDoor
open Go.RowKit

/-- the words of a text and no error, or none and the error's number -/
def PWd17 (l : List UInt8) (w : World) (e : Ending) (w' : World) : Prop :=
  w.grownBy w' none ∧ match wdQ [] [] l with
    | .ok L => ∃ v LB, e = .returned (.tuple #[v, .int .i64 0]) ∧ RRow w' v LB ∧ pcLL LB = L
    | .error bad => e = .returned (.tuple #[.slice none 0 0, .int .i64 bad])
/-- the words that the document's call makes and no error, or none and the error's number -/
def PWo17 (l : List UInt8) (w : World) (e : Ending) (w' : World) : Prop :=
  w.grownBy w' none ∧ match wdQ [] [] l with
    | .ok L => ∃ v LB, e = .returned (.tuple #[v, .int .i64 0]) ∧ OwnRR w' w.heap.size 107 106 v LB ∧ LB.length ≤ 5001 ∧ pcLL LB = L
    | .error bad => e = .returned (.tuple #[.slice none 0 0, .int .i64 bad])
theorem PWo17.row {l : List UInt8} {w : World} {e : Ending} {w' : World} (h : PWo17 l w e w') : PWd17 l w e w' := by
  obtain ⟨g, h⟩ := h
  refine ⟨g, ?_⟩
  cases hw : wdQ [] [] l with
  | ok L =>
    rw [hw] at h
    obtain ⟨v, LB, he, ho, hl, hp⟩ := h
    exact ⟨v, LB, he, rr_row ho (by omega), hp⟩
  | error k => rw [hw] at h; exact h
/-- rows of pieces that lie apart from the word that grows: base ≤ lim, the rows below lim, the word from lim on -/
def RowsW (W : World) (base lim : Nat) (vs : List Value) (O : List (List Pb)) : Prop :=
  vs.length = O.length ∧ ∀ (m : Nat) (u : Value) (l : List Pb), vs[m]? = some u → O[m]? = some l → l.length ≤ 5000 ∧ W.ownsRow base 107 4 u l.length (pcV l) ∧ ∀ k, u.ownBlock = some k → k < lim
theorem RowsW.kept {W W' : World} {base lim : Nat} {vs : List Value} {O : List (List Pb)} {row : Option Nat} (h : RowsW W base lim vs O) (g : W.grownBy W' row) (hr : ∀ k, row = some k → lim ≤ k ∨ ∃ c, W.heap[k]? = some (.cells c 106 (0, 0))) : RowsW W' base lim vs O := by
  refine ⟨h.1, fun m u l h1 h2 => ?_⟩
  obtain ⟨a, b, c⟩ := h.2 m u l h1 h2
  refine ⟨a, b.kept g ?_, c⟩
  rcases hu : u.ownBlock with _ | k
  · exact .inl rfl
  · right
    intro e
    rcases hr k e.symm with h3 | ⟨cc, h3⟩
    · have := c k hu; omega
    · rcases b.2 with ⟨h4, -⟩ | ⟨g, cap, cur, h4, -, h5, -⟩
      · rw [h4] at hu; cases hu
      · rw [h4] at hu
        simp [Value.ownBlock] at hu
        subst hu
        rw [h5] at h3
        cases h3
theorem RowsW.up {W : World} {base lim lim' : Nat} {vs : List Value} {O : List (List Pb)} (h : RowsW W base lim vs O) (hl : lim ≤ lim') : RowsW W base lim' vs O :=
  ⟨h.1, fun m u l h1 h2 => ⟨(h.2 m u l h1 h2).1, (h.2 m u l h1 h2).2.1, fun k hk => Nat.lt_of_lt_of_le ((h.2 m u l h1 h2).2.2 k hk) hl⟩⟩
theorem RowsW.snoc {W : World} {base lim : Nat} {vs : List Value} {O : List (List Pb)} {u : Value} {l : List Pb} (h : RowsW W base lim vs O) (hl : l.length ≤ 5000) (ho : W.ownsRow base 107 4 u l.length (pcV l)) (hk : ∀ k, u.ownBlock = some k → k < lim) : RowsW W base lim (vs ++ [u]) (O ++ [l]) := by
  refine ⟨by rw [List.length_append, List.length_append, h.1]; rfl, fun m u' l' h1 h2 => ?_⟩
  rcases Nat.lt_or_ge m vs.length with hm | hm
  · rw [List.getElem?_append_left hm] at h1
    rw [List.getElem?_append_left (by rw [← h.1]; exact hm)] at h2
    exact h.2 m u' l' h1 h2
  · rw [List.getElem?_append_right hm] at h1
    have hm0 : m - vs.length = 0 := by have := (List.getElem?_eq_some_iff.1 h1).1; simp at this; omega
    rw [List.getElem?_append_right (by rw [← h.1]; exact hm), ← h.1, hm0] at h2
    rw [hm0] at h1
    cases h1; cases h2
    exact ⟨hl, ho, hk⟩
theorem own_cells {W : World} {base n s : Nat} {T : TypeId} {v : Value} {xs : List Value} (h : W.ownsRow base T s v n xs) : ∀ k, v.ownBlock = some k → ∃ c, W.heap[k]? = some (.cells c T (0, 0)) := by
  intro k hk
  rcases h.2 with ⟨h4, -⟩ | ⟨g, cap, cur, h4, -, h5, -⟩
  · rw [h4] at hk; cases hk
  · rw [h4] at hk
    simp [Value.ownBlock] at hk
    subst hk
    exact ⟨cur, h5⟩
set_option maxRecDepth 100000 in
set_option maxHeartbeats 8000000 in
theorem dWords13O (s : ByteArray) (w : World) (hs : s.size ≤ 5000) : Calls Tryz.prog 41 #[.string s] w (PWo17 s.data.toList w) := by
  obtain ⟨iu, hiu, hu0, hu1, hu2⟩ := info_parts infoPds
  have IU := Lib.hid hiu; have ZU0 := Lib.hid hu0; have ZU1 := Lib.hid hu1; have ZU2 := Lib.hid hu2
  obtain ⟨ip, hip, hp0, hp1, hp2⟩ := info_parts infoPd
  have IP := Lib.hid hip; have ZP0 := Lib.hid hp0; have ZP1 := Lib.hid hp1; have ZP2 := Lib.hid hp2
  have hlen : s.data.toList.length = s.size := by simp
  have HLN := Lib.hid hlen
  clear hiu hu0 hu1 hu2 hip hp0 hp1 hp2 hlen
  obtain ⟨base, hbase⟩ : ∃ base, base = w.heap.size := ⟨_, rfl⟩
  have HBL := Lib.hid (show w.heap.size = base from hbase.symm)
  go_enter Tryz.func41, Tryz.ntmps41
  go_upto_region 3 with fail
  have O1 := Lib.hid ((own_zero w 106 1 base (by omega)).alloc (.cells #[] 107))
  have W1 := Lib.hid (show ((w.alloc (.cells #[] 106)).alloc (.cells #[] 107)).ownsRow (base + 1) 107 4 (.slice (some ⟨w.heap.size + 1, 0, none⟩) 0 0) 0 [] by have h := own_zero (w.alloc (.cells #[] 106)) 107 4 (base + 1) (by simp; omega); rw [World.size_alloc] at h; exact h)
  have G1 := Lib.hid ((World.grownBy_alloc w (.cells #[] 106) none).trans (World.grownBy_alloc _ (.cells #[] 107) none))
  have S1 := Lib.hid (show base + 1 ≤ ((w.alloc (.cells #[] 106)).alloc (.cells #[] 107)).heap.size by simp; omega)
  generalize w.heap.size = ww at O1 W1 hbase ⊢
  generalize (w.alloc _).alloc _ = w1 at O1 W1 G1 S1 ⊢
  clear hbase
  go_wp2
  go_loopw [4, 5, 6, 8, 9] (fun o v i _ _ wr => ∃ (j : Nat) (O : List (List Pb)) (W : List Pb) (ua va : Option Addr) (uc vc : Nat) (vs : List Value) (lim : Nat), j ≤ s.size ∧ i = .int .i64 j ∧ o = .slice ua O.length uc ∧ v = .slice va W.length vc ∧ Hid (O.length ≤ j ∧ W.length ≤ j) ∧ Hid (wdQ [] [] s.data.toList = wdA s.data.toList (pcL W) (pcLL O) j) ∧ Hid (wr.ownsRow base 106 1 (.slice ua O.length uc) O.length vs) ∧ Hid (RowsW wr base lim vs O) ∧ Hid (base ≤ lim ∧ lim ≤ wr.heap.size ∧ wr.ownsRow lim 107 4 (.slice va W.length vc) W.length (pcV W)) ∧ Hid (w.grownBy wr none)) (fun _ _ i _ _ _ => s.size - (intOf i).toNat)
  case atStart => exact ⟨0, [], [], _, _, _, _, [], base + 1, Nat.zero_le _, rfl, rfl, rfl, Lib.hid ⟨Nat.zero_le _, Nat.zero_le _⟩, Lib.hid rfl, O1, Lib.hid ⟨rfl, fun m u l hu _ => by simp at hu⟩, Lib.hid ⟨by omega, S1.out, W1.out⟩, G1⟩
  case round =>
    obtain ⟨j, O, W, ua, va, uc, vc, vs, lim, hj, rfl, rfl, rfl, hOl, hF, hO, hI, hW, hG⟩ := hrel
    by_cases hlt : j < s.size
    · have HJ := Lib.hid (list_at hlt)
      have CB := Lib.hid (fun w => dBlank s[j] w)
      cases hb : blkQ s[j]
      · rw [hb] at CB
        have CP := Lib.hid (dOne s j wr hs hlt hb)
        have HB := Lib.hid hb
        clear hb
        go_wp2_with (go_at_call 72; (with_reducible refine (CB.out _).mono ?_); rintro e w3 ⟨rfl, rfl⟩)
        refine CP.out.mono ?_
        rintro e w3 ⟨g3, hout⟩
        have G3 := Lib.hid (hG.out.trans g3)
        have R3 := Lib.hid (own_kept hO.out g3)
        have I3 := Lib.hid (hI.out.kept g3 (by simp))
        have W3 := Lib.hid (show base ≤ lim ∧ lim ≤ w3.heap.size ∧ w3.ownsRow lim 107 4 (.slice va W.length vc) W.length (pcV W) from ⟨hW.out.1, Nat.le_trans hW.out.2.1 g3.size, own_kept hW.out.2.2 g3⟩)
        clear CP g3 hO hI hW
        rcases hout with ⟨x, q, rfl, hq, hP⟩ | ⟨bad, rfl, hbd, hP⟩
        · have hjq : j < q := on_place HJ.out HB.out hP hq
          have hqs : q ≤ s.size := by rw [← HLN.out]; exact hq
          have HF := Lib.hid (show wdQ [] [] s.data.toList = wdA s.data.toList (pcL (W ++ [x])) (pcLL O) q by
            rw [hF.out, wdA_piece HJ.out HB.out hP]; simp [pcL])
          clear hP hq hF
          go_upto_region 11 with fail
          have g4 := World.grownBy_alloc w3 (.cells #[.int .i64 x.k, .string x.t, .string x.f, .string x.o] 107) none
          have B4 := Lib.hid (heap_alloc_new w3 (.cells #[.int .i64 x.k, .string x.t, .string x.f, .string x.o] 107))
          have G4 := Lib.hid (G3.out.trans g4)
          have R4 := Lib.hid (own_kept R3.out g4)
          have I4 := Lib.hid (I3.out.kept g4 (by simp))
          have W4 := Lib.hid (show base ≤ lim ∧ lim ≤ (w3.alloc (.cells #[.int .i64 x.k, .string x.t, .string x.f, .string x.o] 107)).heap.size ∧ (w3.alloc (.cells #[.int .i64 x.k, .string x.t, .string x.f, .string x.o] 107)).ownsRow lim 107 4 (.slice va W.length vc) W.length (pcV W) from ⟨W3.out.1, Nat.le_trans W3.out.2.1 g4.size, own_kept W3.out.2.2 g4⟩)
          clear hG R3 g4 I3 W3
          generalize w3.alloc _ = w4 at B4 G4 R4 I4 W4 ⊢
          obtain ⟨d0, d1, d2, d3⟩ := four_px B4.out
          go_wp2_with (at_builtin; refine wpList_append_own _ rfl _ _ 106 rfl lim 107 ip _ 4 56 Tryz.underlying106 IP.out ZP0.out ZP1.out ZP2.out rfl (by decide) _ _ _ rfl (W4.out.2.2.alloc _) ⟨_, 0, none⟩ 1 1 [.int .i64 x.k, .string x.t, .string x.f, .string x.o] rfl rfl (pc_new _ x _ _ (by simp)) (pc_one x) (by have := hOl.out.2; unfold maxLen; omega) (by have := hOl.out.2; omega) (by have := W4.out.2.1; simp; omega) ?_; intro v9 w9 hown9 hgrow9 _; have G9 := Lib.hid ((G4.out.trans (World.grownBy_alloc _ _ _)).andThen hgrow9 (fun k hk => .inl (by have := (W4.out.2.2.lt k hk).1; have := W4.out.1; have := HBL.out; omega))); have O9 := Lib.hid hown9; have R9 := Lib.hid ((R4.out.alloc _).kept hgrow9 (tx_apart R4.out W4.out.2.2 (by decide))); have I9 := Lib.hid ((I4.out.kept (World.grownBy_alloc _ _ none) (by simp)).kept hgrow9 (fun k hk => .inl (W4.out.2.2.lt k hk).1)); have S9 := Lib.hid (show lim ≤ w9.heap.size from Nat.le_trans W4.out.2.1 (Nat.le_trans (World.grownBy_alloc w4 _ none).size hgrow9.size)); clear hown9 hgrow9)
          obtain ⟨va9, vc9, rfl⟩ := tx_shape O9.out
          have HL2 := Lib.hid (show (W ++ [x]).length = W.length + 1 by simp)
          have OA := Lib.hid (show base ≤ lim ∧ lim ≤ w9.heap.size ∧ w9.ownsRow lim 107 4 (.slice va9 (W ++ [x]).length vc9) (W ++ [x]).length (pcV (W ++ [x])) from ⟨W4.out.1, S9.out, by rw [HL2.out, pcV_snoc]; exact O9.out⟩)
          go_wp2
          go_roundw
          case rel => exact ⟨q, O, W ++ [x], ua, va9, uc, vc9, vs, lim, hqs, by go_num, rfl, by rw [HL2.out], Lib.hid (by rw [HL2.out]; have := hOl.out; omega), HF, R9, I9, OA, G9⟩
          case measure => simp [intOf]; omega
        · have HN := Lib.hid (show wdQ [] [] s.data.toList = .error bad by rw [hF.out, wdA_err HJ.out HB.out hP])
          clear hP hF
          go_wp2
          go_ret2
          refine ⟨G3.out.trans (World.grownBy_alloc _ _ _), ?_⟩
          rw [HN.out]
          exact rfl
      · rw [hb] at CB
        have HF := Lib.hid (show wdQ [] [] s.data.toList = wdA s.data.toList [] (flW (pcL W) (pcLL O)) (j + 1) by rw [hF.out, wdA_blank HJ.out hb])
        clear hb hF
        by_cases hw0 : W.length = 0
        · have hWn : W = [] := List.length_eq_zero_iff.1 hw0
          subst hWn
          go_wp2_with (go_at_call 72; (with_reducible refine (CB.out _).mono ?_); rintro e w3 ⟨rfl, rfl⟩)
          go_roundw
          case rel => exact ⟨j + 1, O, [], ua, va, uc, vc, vs, lim, by omega, by go_num, rfl, rfl, Lib.hid (by have := hOl.out; omega), HF, hO, hI, hW, hG⟩
          case measure => simp [intOf]; omega
        · have hfl : flW (pcL W) (pcLL O) = pcLL (O ++ [W]) := by
            unfold flW
            rw [if_neg (by simp; rintro rfl; exact hw0 rfl)]
            simp [pcLL]
          rw [hfl] at HF
          have hw1 : 0 < W.length := by omega
          clear hw0 hfl
          go_upto_region 8 with (first
            | (go_at_call 72; (with_reducible refine (CB.out _).mono ?_); rintro e w3 ⟨rfl, rfl⟩)
            | (at_builtin; refine wpList_append_own _ rfl _ _ 49 rfl base 106 iu (.slice none 0 0) 1 24 Tryz.underlying49 IU.out ZU0.out ZU1.out ZU2.out rfl (by decide) (.slice ua O.length uc) O.length vs rfl (hO.out.alloc _) ⟨_, 0, none⟩ 1 1 [.slice va W.length vc] rfl rfl (sl_new _ _ _ _ (by simp)) (by intro u hu; simp at hu; subst hu; rfl) (by have := hOl.out; unfold maxLen; omega) (by have := hOl.out; omega) (by have := hG.out.size; have := HBL.out; simp; omega) ?_; intro v9 w9 hown9 hgrow9 _; have G9 := Lib.hid ((hG.out.trans (World.grownBy_alloc _ _ _)).andThen hgrow9 (fun k hk => .inl (by have := (hO.out.lt k hk).1; have := HBL.out; omega))); have O9 := Lib.hid hown9; have P9 := Lib.hid ((hW.out.2.2.alloc _).kept hgrow9 (tx_apart hW.out.2.2 hO.out (by decide))); have I9 := Lib.hid ((hI.out.kept (World.grownBy_alloc _ _ none) (by simp)).kept hgrow9 (fun k hk => .inr (own_cells (hO.out.alloc _) k hk))); have S9 := Lib.hid (show wr.heap.size ≤ w9.heap.size from Nat.le_trans (World.grownBy_alloc wr _ none).size hgrow9.size); clear hown9 hgrow9))
          obtain ⟨va9, vc9, rfl⟩ := tx_shape O9.out
          have HL2 := Lib.hid (show (O ++ [W]).length = O.length + 1 by simp)
          have hw5 : W.length ≤ 5000 := by have := hOl.out; omega
          have I10 := Lib.hid ((I9.out.up (show lim ≤ w9.heap.size from Nat.le_trans hW.out.2.1 (by exact S9.out))).snoc hw5 (own_up P9.out hW.out.1) (fun k hk => (P9.out.lt k hk).2))
          have R10 := Lib.hid (own_kept O9.out (World.grownBy_alloc w9 (.cells #[] 107) none))
          have I11 := Lib.hid (I10.out.kept (World.grownBy_alloc w9 (.cells #[] 107) none) (by simp))
          have G10 := Lib.hid (G9.out.trans (World.grownBy_alloc w9 (.cells #[] 107) none))
          have W10 := Lib.hid (own_zero w9 107 4 w9.heap.size (Nat.le_refl _))
          have S10 := Lib.hid (show w9.heap.size ≤ (w9.alloc (.cells #[] 107)).heap.size from (World.grownBy_alloc w9 _ none).size)
          have hbs : base ≤ w9.heap.size := by have := G9.out.size; have := HBL.out; omega
          go_upto_region 9 with fail
          generalize w9.alloc _ = w10 at R10 I11 G10 W10 S10 ⊢
          have OA := Lib.hid (show w10.ownsRow base 106 1 (.slice va9 (O ++ [W]).length vc9) (O ++ [W]).length (vs ++ [.slice va W.length vc]) by rw [HL2.out]; exact R10.out)
          go_wp2
          go_roundw
          case rel => exact ⟨j + 1, O ++ [W], [], va9, _, vc9, _, vs ++ [.slice va W.length vc], w9.heap.size, by omega, by go_num, by rw [HL2.out], rfl, Lib.hid (by rw [HL2.out]; have := hOl.out; exact ⟨by omega, Nat.zero_le _⟩), HF, OA, I11, Lib.hid ⟨hbs, S10.out, W10.out⟩, G10⟩
          case measure => simp [intOf]; omega
    · have HN := Lib.hid (show wdQ [] [] s.data.toList = .ok (flW (pcL W) (pcLL O)) by rw [hF.out, wdA_end (by rw [HLN.out]; omega)])
      by_cases hw0 : W.length = 0
      · have hWn : W = [] := List.length_eq_zero_iff.1 hw0
        subst hWn
        have HF := Lib.hid (show OwnRR wr base 107 106 (.slice ua O.length uc) O from ⟨vs, hI.out.1, hO.out, fun m u l h1 h2 => ⟨by have := (hI.out.2 m u l h1 h2).1; omega, (hI.out.2 m u l h1 h2).2.1⟩⟩)
        go_wp2
        go_ret2
        refine ⟨hG.out, ?_⟩
        rw [HN.out]
        exact ⟨_, O, rfl, by rw [HBL.out]; exact HF.out, by have := hOl.out; omega, rfl⟩
      · have hfl : flW (pcL W) (pcLL O) = pcLL (O ++ [W]) := by
          unfold flW
          rw [if_neg (by simp; rintro rfl; exact hw0 rfl)]
          simp [pcLL]
        rw [hfl] at HN
        have hw1 : 0 < W.length := by omega
        clear hw0 hfl
        go_wp2_with (at_builtin; refine wpList_append_own _ rfl _ _ 49 rfl base 106 iu (.slice none 0 0) 1 24 Tryz.underlying49 IU.out ZU0.out ZU1.out ZU2.out rfl (by decide) (.slice ua O.length uc) O.length vs rfl (hO.out.alloc _) ⟨_, 0, none⟩ 1 1 [.slice va W.length vc] rfl rfl (sl_new _ _ _ _ (by simp)) (by intro u hu; simp at hu; subst hu; rfl) (by have := hOl.out; unfold maxLen; omega) (by have := hOl.out; omega) (by have := hG.out.size; have := HBL.out; simp; omega) ?_; intro v9 w9 hown9 hgrow9 _; have G9 := Lib.hid ((hG.out.trans (World.grownBy_alloc _ _ _)).andThen hgrow9 (fun k hk => .inl (by have := (hO.out.lt k hk).1; have := HBL.out; omega))); have O9 := Lib.hid hown9; have P9 := Lib.hid ((hW.out.2.2.alloc _).kept hgrow9 (tx_apart hW.out.2.2 hO.out (by decide))); have I9 := Lib.hid ((hI.out.kept (World.grownBy_alloc _ _ none) (by simp)).kept hgrow9 (fun k hk => .inr (own_cells (hO.out.alloc _) k hk))); have S9 := Lib.hid (show wr.heap.size ≤ w9.heap.size from Nat.le_trans (World.grownBy_alloc wr _ none).size hgrow9.size); clear hown9 hgrow9)
        obtain ⟨va9, vc9, rfl⟩ := tx_shape O9.out
        have HL2 := Lib.hid (show (O ++ [W]).length = O.length + 1 by simp)
        have hw5 : W.length ≤ 5000 := by have := hOl.out; omega
        have I10 := Lib.hid ((I9.out.up (show lim ≤ w9.heap.size from Nat.le_trans hW.out.2.1 S9.out)).snoc hw5 (own_up P9.out hW.out.1) (fun k hk => (P9.out.lt k hk).2))
        have HF := Lib.hid (show OwnRR w9 base 107 106 (.slice va9 (O ++ [W]).length vc9) (O ++ [W]) from ⟨_, I10.out.1, by rw [HL2.out]; exact O9.out, fun m u l h1 h2 => ⟨by have := (I10.out.2 m u l h1 h2).1; omega, (I10.out.2 m u l h1 h2).2.1⟩⟩)
        rw [HL2.out] at HF
        go_wp2
        go_ret2
        refine ⟨G9.out, ?_⟩
        rw [HN.out]
        exact ⟨_, O ++ [W], rfl, by rw [HBL.out]; exact HF.out, by rw [HL2.out]; have := hOl.out; omega, rfl⟩
theorem dWords13 (s : ByteArray) (w : World) (hs : s.size ≤ 5000) : Calls Tryz.prog 41 #[.string s] w (PWd17 s.data.toList w) := (dWords13O s w hs).mono fun _ _ h => h.row
end Go.Proofs.YtdganemgldocoaaGreatDoor

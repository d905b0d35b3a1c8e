/- Walks of package lex: the pieces with brackets: what begins at a dollar sign, what stands between a name and the bracket that closes. -/
import Derived.Test.YtheeeofdgpcfeaaDoorLxAt
import Derived.Laws.ResultCell
namespace Go.Proofs.YtheeeofdgpcfeaaDoor
open Go.RowKit

/-- what the library's and the small functions answer, as the walks of pieces are told of it -/
structure LbX (M : World → Prop) : Prop where
  gr : ∀ w w' : World, M w → w.grownBy w' none → M w'
  pat : ∀ (b : UInt8) (w : World), Calls Tryd.prog 50 #[.int .u8 b.toNat] w fun e w' => e = .returned (.bool (patQ b)) ∧ w = w'
  pre : ∀ (s p : ByteArray) (w : World), Calls Tryd.prog 36 #[.string s, .string p] w fun e w' => e = .returned (.bool (Lib.hasPrefix s.data.toList p.data.toList)) ∧ w = w'
  cutp : ∀ (s p : ByteArray) (w : World), Calls Tryd.prog 40 #[.string s, .string p] w fun e w' => e = .returned (.tuple #[.string ⟨(Lib.trimPrefix s.data.toList p.data.toList).toArray⟩, .bool (Lib.hasPrefix s.data.toList p.data.toList)]) ∧ w = w'
  cut : ∀ (s p : ByteArray) (w : World), M w → s.size ≤ 100000 → Calls Tryd.prog 41 #[.string s, .string p] w fun e w' => e = .returned (.tuple #[.string ⟨(Lib.cut s.data.toList p.data.toList).1.toArray⟩, .string ⟨(Lib.cut s.data.toList p.data.toList).2.1.toArray⟩, .bool (Lib.cut s.data.toList p.data.toList).2.2]) ∧ ∃ n, w' = w.drewN n
  has : ∀ (s : ByteArray) (c : UInt8) (w : World), Calls Tryd.prog 42 #[.string s, .string ⟨#[c]⟩] w fun e w' => e = .returned (.bool (decide (0 ≤ Lib.indexByte s.data.toList c))) ∧ w = w'
  undo : ∀ (s : ByteArray) (w : World), M w → s.size ≤ 100000 → Calls Tryd.prog 23 #[.string s, .string ⟨#[39, 39]⟩, .string ⟨#[39]⟩] w fun e w' => e = .returned (.string ⟨(unQ s.data.toList).toArray⟩) ∧ w.grownBy w' none
  twice : ∀ (s : ByteArray) (w : World), M w → s.size ≤ 100000 → Calls Tryd.prog 23 #[.string s, .string ⟨#[39]⟩, .string ⟨#[39, 39]⟩] w fun e w' => e = .returned (.string ⟨(twoQ s.data.toList).toArray⟩) ∧ w.grownBy w' none

theorem pre_at {s : ByteArray} {k : Nat} {c : UInt8} : Lib.hasPrefix (s.extract k s.size).data.toList [c] = decide (s.data.toList[k]? = some c) := by
  have e : (s.extract k s.size).data.toList = s.data.toList.drop k := by
    rw [toList_cut, List.take_of_length_le (by simp)]
  rw [e]
  unfold Lib.hasPrefix
  cases h : s.data.toList[k]? with
  | none => rw [List.drop_of_length_le (List.getElem?_eq_none_iff.1 h)]; rfl
  | some b =>
    rw [drop_at h]
    by_cases hb : c = b
    · subst hb; simp [List.isPrefixOf]
    · have hb2 : ¬b = c := fun x => hb x.symm
      simp [List.isPrefixOf, hb, hb2]
abbrev pcA (x : Pb) : Value := .agg #[.int .i64 x.k, .string x.t, .string x.f, .string x.o]
theorem sizePc : (Tryd.prog.info? 27).map (·.size) = some 4 := by kernel_rfl
theorem set_pc {w : World} {b : Nat} {a0 a1 a2 a3 : Value} {t : TypeId} (h : w.heap[b]? = some (.cells #[a0, a1, a2, a3] t (0, 0))) (v0 v1 v2 v3 : Value) :
    ((((w.setCell ⟨b, 0, none⟩ v0).setCell ⟨b, 1, none⟩ v1).setCell ⟨b, 2, none⟩ v2).setCell ⟨b, 3, none⟩ v3).heap[b]? = some (.cells #[v0, v1, v2, v3] t (0, 0)) :=
  heap_setCell_same _ b 3 _ _ v3 (heap_setCell_same _ b 2 _ _ v2 (heap_setCell_same _ b 1 _ _ v1 (heap_setCell_same _ b 0 _ _ v0 h)))
theorem free_pc {w : World} {b : Nat} {c : Array Value} {t : TypeId} (h : w.heap[b]? = some (.cells c t (0, 0))) (i : Nat) : w.frozen? ⟨b, i, none⟩ = false := frozen_of_row w b i c t h
theorem grown_pc {w w1 : World} (h : w.grownBy w1 none) {b : Nat} (v0 v1 v2 v3 : Value) (hb : w.heap.size ≤ b) :
    w.grownBy ((((w1.setCell ⟨b, 0, none⟩ v0).setCell ⟨b, 1, none⟩ v1).setCell ⟨b, 2, none⟩ v2).setCell ⟨b, 3, none⟩ v3) none :=
  grown_of_below (((((below_of_grown h).setCell hb v0).setCell hb v1).setCell hb v2).setCell hb v3)
theorem back_pc {fn : Func} {p q r : Tmp} {w : World} {g : Nat} {a0 a1 a2 a3 u v : Value} {tmps : Array Value} (hf : fn.results = #[.cell p 27, .tmp q, .tmp r])
    (hp : tmps.getD p undef = .pointer (some ⟨g, 0, none⟩)) (hq : tmps.getD q undef = u) (hr : tmps.getD r undef = v) (hg : w.heap[g]? = some (.cells #[a0, a1, a2, a3] 27 (0, 0))) :
    (results fn tmps).run Tryd.prog w = .ok (.tuple #[.agg #[a0, a1, a2, a3], u, v]) w := by
  have hp' : tmps[p]?.getD undef = .pointer (some ⟨g, 0, none⟩) := by simpa using hp
  have hq' : tmps[q]?.getD undef = u := by simpa using hq
  have hr' : tmps[r]?.getD undef = v := by simpa using hr
  have hl := run_loadVar_row (P := Tryd.prog) w g 27 27 _ (0, 0) _ hg Tryd.underlying27 rfl sizePc
  simp [results, hf, hp', hq', hr', asAddr, hl]
abbrev zPc : Value := .agg #[.int .i64 0, .string ⟨#[]⟩, .string ⟨#[]⟩, .string ⟨#[]⟩]
/-- a piece and where it ends, or an error -/
def PPc (R : Except Nat (Pq × List UInt8)) (l : List UInt8) (A : Nat → Addr) (w : World) (e : Ending) (w' : World) : Prop :=
  w.grownBy w' none ∧
  ((∃ (x : Pb) (q : Nat), e = .returned (.tuple #[pcA x, .int .i64 q, .nilIface]) ∧ q ≤ l.length ∧ R = .ok (x.q, l.drop q)) ∨
   (∃ bad : Nat, e = .returned (.tuple #[zPc, .int .i64 0, .iface 86 (.pointer (some (A bad)))]) ∧ bad ≠ 0 ∧ R = .error bad))
theorem pat_no {b : UInt8} (h : b = 61 ∨ b = 125) : patQ b = false := by rcases h with rfl | rfl <;> decide
theorem byte_ne {b : UInt8} {n : Nat} (hn : n < 256) (h : b ≠ UInt8.ofNat n) : ((b.toNat : Int) == (n : Int)) = false := by
  rw [beq_eq_false_iff_ne]; intro e; apply h; apply UInt8.toNat_inj.1; rw [UInt8.toNat_ofNat']; omega

set_option maxRecDepth 100000 in
set_option maxHeartbeats 4000000 in
theorem xSubstAt {M : World → Prop} (L : LbX M) (A : Nat → Addr) (s n : ByteArray) (k : Nat) (w : World) (hs : s.size ≤ 5000) (hk : s.data.toList[k]? = some 58)
    (hE : w.cell? ⟨2, 0, none⟩ = some (.iface 86 (.pointer (some (A 3))))) :
    Calls Tryd.prog 39 #[.string s, .int .i64 ((k : Int) + 1), .string n] w (PPc (crQ n.data.toList (s.data.toList.drop k)) s.data.toList A w) := by
  have hlen : s.data.toList.length = s.size := by simp
  have hks : k < s.size := by have := (List.getElem?_eq_some_iff.1 hk).1; omega
  have HLN := Lib.hid hlen; have HK := Lib.hid hk; have HE := Lib.hid hE
  have LP := Lib.hid (fun b w => L.pat b w)
  have B0 := Lib.hid (heap_alloc_new w (.cells #[.int .i64 0, .string ⟨#[]⟩, .string ⟨#[]⟩, .string ⟨#[]⟩] 27))
  have G0 := Lib.hid (World.grownBy_alloc w (.cells #[.int .i64 0, .string ⟨#[]⟩, .string ⟨#[]⟩, .string ⟨#[]⟩] 27) none)
  have hgr : 2 < w.heap.size := cell_block hE
  clear hlen hk hE
  go_enter Tryd.func39, Tryd.ntmps39
  go_wp2
  go_step3
  go_upto_region 1 with fail
  generalize w.alloc _ = w1 at B0 G0 ⊢
  obtain ⟨g, eg⟩ : ∃ g, w.heap.size = g := ⟨_, rfl⟩
  rw [eg] at B0 hgr ⊢
  have hgs : w.heap.size ≤ g := by omega
  obtain ⟨c0, c1, c2, c3⟩ := four_px B0.out
  have fr := free_pc B0.out
  have H2 : w1.cell? ⟨2, 0, none⟩ = some (.iface 86 (.pointer (some (A 3)))) := G0.out.cell HE.out (by simp)
  have hgr2 : ¬g = 2 := by omega
  have hgr3 : ¬2 = g := by omega
  clear eg
  go_wp2
  go_step3
  go_wp2
  go_loop [9, 10] (fun mid i => ∃ j : Nat, k + 1 ≤ j ∧ j ≤ s.size ∧ i = .int .i64 j ∧ ((mid = .int .i64 (-1) ∧ Hid (spnQ patQ s.data.toList (k + 1) = spnQ patQ s.data.toList j)) ∨ ∃ m : Nat, mid = .int .i64 m ∧ k + 1 ≤ m ∧ m < j ∧ Hid (spnQ patQ s.data.toList (k + 1) = m ∧ s.data.toList[m]? = some 61 ∧ spnQ patQ s.data.toList (m + 1) = spnQ patQ s.data.toList j))) (fun _ i => s.size - (intOf i).toNat)
  case atStart => exact ⟨k + 1, Nat.le_refl _, hks, by go_num, .inl ⟨rfl, Lib.hid rfl⟩⟩
  case round =>
    obtain ⟨j, hkj, hj, rfl, hph⟩ := hrel
    by_cases hlt : j < s.size
    · have HJ := Lib.hid (list_at hlt)
      have CB := Lib.hid (fun w => LP.out s[j] w)
      rcases hph with ⟨rfl, hP⟩ | ⟨m, rfl, hkm, hmj, hP⟩
      · by_cases h61 : s[j] = 61
        · have e1 : (((s[j]).toNat : Int) == 61) = true := by rw [h61]; rfl
          have HP := Lib.hid (show spnQ patQ s.data.toList (k + 1) = j ∧ s.data.toList[j]? = some 61 ∧ spnQ patQ s.data.toList (j + 1) = spnQ patQ s.data.toList (j + 1) from
            ⟨by rw [hP.out, spn_off HJ.out (pat_no (.inl h61))], by rw [HJ.out, h61], rfl⟩)
          clear h61 hP
          go_wp2
          go_round
          case rel => exact ⟨j + 1, by omega, by omega, by go_num, .inr ⟨j, rfl, hkj, by omega, HP⟩⟩
          case measure => simp [intOf]; omega
        · have e1 : (((s[j]).toNat : Int) == 61) = false := byte_ne (n := 61) (by omega) h61
          have HX := Lib.hid h61
          cases hp : patQ s[j]
          · rw [hp] at CB
            have HN := Lib.hid (show crQ n.data.toList (s.data.toList.drop k) = .error 3 from cr_eq HK.out (by
              rw [hP.out, spn_off HJ.out hp, HJ.out]; intro h; exact HX.out (Option.some.inj h)))
            clear h61 hp hP
            by_cases h125 : s[j] = 125
            all_goals
              first
                | have e2 : (((s[j]).toNat : Int) == 125) = true := by rw [h125]; rfl
                | have e2 : (((s[j]).toNat : Int) == 125) = false := byte_ne (n := 125) (by omega) h125
              clear h125
              go_wp2_with (go_at_call 50; (with_reducible refine (CB.out _).mono ?_); rintro e w3 ⟨rfl, rfl⟩)
              go_region
              go_wp2
              refine bodyPost_ret (back_pc (a0 := .int .i64 0) (a1 := .string ⟨#[]⟩) (a2 := .string ⟨#[]⟩) (a3 := .string ⟨#[]⟩) Tryd.results39 rfl rfl rfl (set_pc B0.out _ _ _ _)) rfl ?_
              exact ⟨grown_drew (grown_pc G0.out _ _ _ _ hgs), .inr ⟨3, rfl, by decide, HN.out⟩⟩
          · rw [hp] at CB
            have h125 : s[j] ≠ 125 := fun e => by rw [pat_no (.inr e)] at hp; cases hp
            have e2 : (((s[j]).toNat : Int) == 125) = false := byte_ne (n := 125) (by omega) h125
            have HP := Lib.hid (show spnQ patQ s.data.toList (k + 1) = spnQ patQ s.data.toList (j + 1) by rw [hP.out, spn_on HJ.out hp])
            clear h61 h125 hp hP
            go_wp2_with (go_at_call 50; (with_reducible refine (CB.out _).mono ?_); rintro e w3 ⟨rfl, rfl⟩)
            go_round
            case rel => exact ⟨j + 1, by omega, by omega, by go_num, .inl ⟨rfl, HP⟩⟩
            case measure => simp [intOf]; omega
      · have em : ((m : Int) == -1) = false := by simp
        have em2 : ((m : Int) != -1) = true := by simp
        by_cases h125 : s[j] = 125
        · have e1 : (((s[j]).toNat : Int) == 61) = false := by rw [h125]; rfl
          have e2 : (((s[j]).toNat : Int) == 125) = true := by rw [h125]; rfl
          have hj1 : j ≤ s.size := by omega
          have HN := Lib.hid (show crQ n.data.toList (s.data.toList.drop k) = .ok ((⟨3, n, s.extract (k + 1) m, s.extract (m + 1) j⟩ : Pb).q, s.data.toList.drop (j + 1)) by
            rw [cr_sub (m := m) (e := j) HK.out hP.out.1 hP.out.2.1 (by rw [hP.out.2.2, spn_off HJ.out (pat_no (.inr h125))]) (by rw [HJ.out, h125])]
            unfold Pb.q; simp only [toList_cut])
          clear h125 hP
          go_wp2
          go_region
          all_goals
            go_wp2
            refine bodyPost_ret (back_pc (a0 := .int .i64 3) (a1 := .string n) (a2 := .string (s.extract (k + 1) m)) (a3 := .string (s.extract (m + 1) j)) Tryd.results39 rfl rfl rfl (set_pc B0.out _ _ _ _)) rfl ?_
            exact ⟨grown_drew (grown_pc G0.out _ _ _ _ hgs), .inl ⟨⟨3, n, s.extract (k + 1) m, s.extract (m + 1) j⟩, j + 1, rfl, by rw [HLN.out]; omega, HN.out⟩⟩
        · have e2 : (((s[j]).toNat : Int) == 125) = false := byte_ne (n := 125) (by omega) h125
          have HX := Lib.hid h125
          cases hp : patQ s[j]
          · rw [hp] at CB
            have HN := Lib.hid (show crQ n.data.toList (s.data.toList.drop k) = .error 3 from cr_shut (m := m) HK.out hP.out.1 hP.out.2.1 (by
              rw [hP.out.2.2, spn_off HJ.out hp, HJ.out]; intro h; exact HX.out (Option.some.inj h)))
            clear h125 hp hP
            by_cases h61 : s[j] = 61
            all_goals
              first
                | have e1 : (((s[j]).toNat : Int) == 61) = true := by rw [h61]; rfl
                | have e1 : (((s[j]).toNat : Int) == 61) = false := byte_ne (n := 61) (by omega) h61
              clear h61
              go_wp2_with (go_at_call 50; (with_reducible refine (CB.out _).mono ?_); rintro e w3 ⟨rfl, rfl⟩)
              go_region
              go_wp2
              refine bodyPost_ret (back_pc (a0 := .int .i64 0) (a1 := .string ⟨#[]⟩) (a2 := .string ⟨#[]⟩) (a3 := .string ⟨#[]⟩) Tryd.results39 rfl rfl rfl (set_pc B0.out _ _ _ _)) rfl ?_
              exact ⟨grown_drew (grown_pc G0.out _ _ _ _ hgs), .inr ⟨3, rfl, by decide, HN.out⟩⟩
          · rw [hp] at CB
            have h61 : s[j] ≠ 61 := fun e => by rw [pat_no (.inl e)] at hp; cases hp
            have e1 : (((s[j]).toNat : Int) == 61) = false := byte_ne (n := 61) (by omega) h61
            have HP := Lib.hid (show spnQ patQ s.data.toList (k + 1) = m ∧ s.data.toList[m]? = some 61 ∧ spnQ patQ s.data.toList (m + 1) = spnQ patQ s.data.toList (j + 1) from ⟨hP.out.1, hP.out.2.1, by rw [hP.out.2.2, spn_on HJ.out hp]⟩)
            clear h61 h125 hp hP
            go_wp2_with (go_at_call 50; (with_reducible refine (CB.out _).mono ?_); rintro e w3 ⟨rfl, rfl⟩)
            go_round
            case rel => exact ⟨j + 1, by omega, by omega, by go_num, .inr ⟨m, rfl, hkm, by omega, HP⟩⟩
            case measure => simp [intOf]; omega
    · obtain rfl : j = s.size := by omega
      have HN := Lib.hid (show crQ n.data.toList (s.data.toList.drop k) = .error 3 by
        have hz : s.data.toList[s.size]? = none := by rw [List.getElem?_eq_none_iff, HLN.out]; exact Nat.le_refl _
        rcases hph with ⟨-, hP⟩ | ⟨m, -, -, -, hP⟩
        · exact cr_eq HK.out (by rw [hP.out, spn_end (by rw [HLN.out]; exact Nat.le_refl _), hz]; simp)
        · exact cr_shut HK.out hP.out.1 hP.out.2.1 (by rw [hP.out.2.2, spn_end (by rw [HLN.out]; exact Nat.le_refl _), hz]; simp))
      clear hph
      go_wp2
      go_region
      go_wp2
      refine bodyPost_ret (back_pc (a0 := .int .i64 0) (a1 := .string ⟨#[]⟩) (a2 := .string ⟨#[]⟩) (a3 := .string ⟨#[]⟩) Tryd.results39 rfl rfl rfl (set_pc B0.out _ _ _ _)) rfl ?_
      exact ⟨grown_drew (grown_pc G0.out _ _ _ _ hgs), .inr ⟨3, rfl, by decide, HN.out⟩⟩
end Go.Proofs.YtheeeofdgpcfeaaDoor

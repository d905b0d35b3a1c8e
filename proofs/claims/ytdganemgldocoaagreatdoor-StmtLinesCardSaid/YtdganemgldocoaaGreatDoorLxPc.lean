/- Walks of package lex: which bytes may be in a name, in a Plain, in a pattern; where a name ends; whether a text is a name. Walks of package lex: the pieces with brackets: what begins at a dollar sign, what stands between a name and the bracket that closes. Walks of package lex: a quoted part. Walks of package lex: what begins at a dollar sign. Walks of package lex: what begins at a backquote. -/
import Derived.Test.YtdganemgldocoaaGreatDoorLxPlain
import Derived.Test.YtdganemgldocoaaGreatDoorLxRef
import Derived.Test.YtdganemgldocoaaGreatDoorQtBeh
import Derived.WalkSmall
import Derived.Laws.ResultCell
import Derived.Lib.IndexLaws
import Derived.Lib.IndexAny
import Derived.Lib.IndexBytes
import Derived.Lib.CutLaws
namespace Go.Proofs.YtdganemgldocoaaGreatDoor
open Go.RowKit

set_option maxRecDepth 100000 in
theorem xNameByte (b : UInt8) (w : World) : Calls Tryz.prog 126 #[.int .u8 b.toNat] w fun e w' => e = .returned (.bool (ltrQ b)) ∧ w = w' := by
  have hb : b.toNat < 256 := b.toNat_lt
  unfold ltrQ
  by_cases h0 : b = 95
  · subst h0
    go_enter Tryz.func126, Tryz.ntmps126
    go_wp2
    go_ret
    exact ⟨rfl, rfl⟩
  · have e0 : (b == 95) = false := by simpa using h0
    have e1 : ((b.toNat : Int) == 95) = false := by
      rw [beq_eq_false_iff_ne]; intro h; exact h0 (UInt8.toNat_inj.1 (by show b.toNat = 95; omega))
    rw [e0]
    by_cases a1 : 48 ≤ b.toNat <;> by_cases a2 : b.toNat ≤ 57 <;> by_cases a3 : 65 ≤ b.toNat <;> by_cases a4 : b.toNat ≤ 90 <;> by_cases a5 : 97 ≤ b.toNat <;> by_cases a6 : b.toNat ≤ 122
    all_goals first
      | omega
      | (have f1 : decide ((48 : Int) ≤ (b.toNat : Int)) = decide (48 ≤ b.toNat) := by apply decide_eq_decide.2; omega
         have f2 : decide ((b.toNat : Int) ≤ 57) = decide (b.toNat ≤ 57) := by apply decide_eq_decide.2; omega
         have f3 : decide ((65 : Int) ≤ (b.toNat : Int)) = decide (65 ≤ b.toNat) := by apply decide_eq_decide.2; omega
         have f4 : decide ((b.toNat : Int) ≤ 90) = decide (b.toNat ≤ 90) := by apply decide_eq_decide.2; omega
         have f5 : decide ((97 : Int) ≤ (b.toNat : Int)) = decide (97 ≤ b.toNat) := by apply decide_eq_decide.2; omega
         have f6 : decide ((b.toNat : Int) ≤ 122) = decide (b.toNat ≤ 122) := by apply decide_eq_decide.2; omega
         simp only [a1, a2, a3, a4, a5, a6, decide_true, decide_false] at f1 f2 f3 f4 f5 f6 ⊢
         go_enter Tryz.func126, Tryz.ntmps126
         go_wp2
         go_ret
         exact ⟨rfl, rfl⟩)

set_option maxRecDepth 100000 in
set_option maxHeartbeats 1000000 in
theorem xNameEnd (s : ByteArray) (k : Nat) (w : World) (hs : s.size ≤ 100000) (hk : k ≤ s.size) : Calls Tryz.prog 113 #[.string s, .int .i64 k] w fun e w' => e = .returned (.int .i64 (spnQ ltrQ s.data.toList k)) ∧ w = w' := by
  obtain ⟨z, hz⟩ : ∃ z, spnQ ltrQ s.data.toList k = z := ⟨_, rfl⟩
  rw [hz]
  have HZ := Lib.hid hz
  clear hz
  go_enter Tryz.func113, Tryz.ntmps113
  go_wp2
  go_loop [1] (fun i => ∃ j : Nat, j ≤ s.size ∧ i = .int .i64 j ∧ Hid (spnQ ltrQ s.data.toList j = z)) (fun i => s.size - (intOf i).toNat)
  case atStart => exact ⟨k, hk, rfl, HZ⟩
  case round =>
    obtain ⟨j, hj, rfl, hE⟩ := hrel
    by_cases hlt : j < s.size
    · have HJ := Lib.hid (list_at hlt)
      have CB := Lib.hid (fun w => xNameByte s[j] w)
      cases hb : ltrQ s[j]
      · have HN := Lib.hid (show j = z by rw [← spn_off HJ.out hb]; exact hE.out)
        rw [hb] at CB
        clear hb hE
        go_wp2_with (go_at_call 126; (with_reducible refine (CB.out _).mono ?_); rintro e w3 ⟨rfl, rfl⟩)
        go_ret
        exact ⟨ret_int (by rw [HN.out]), rfl⟩
      · have HN := Lib.hid (show spnQ ltrQ s.data.toList (j + 1) = z by rw [← spn_on HJ.out hb]; exact hE.out)
        rw [hb] at CB
        clear hb hE
        go_wp2_with (go_at_call 126; (with_reducible refine (CB.out _).mono ?_); rintro e w3 ⟨rfl, rfl⟩)
        go_round
        case rel => exact ⟨j + 1, by omega, by go_num, HN⟩
        case measure => simp [intOf]; omega
    · have HN := Lib.hid (show j = z by rw [← spn_end (p := ltrQ) (l := s.data.toList) (k := j) (by simp; omega)]; exact hE.out)
      go_wp2
      go_ret
      exact ⟨ret_int (by rw [HN.out]), rfl⟩

theorem spn_full {p : UInt8 → Bool} {l : List UInt8} : (spnQ p l 0 == l.length) = l.all p := by
  unfold spnQ
  rw [List.drop_zero, Nat.zero_add]
  induction l with
  | nil => rfl
  | cons a l ih =>
    by_cases ha : p a = true
    · rw [List.takeWhile_cons_of_pos ha, List.all_cons, ha, Bool.true_and, ← ih]
      simp only [List.length_cons]
      rw [Bool.eq_iff_iff]; simp
    · rw [List.takeWhile_cons_of_neg ha, List.all_cons]
      simp [ha]
set_option maxRecDepth 100000 in
set_option maxHeartbeats 1000000 in
theorem xName (s : ByteArray) (w : World) (hs : s.size ≤ 100000) : Calls Tryz.prog 95 #[.string s] w fun e w' => e = .returned (.bool (namQ s.data.toList)) ∧ w = w' := by
  have hlen : s.data.toList.length = s.size := by simp
  have CE := Lib.hid (show ∀ w, Calls Tryz.prog 113 #[.string s, .int .i64 0] w fun e w' => e = .returned (.int .i64 (spnQ ltrQ s.data.toList 0)) ∧ w = w' from fun w => xNameEnd s 0 w hs (Nat.zero_le _))
  by_cases h0 : s.size = 0
  · have HZ := Lib.hid (show namQ s.data.toList = false by
      unfold namQ; rw [List.eq_nil_of_length_eq_zero (hlen.trans h0)]; rfl)
    have e0 : s.toList.isEmpty = true := by rw [Lib.toList_data, List.eq_nil_of_length_eq_zero (hlen.trans h0)]; rfl
    rw [HZ.out]
    clear hlen h0
    go_enter Tryz.func95, Tryz.ntmps95
    go_wp2
    go_ret
    exact ⟨rfl, rfl⟩
  · have hne : s.data.toList.isEmpty = false := by
      cases hc : s.data.toList with
      | nil => rw [hc] at hlen; simp at hlen; omega
      | cons a r => rfl
    have e0 : s.toList.isEmpty = false := by rw [Lib.toList_data]; exact hne
    have e0' : ¬s.toList = [] := by intro e; rw [e] at e0; cases e0
    by_cases h12 : s.size ≤ 12
    · obtain ⟨z, hz⟩ : ∃ z, spnQ ltrQ s.data.toList 0 = z := ⟨_, rfl⟩
      have HZ := Lib.hid (show namQ s.data.toList = (z == s.size) by
        unfold namQ
        rw [hne, hlen, decide_eq_true h12, ← spn_full, hz, hlen]; rfl)
      rw [hz] at CE
      have hz2 : z ≤ s.size := by
        rw [← hz, ← hlen]; exact (spn_le (Nat.zero_le _)).2
      have d1 : decide ((s.size : Int) ≤ 12) = true := by simp; omega
      rw [HZ.out]
      have HE := Lib.hid (show ((z : Int) == (s.size : Int)) = (z == s.size) by rw [Bool.eq_iff_iff]; simp; omega)
      clear hlen hne hz h12 h0
      go_enter Tryz.func95, Tryz.ntmps95
      go_wp2_with (go_at_call 113; (with_reducible refine (CE.out _).mono ?_); rintro e w3 ⟨rfl, rfl⟩)
      go_ret
      exact ⟨ret_bool HE.out, rfl⟩
    · have HZ := Lib.hid (show namQ s.data.toList = false by
        unfold namQ; rw [hlen, decide_eq_false h12]; simp)
      have d1 : decide ((s.size : Int) ≤ 12) = false := by simp; omega
      rw [HZ.out]
      clear hlen hne h12 h0
      go_enter Tryz.func95, Tryz.ntmps95
      go_wp2
      go_ret
      exact ⟨rfl, rfl⟩

set_option maxRecDepth 100000 in
theorem xPlainByte (b : UInt8) (w : World) : Calls Tryz.prog 91 #[.int .u8 b.toNat] w fun e w' => e = .returned (.bool (plcQ b)) ∧ w = w' := by
  have CB := Lib.hid (fun w => pBlank0 b w)
  have key : ∀ c : UInt8, ((b.toNat : Int) != (c.toNat : Int)) = !(b == c) := fun c => by
    rw [Bool.eq_iff_iff]
    simp only [bne_iff_ne, ne_eq, Bool.not_eq_true', beq_eq_false_iff_ne]
    constructor
    · intro h e; exact h (by rw [e])
    · intro h e; exact h (UInt8.toNat_inj.1 (by omega))
  have k1 : ((b.toNat : Int) != 39) = !(b == 39) := key 39
  have k2 : ((b.toNat : Int) != 36) = !(b == 36) := key 36
  have k3 : ((b.toNat : Int) != 96) = !(b == 96) := key 96
  clear key
  unfold plcQ
  generalize (b == 39) = z1 at k1 ⊢
  generalize (b == 36) = z2 at k2 ⊢
  generalize (b == 96) = z3 at k3 ⊢
  cases hb : blkQ b <;> cases z1 <;> cases z2 <;> cases z3
  all_goals
    rw [hb] at CB
    clear hb
    simp only [Bool.not_true, Bool.not_false] at k1 k2 k3
    go_enter Tryz.func91, Tryz.ntmps91
    go_wp2_with (go_at_call 90; (with_reducible refine (CB.out _).mono ?_); rintro e w3 ⟨rfl, rfl⟩)
    go_ret
    exact ⟨rfl, rfl⟩
end Go.Proofs.YtdganemgldocoaaGreatDoor

namespace Go.Proofs.YtdganemgldocoaaGreatDoor
open Go.RowKit

/-- what the library's and the small functions answer, as the walks of pieces are told of it -/
structure LbX (M : World → Prop) : Prop where
  gr : ∀ w w' : World, M w → w.grownBy w' none → M w'
  pat : ∀ (b : UInt8) (w : World), Calls Tryz.prog 131 #[.int .u8 b.toNat] w fun e w' => e = .returned (.bool (patQ b)) ∧ w = w'
  pre : ∀ (s p : ByteArray) (w : World), Calls Tryz.prog 123 #[.string s, .string p] w fun e w' => e = .returned (.bool (Lib.hasPrefix s.data.toList p.data.toList)) ∧ w = w'
  cutp : ∀ (s p : ByteArray) (w : World), Calls Tryz.prog 65 #[.string s, .string p] w fun e w' => e = .returned (.tuple #[.string ⟨(Lib.trimPrefix s.data.toList p.data.toList).toArray⟩, .bool (Lib.hasPrefix s.data.toList p.data.toList)]) ∧ w = w'
  cut : ∀ (s p : ByteArray) (w : World), M w → s.size ≤ 100000 → Calls Tryz.prog 114 #[.string s, .string p] w fun e w' => e = .returned (.tuple #[.string ⟨(Lib.cut s.data.toList p.data.toList).1.toArray⟩, .string ⟨(Lib.cut s.data.toList p.data.toList).2.1.toArray⟩, .bool (Lib.cut s.data.toList p.data.toList).2.2]) ∧ ∃ n, w' = w.drewN n
  has : ∀ (s : ByteArray) (c : UInt8) (w : World), Calls Tryz.prog 125 #[.string s, .string ⟨#[c]⟩] w fun e w' => e = .returned (.bool (decide (0 ≤ Lib.indexByte s.data.toList c))) ∧ w = w'
  undo : ∀ (s : ByteArray) (w : World), M w → s.size ≤ 100000 → Calls Tryz.prog 122 #[.string s, .string ⟨#[39, 39]⟩, .string ⟨#[39]⟩] w fun e w' => e = .returned (.string ⟨(unQ s.data.toList).toArray⟩) ∧ w.grownBy w' none
  twice : ∀ (s : ByteArray) (w : World), M w → s.size ≤ 100000 → Calls Tryz.prog 122 #[.string s, .string ⟨#[39]⟩, .string ⟨#[39, 39]⟩] w fun e w' => e = .returned (.string ⟨(twoQ s.data.toList).toArray⟩) ∧ w.grownBy w' none

theorem pre_at {s : ByteArray} {k : Nat} {c : UInt8} : Lib.hasPrefix (s.extract k s.size).data.toList [c] = decide (s.data.toList[k]? = some c) := by
  have e : (s.extract k s.size).data.toList = s.data.toList.drop k := by
    rw [toList_cut, List.take_of_length_le (by simp)]
  rw [e]
  unfold Lib.hasPrefix
  cases h : s.data.toList[k]? with
  | none => rw [List.drop_of_length_le (List.getElem?_eq_none_iff.1 h)]; rfl
  | some b =>
    rw [drop_at h]
    by_cases hb : c = b
    · subst hb; simp [List.isPrefixOf]
    · have hb2 : ¬b = c := fun x => hb x.symm
      simp [List.isPrefixOf, hb, hb2]
abbrev pcA (x : Pb) : Value := .agg #[.int .i64 x.k, .string x.t, .string x.f, .string x.o]
theorem sizePc : (Tryz.prog.info? 105).map (·.size) = some 4 := by kernel_rfl
theorem set_pc {w : World} {b : Nat} {a0 a1 a2 a3 : Value} {t : TypeId} (h : w.heap[b]? = some (.cells #[a0, a1, a2, a3] t (0, 0))) (v0 v1 v2 v3 : Value) :
    ((((w.setCell ⟨b, 0, none⟩ v0).setCell ⟨b, 1, none⟩ v1).setCell ⟨b, 2, none⟩ v2).setCell ⟨b, 3, none⟩ v3).heap[b]? = some (.cells #[v0, v1, v2, v3] t (0, 0)) :=
  heap_setCell_same _ b 3 _ _ v3 (heap_setCell_same _ b 2 _ _ v2 (heap_setCell_same _ b 1 _ _ v1 (heap_setCell_same _ b 0 _ _ v0 h)))
theorem free_pc {w : World} {b : Nat} {c : Array Value} {t : TypeId} (h : w.heap[b]? = some (.cells c t (0, 0))) (i : Nat) : w.frozen? ⟨b, i, none⟩ = false := frozen_of_row w b i c t h
theorem grown_pc {w w1 : World} (h : w.grownBy w1 none) {b : Nat} (v0 v1 v2 v3 : Value) (hb : w.heap.size ≤ b) :
    w.grownBy ((((w1.setCell ⟨b, 0, none⟩ v0).setCell ⟨b, 1, none⟩ v1).setCell ⟨b, 2, none⟩ v2).setCell ⟨b, 3, none⟩ v3) none :=
  grown_of_below (((((below_of_grown h).setCell hb v0).setCell hb v1).setCell hb v2).setCell hb v3)
theorem back_pc {fn : Func} {p q r : Tmp} {w : World} {g : Nat} {a0 a1 a2 a3 u v : Value} {tmps : Array Value} (hf : fn.results = #[.cell p 105, .tmp q, .tmp r])
    (hp : tmps.getD p undef = .pointer (some ⟨g, 0, none⟩)) (hq : tmps.getD q undef = u) (hr : tmps.getD r undef = v) (hg : w.heap[g]? = some (.cells #[a0, a1, a2, a3] 105 (0, 0))) :
    (results fn tmps).run Tryz.prog w = .ok (.tuple #[.agg #[a0, a1, a2, a3], u, v]) w := by
  have hp' : tmps[p]?.getD undef = .pointer (some ⟨g, 0, none⟩) := by simpa using hp
  have hq' : tmps[q]?.getD undef = u := by simpa using hq
  have hr' : tmps[r]?.getD undef = v := by simpa using hr
  have hl := run_loadVar_row (P := Tryz.prog) w g 105 105 _ (0, 0) _ hg Tryz.underlying105 rfl sizePc
  simp [results, hf, hp', hq', hr', asAddr, hl]
abbrev zPc : Value := .agg #[.int .i64 0, .string ⟨#[]⟩, .string ⟨#[]⟩, .string ⟨#[]⟩]
/-- a piece and where it ends, or an error -/
def PPc (R : Except Nat (Pq × List UInt8)) (l : List UInt8) (A : Nat → Addr) (w : World) (e : Ending) (w' : World) : Prop :=
  w.grownBy w' none ∧
  ((∃ (x : Pb) (q : Nat), e = .returned (.tuple #[pcA x, .int .i64 q, .nilIface]) ∧ q ≤ l.length ∧ R = .ok (x.q, l.drop q)) ∨
   (∃ bad : Nat, e = .returned (.tuple #[zPc, .int .i64 0, .iface 202 (.pointer (some (A bad)))]) ∧ bad ≠ 0 ∧ R = .error bad))
theorem pat_no {b : UInt8} (h : b = 61 ∨ b = 125) : patQ b = false := by rcases h with rfl | rfl <;> decide
theorem byte_ne {b : UInt8} {n : Nat} (hn : n < 256) (h : b ≠ UInt8.ofNat n) : ((b.toNat : Int) == (n : Int)) = false := by
  rw [beq_eq_false_iff_ne]; intro e; apply h; apply UInt8.toNat_inj.1; rw [UInt8.toNat_ofNat']; omega

set_option maxRecDepth 100000 in
set_option maxHeartbeats 4000000 in
theorem xSubstAt {M : World → Prop} (L : LbX M) (A : Nat → Addr) (s n : ByteArray) (k : Nat) (w : World) (hs : s.size ≤ 5000) (hk : s.data.toList[k]? = some 58)
    (hE : w.cell? ⟨1, 0, none⟩ = some (.iface 202 (.pointer (some (A 3))))) :
    Calls Tryz.prog 124 #[.string s, .int .i64 ((k : Int) + 1), .string n] w (PPc (crQ n.data.toList (s.data.toList.drop k)) s.data.toList A w) := by
  have hlen : s.data.toList.length = s.size := by simp
  have hks : k < s.size := by have := (List.getElem?_eq_some_iff.1 hk).1; omega
  have HLN := Lib.hid hlen; have HK := Lib.hid hk; have HE := Lib.hid hE
  have LP := Lib.hid (fun b w => L.pat b w)
  have B0 := Lib.hid (heap_alloc_new w (.cells #[.int .i64 0, .string ⟨#[]⟩, .string ⟨#[]⟩, .string ⟨#[]⟩] 105))
  have G0 := Lib.hid (World.grownBy_alloc w (.cells #[.int .i64 0, .string ⟨#[]⟩, .string ⟨#[]⟩, .string ⟨#[]⟩] 105) none)
  have hgr : 1 < w.heap.size := cell_block hE
  clear hlen hk hE
  go_enter Tryz.func124, Tryz.ntmps124
  go_wp2
  go_step3
  go_upto_region 1 with fail
  generalize w.alloc _ = w1 at B0 G0 ⊢
  obtain ⟨g, eg⟩ : ∃ g, w.heap.size = g := ⟨_, rfl⟩
  rw [eg] at B0 hgr ⊢
  have hgs : w.heap.size ≤ g := by omega
  obtain ⟨c0, c1, c2, c3⟩ := four_px B0.out
  have fr := free_pc B0.out
  have H2 : w1.cell? ⟨1, 0, none⟩ = some (.iface 202 (.pointer (some (A 3)))) := G0.out.cell HE.out (by simp)
  have hgr2 : ¬g = 1 := by omega
  have hgr3 : ¬1 = g := by omega
  clear eg
  go_wp2
  go_step3
  go_wp2
  go_loop [9, 10] (fun mid i => ∃ j : Nat, k + 1 ≤ j ∧ j ≤ s.size ∧ i = .int .i64 j ∧ ((mid = .int .i64 (-1) ∧ Hid (spnQ patQ s.data.toList (k + 1) = spnQ patQ s.data.toList j)) ∨ ∃ m : Nat, mid = .int .i64 m ∧ k + 1 ≤ m ∧ m < j ∧ Hid (spnQ patQ s.data.toList (k + 1) = m ∧ s.data.toList[m]? = some 61 ∧ spnQ patQ s.data.toList (m + 1) = spnQ patQ s.data.toList j))) (fun _ i => s.size - (intOf i).toNat)
  case atStart => exact ⟨k + 1, Nat.le_refl _, hks, by go_num, .inl ⟨rfl, Lib.hid rfl⟩⟩
  case round =>
    obtain ⟨j, hkj, hj, rfl, hph⟩ := hrel
    by_cases hlt : j < s.size
    · have HJ := Lib.hid (list_at hlt)
      have CB := Lib.hid (fun w => LP.out s[j] w)
      rcases hph with ⟨rfl, hP⟩ | ⟨m, rfl, hkm, hmj, hP⟩
      · by_cases h61 : s[j] = 61
        · have e1 : (((s[j]).toNat : Int) == 61) = true := by rw [h61]; rfl
          have HP := Lib.hid (show spnQ patQ s.data.toList (k + 1) = j ∧ s.data.toList[j]? = some 61 ∧ spnQ patQ s.data.toList (j + 1) = spnQ patQ s.data.toList (j + 1) from
            ⟨by rw [hP.out, spn_off HJ.out (pat_no (.inl h61))], by rw [HJ.out, h61], rfl⟩)
          clear h61 hP
          go_wp2
          go_round
          case rel => exact ⟨j + 1, by omega, by omega, by go_num, .inr ⟨j, rfl, hkj, by omega, HP⟩⟩
          case measure => simp [intOf]; omega
        · have e1 : (((s[j]).toNat : Int) == 61) = false := byte_ne (n := 61) (by omega) h61
          have HX := Lib.hid h61
          cases hp : patQ s[j]
          · rw [hp] at CB
            have HN := Lib.hid (show crQ n.data.toList (s.data.toList.drop k) = .error 3 from cr_eq HK.out (by
              rw [hP.out, spn_off HJ.out hp, HJ.out]; intro h; exact HX.out (Option.some.inj h)))
            clear h61 hp hP
            by_cases h125 : s[j] = 125
            all_goals
              first
                | have e2 : (((s[j]).toNat : Int) == 125) = true := by rw [h125]; rfl
                | have e2 : (((s[j]).toNat : Int) == 125) = false := byte_ne (n := 125) (by omega) h125
              clear h125
              go_wp2_with (go_at_call 131; (with_reducible refine (CB.out _).mono ?_); rintro e w3 ⟨rfl, rfl⟩)
              go_region
              go_wp2
              refine bodyPost_ret (back_pc (a0 := .int .i64 0) (a1 := .string ⟨#[]⟩) (a2 := .string ⟨#[]⟩) (a3 := .string ⟨#[]⟩) Tryz.results124 rfl rfl rfl (set_pc B0.out _ _ _ _)) rfl ?_
              exact ⟨grown_drew (grown_pc G0.out _ _ _ _ hgs), .inr ⟨3, rfl, by decide, HN.out⟩⟩
          · rw [hp] at CB
            have h125 : s[j] ≠ 125 := fun e => by rw [pat_no (.inr e)] at hp; cases hp
            have e2 : (((s[j]).toNat : Int) == 125) = false := byte_ne (n := 125) (by omega) h125
            have HP := Lib.hid (show spnQ patQ s.data.toList (k + 1) = spnQ patQ s.data.toList (j + 1) by rw [hP.out, spn_on HJ.out hp])
            clear h61 h125 hp hP
            go_wp2_with (go_at_call 131; (with_reducible refine (CB.out _).mono ?_); rintro e w3 ⟨rfl, rfl⟩)
            go_round
            case rel => exact ⟨j + 1, by omega, by omega, by go_num, .inl ⟨rfl, HP⟩⟩
            case measure => simp [intOf]; omega
      · have em : ((m : Int) == -1) = false := by simp
        have em2 : ((m : Int) != -1) = true := by simp
        by_cases h125 : s[j] = 125
        · have e1 : (((s[j]).toNat : Int) == 61) = false := by rw [h125]; rfl
          have e2 : (((s[j]).toNat : Int) == 125) = true := by rw [h125]; rfl
          have hj1 : j ≤ s.size := by omega
          have HN := Lib.hid (show crQ n.data.toList (s.data.toList.drop k) = .ok ((⟨3, n, s.extract (k + 1) m, s.extract (m + 1) j⟩ : Pb).q, s.data.toList.drop (j + 1)) by
            rw [cr_sub (m := m) (e := j) HK.out hP.out.1 hP.out.2.1 (by rw [hP.out.2.2, spn_off HJ.out (pat_no (.inr h125))]) (by rw [HJ.out, h125])]
            unfold Pb.q; simp only [toList_cut])
          clear h125 hP
          go_wp2
          go_region
          all_goals
            go_wp2
            refine bodyPost_ret (back_pc (a0 := .int .i64 3) (a1 := .string n) (a2 := .string (s.extract (k + 1) m)) (a3 := .string (s.extract (m + 1) j)) Tryz.results124 rfl rfl rfl (set_pc B0.out _ _ _ _)) rfl ?_
            exact ⟨grown_drew (grown_pc G0.out _ _ _ _ hgs), .inl ⟨⟨3, n, s.extract (k + 1) m, s.extract (m + 1) j⟩, j + 1, rfl, by rw [HLN.out]; omega, HN.out⟩⟩
        · have e2 : (((s[j]).toNat : Int) == 125) = false := byte_ne (n := 125) (by omega) h125
          have HX := Lib.hid h125
          cases hp : patQ s[j]
          · rw [hp] at CB
            have HN := Lib.hid (show crQ n.data.toList (s.data.toList.drop k) = .error 3 from cr_shut (m := m) HK.out hP.out.1 hP.out.2.1 (by
              rw [hP.out.2.2, spn_off HJ.out hp, HJ.out]; intro h; exact HX.out (Option.some.inj h)))
            clear h125 hp hP
            by_cases h61 : s[j] = 61
            all_goals
              first
                | have e1 : (((s[j]).toNat : Int) == 61) = true := by rw [h61]; rfl
                | have e1 : (((s[j]).toNat : Int) == 61) = false := byte_ne (n := 61) (by omega) h61
              clear h61
              go_wp2_with (go_at_call 131; (with_reducible refine (CB.out _).mono ?_); rintro e w3 ⟨rfl, rfl⟩)
              go_region
              go_wp2
              refine bodyPost_ret (back_pc (a0 := .int .i64 0) (a1 := .string ⟨#[]⟩) (a2 := .string ⟨#[]⟩) (a3 := .string ⟨#[]⟩) Tryz.results124 rfl rfl rfl (set_pc B0.out _ _ _ _)) rfl ?_
              exact ⟨grown_drew (grown_pc G0.out _ _ _ _ hgs), .inr ⟨3, rfl, by decide, HN.out⟩⟩
          · rw [hp] at CB
            have h61 : s[j] ≠ 61 := fun e => by rw [pat_no (.inl e)] at hp; cases hp
            have e1 : (((s[j]).toNat : Int) == 61) = false := byte_ne (n := 61) (by omega) h61
            have HP := Lib.hid (show spnQ patQ s.data.toList (k + 1) = m ∧ s.data.toList[m]? = some 61 ∧ spnQ patQ s.data.toList (m + 1) = spnQ patQ s.data.toList (j + 1) from ⟨hP.out.1, hP.out.2.1, by rw [hP.out.2.2, spn_on HJ.out hp]⟩)
            clear h61 h125 hp hP
            go_wp2_with (go_at_call 131; (with_reducible refine (CB.out _).mono ?_); rintro e w3 ⟨rfl, rfl⟩)
            go_round
            case rel => exact ⟨j + 1, by omega, by omega, by go_num, .inr ⟨m, rfl, hkm, by omega, HP⟩⟩
            case measure => simp [intOf]; omega
    · obtain rfl : j = s.size := by omega
      have HN := Lib.hid (show crQ n.data.toList (s.data.toList.drop k) = .error 3 by
        have hz : s.data.toList[s.size]? = none := by rw [List.getElem?_eq_none_iff, HLN.out]; exact Nat.le_refl _
        rcases hph with ⟨-, hP⟩ | ⟨m, -, -, -, hP⟩
        · exact cr_eq HK.out (by rw [hP.out, spn_end (by rw [HLN.out]; exact Nat.le_refl _), hz]; simp)
        · exact cr_shut HK.out hP.out.1 hP.out.2.1 (by rw [hP.out.2.2, spn_end (by rw [HLN.out]; exact Nat.le_refl _), hz]; simp))
      clear hph
      go_wp2
      go_region
      go_wp2
      refine bodyPost_ret (back_pc (a0 := .int .i64 0) (a1 := .string ⟨#[]⟩) (a2 := .string ⟨#[]⟩) (a3 := .string ⟨#[]⟩) Tryz.results124 rfl rfl rfl (set_pc B0.out _ _ _ _)) rfl ?_
      exact ⟨grown_drew (grown_pc G0.out _ _ _ _ hgs), .inr ⟨3, rfl, by decide, HN.out⟩⟩
end Go.Proofs.YtdganemgldocoaaGreatDoor

namespace Go.Proofs.YtdganemgldocoaaGreatDoor
open Go.RowKit

theorem un_text (l : List UInt8) : ∃ t : ByteArray, (⟨l.toArray⟩ : ByteArray) = t ∧ t.data.toList = l ∧ t.size = l.length := ⟨_, rfl, by simp, by simp [ByteArray.size]⟩
set_option maxRecDepth 100000 in
set_option maxHeartbeats 8000000 in
theorem xQuotedAt {M : World → Prop} (L : LbX M) (A : Nat → Addr) (s : ByteArray) (k : Nat) (w : World) (hM : M w) (hs : s.size ≤ 5000) (hk : s.data.toList[k]? = some 39)
    (hQ : w.cell? ⟨5, 0, none⟩ = some (.iface 202 (.pointer (some (A 5))))) :
    Calls Tryz.prog 109 #[.string s, .int .i64 k] w (PPc (onA s.data.toList k) s.data.toList A w) := by
  have HM := Lib.hid hM
  have CE := Lib.hid (fun w => pEnd0 s k w hs)
  have HV := Lib.hid (endAt_val hk)
  clear hM
  have hlen : s.data.toList.length = s.size := by simp
  have hks : k < s.size := by have := (List.getElem?_eq_some_iff.1 hk).1; omega
  have HLN := Lib.hid hlen; have HK := Lib.hid hk
  have B0 := Lib.hid (heap_alloc_new w (.cells #[.int .i64 0, .string ⟨#[]⟩, .string ⟨#[]⟩, .string ⟨#[]⟩] 105))
  have G0 := Lib.hid (World.grownBy_alloc w (.cells #[.int .i64 0, .string ⟨#[]⟩, .string ⟨#[]⟩, .string ⟨#[]⟩] 105) none)
  have hQ1 := Lib.hid hQ; have hrhQ : 5 < w.heap.size := cell_block hQ
  clear hlen hk hQ
  go_enter Tryz.func109, Tryz.ntmps109
  go_upto_region 1 with fail
  generalize w.alloc _ = w1 at B0 G0 ⊢
  obtain ⟨g, eg⟩ : ∃ g, w.heap.size = g := ⟨_, rfl⟩
  rw [eg] at B0 hrhQ ⊢
  have hgs : w.heap.size ≤ g := by omega
  obtain ⟨c0, c1, c2, c3⟩ := four_px B0.out
  have fr := free_pc B0.out
  have hQ2 : w1.cell? ⟨5, 0, none⟩ = some (.iface 202 (.pointer (some (A 5)))) := G0.out.cell hQ1.out (by simp)
  have hQ3 : ¬g = 5 := by omega
  have hQ4 : ¬5 = g := by omega
  clear eg
  rcases HV.out with ⟨he, hv⟩ | ⟨f, he, hv, hf1, hf2⟩
  · rw [hv] at CE
    have HN := Lib.hid (show onA s.data.toList k = .error 5 from on_qt_no HK.out he)
    clear he hv HV
    go_wp2_with (go_at_call 80; (with_reducible refine (CE.out _).mono ?_); rintro e w4 ⟨rfl, rfl⟩)
    go_region
    go_wp2
    refine bodyPost_ret (back_pc (a0 := .int .i64 0) (a1 := .string ⟨#[]⟩) (a2 := .string ⟨#[]⟩) (a3 := .string ⟨#[]⟩) Tryz.results109 rfl rfl rfl (set_pc B0.out _ _ _ _)) rfl ?_
    exact ⟨grown_drew (grown_pc G0.out _ _ _ _ hgs), .inr ⟨5, rfl, by decide, HN.out⟩⟩
  · rw [hv] at CE
    rw [HLN.out] at hf2
    obtain ⟨x, hx⟩ : ∃ x, s.extract (k + 1) f = x := ⟨_, rfl⟩
    have hxz : x.size ≤ 100000 := by rw [← hx]; simp; omega
    obtain ⟨t, ht, hl, -⟩ := un_text (unQ x.data.toList)
    have HN := Lib.hid (show onA s.data.toList k = .ok ((⟨1, t, ⟨#[]⟩, ⟨#[]⟩⟩ : Pb).q, s.data.toList.drop (f + 1)) by
      rw [on_qt HK.out he, Nat.add_sub_cancel, ← toList_cut, hx]; unfold Pb.q; rw [hl])
    have CR := Lib.hid (show Calls Tryz.prog 122 #[.string x, .string ⟨#[39, 39]⟩, .string ⟨#[39]⟩] w1 fun e w' => e = .returned (.string t) ∧ w1.grownBy w' none by
      have := L.undo x w1 (L.gr _ _ HM.out G0.out) hxz; rwa [ht] at this)
    have HX := Lib.hid hx
    have hne : ((f : Int) + 1 == -1) = false := by rw [beq_eq_false_iff_ne]; omega
    clear he hv HV hx hxz ht hl
    go_wp2_with (go_at_call 80; (with_reducible refine (CE.out _).mono ?_); rintro e w4 ⟨rfl, rfl⟩)
    go_wp2_with (go_at_call 122; fail)
    rw [HX.out]
    refine CR.out.mono ?_
    rintro e w8 ⟨rfl, g8⟩
    have B8 := Lib.hid (heap_grown g8 B0.out)
    have G8 := Lib.hid (G0.out.trans g8)
    clear c0 c1 c2 c3 fr CR g8
    obtain ⟨c0, c1, c2, c3⟩ := four_px B8.out
    have fr := free_pc B8.out
    go_wp2
    refine bodyPost_ret (back_pc (a0 := .int .i64 1) (a1 := .string t) (a2 := .string ⟨#[]⟩) (a3 := .string ⟨#[]⟩) Tryz.results109 rfl rfl rfl (set_pc B8.out _ _ _ _)) rfl ?_
    exact ⟨grown_pc G8.out _ _ _ _ hgs, .inl ⟨⟨1, t, ⟨#[]⟩, ⟨#[]⟩⟩, f + 1, rfl, by rw [HLN.out]; omega, HN.out⟩⟩
end Go.Proofs.YtdganemgldocoaaGreatDoor

namespace Go.Proofs.YtdganemgldocoaaGreatDoor
open Go.RowKit

theorem nam_cut {s : ByteArray} {k z : Nat} : (s.extract k z).data.toList = (s.data.toList.take z).drop k := toList_cut k z
set_option maxRecDepth 100000 in
set_option maxHeartbeats 8000000 in
theorem xVarAt {M : World → Prop} (L : LbX M) (A : Nat → Addr) (s : ByteArray) (k : Nat) (w : World) (hs : s.size ≤ 5000) (hk : s.data.toList[k]? = some 36)
    (hN : w.cell? ⟨4, 0, none⟩ = some (.iface 202 (.pointer (some (A 4)))))
    (hF : w.cell? ⟨1, 0, none⟩ = some (.iface 202 (.pointer (some (A 3))))) :
    Calls Tryz.prog 110 #[.string s, .int .i64 k] w (PPc (onA s.data.toList k) s.data.toList A w) := by
  have HO := Lib.hid (on_dl hk)
  have CP := Lib.hid (show ∀ (j : Nat) (c : UInt8) (w : World), Calls Tryz.prog 123 #[.string (s.extract j s.size), .string ⟨#[c]⟩] w fun e w' => e = .returned (.bool (decide (s.data.toList[j]? = some c))) ∧ w = w' from fun j c w => (L.pre _ _ w).mono fun e w' ⟨h1, h2⟩ => ⟨by rw [h1, ← pre_at], h2⟩)
  have CE := Lib.hid (fun j w (h : j ≤ s.size) => xNameEnd s j w (by omega) h)
  have HLE := Lib.hid (fun (j : Nat) (h : j ≤ s.size) => show j ≤ spnQ ltrQ s.data.toList j ∧ spnQ ltrQ s.data.toList j ≤ s.size from by have := spn_le (p := ltrQ) (l := s.data.toList) (k := j) (by simp; exact h); simpa using this)
  have hlen : s.data.toList.length = s.size := by simp
  have hks : k < s.size := by have := (List.getElem?_eq_some_iff.1 hk).1; omega
  have HLN := Lib.hid hlen; have HK := Lib.hid hk
  have B0 := Lib.hid (heap_alloc_new w (.cells #[.int .i64 0, .string ⟨#[]⟩, .string ⟨#[]⟩, .string ⟨#[]⟩] 105))
  have G0 := Lib.hid (World.grownBy_alloc w (.cells #[.int .i64 0, .string ⟨#[]⟩, .string ⟨#[]⟩, .string ⟨#[]⟩] 105) none)
  have hN1 := Lib.hid hN; have hrhN : 4 < w.heap.size := cell_block hN
  have hF1 := Lib.hid hF; have hrhF : 1 < w.heap.size := cell_block hF
  clear hlen hk hN hF
  go_enter Tryz.func110, Tryz.ntmps110
  go_upto_region 1 with fail
  generalize w.alloc _ = w1 at B0 G0 ⊢
  obtain ⟨g, eg⟩ : ∃ g, w.heap.size = g := ⟨_, rfl⟩
  rw [eg] at B0 hrhN hrhF ⊢
  have hgs : w.heap.size ≤ g := by omega
  obtain ⟨c0, c1, c2, c3⟩ := four_px B0.out
  have fr := free_pc B0.out
  have hN2 : w1.cell? ⟨4, 0, none⟩ = some (.iface 202 (.pointer (some (A 4)))) := G0.out.cell hN1.out (by simp)
  have hN3 : ¬g = 4 := by omega
  have hN4 : ¬4 = g := by omega
  have hF2 : w1.cell? ⟨1, 0, none⟩ = some (.iface 202 (.pointer (some (A 3)))) := G0.out.cell hF1.out (by simp)
  have hF3 : ¬g = 1 := by omega
  have hF4 : ¬1 = g := by omega
  clear eg
  have CN := Lib.hid (fun x w (h : x.size ≤ 100000) => xName x w h)
  by_cases hbr : s.data.toList[k + 1]? = some 123
  · have hk2 : k + 2 ≤ s.size := by have := (List.getElem?_eq_some_iff.1 hbr).1; have := HLN.out; omega
    have CP1 := Lib.hid (show ∀ w, Calls Tryz.prog 123 #[.string (s.extract (k + 1) s.size), .string ⟨#[123]⟩] w fun e w' => e = .returned (.bool true) ∧ w = w' from fun w => by
      have := CP.out (k + 1) 123 w; rwa [decide_eq_true hbr] at this)
    obtain ⟨z, hz⟩ : ∃ z, spnQ ltrQ s.data.toList (k + 2) = z := ⟨_, rfl⟩
    have hzl := HLE.out (k + 2) hk2
    have CE1 := Lib.hid (show ∀ w, Calls Tryz.prog 113 #[.string s, .int .i64 ((k : Int) + 1 + 1)] w fun e w' => e = .returned (.int .i64 z) ∧ w = w' from fun w => by
      have := CE.out (k + 2) w hk2; rwa [hz] at this)
    rw [hz] at hzl
    obtain ⟨hz1, hz2⟩ := hzl
    obtain ⟨x, hx⟩ : ∃ x, s.extract (k + 2) z = x := ⟨_, rfl⟩
    have hxz : x.size ≤ 100000 := by rw [← hx]; simp; omega
    have HR := Lib.hid (show onA s.data.toList k = if namQ x.data.toList then crQ x.data.toList (s.data.toList.drop z) else .error 4 by
      rw [HO.out, dl_curly hbr, hz, ← hx, toList_cut])
    have HX := Lib.hid hx
    have CX := Lib.hid (fun w => CN.out x w hxz)
    clear hbr hz hx hxz CN CE HLE
    cases hn : namQ x.data.toList
    · have HN := Lib.hid (show onA s.data.toList k = .error 4 by rw [HR.out, hn]; rfl)
      rw [hn] at CX
      clear hn
      go_wp2_with (first
        | (go_at_call 123; (with_reducible refine (CP1.out _).mono ?_); rintro e w3 ⟨rfl, rfl⟩)
        | (go_at_call 113; (with_reducible refine (CE1.out _).mono ?_); rintro e w4 ⟨rfl, rfl⟩)
        | (go_at_call 95; rw [HX.out]; (with_reducible refine (CX.out _).mono ?_); rintro e w5 ⟨rfl, rfl⟩))
      go_region
      go_wp2
      refine bodyPost_ret (back_pc (a0 := .int .i64 0) (a1 := .string ⟨#[]⟩) (a2 := .string ⟨#[]⟩) (a3 := .string ⟨#[]⟩) Tryz.results110 rfl rfl rfl (set_pc B0.out _ _ _ _)) rfl ?_
      exact ⟨grown_drew (grown_pc G0.out _ _ _ _ hgs), .inr ⟨4, rfl, by decide, HN.out⟩⟩
    · rw [hn] at CX
      have HR2 := Lib.hid (show onA s.data.toList k = crQ x.data.toList (s.data.toList.drop z) by rw [HR.out, hn]; rfl)
      clear hn HR
      by_cases h125 : s.data.toList[z]? = some 125
      · have hzs : z < s.size := by have := (List.getElem?_eq_some_iff.1 h125).1; have := HLN.out; omega
        have CP2 := Lib.hid (show ∀ w, Calls Tryz.prog 123 #[.string (s.extract z s.size), .string ⟨#[125]⟩] w fun e w' => e = .returned (.bool true) ∧ w = w' from fun w => by
          have := CP.out z 125 w; rwa [decide_eq_true h125] at this)
        have HN := Lib.hid (show onA s.data.toList k = .ok ((⟨2, x, ⟨#[]⟩, ⟨#[]⟩⟩ : Pb).q, s.data.toList.drop (z + 1)) by rw [HR2.out, cr_var h125]; rfl)
        clear h125
        go_wp2_with (first
          | (go_at_call 123; (with_reducible refine (CP1.out _).mono ?_); rintro e w3 ⟨rfl, rfl⟩)
          | (go_at_call 123; (with_reducible refine (CP2.out _).mono ?_); rintro e w6 ⟨rfl, rfl⟩)
          | (go_at_call 113; (with_reducible refine (CE1.out _).mono ?_); rintro e w4 ⟨rfl, rfl⟩)
          | (go_at_call 95; rw [HX.out]; (with_reducible refine (CX.out _).mono ?_); rintro e w5 ⟨rfl, rfl⟩))
        refine bodyPost_ret (back_pc (a0 := .int .i64 2) (a1 := .string x) (a2 := .string ⟨#[]⟩) (a3 := .string ⟨#[]⟩) Tryz.results110 rfl rfl rfl (set_pc B0.out _ _ _ _)) rfl ?_
        exact ⟨grown_pc G0.out _ _ _ _ hgs, .inl ⟨⟨2, x, ⟨#[]⟩, ⟨#[]⟩⟩, z + 1, rfl, by rw [HLN.out]; omega, HN.out⟩⟩
      · have CP2 := Lib.hid (show ∀ w, Calls Tryz.prog 123 #[.string (s.extract z s.size), .string ⟨#[125]⟩] w fun e w' => e = .returned (.bool false) ∧ w = w' from fun w => by
          have := CP.out z 125 w; rwa [decide_eq_false h125] at this)
        by_cases h58 : s.data.toList[z]? = some 58
        · have CP3 := Lib.hid (show ∀ w, Calls Tryz.prog 123 #[.string (s.extract z s.size), .string ⟨#[58]⟩] w fun e w' => e = .returned (.bool true) ∧ w = w' from fun w => by
            have := CP.out z 58 w; rwa [decide_eq_true h58] at this)
          have hzs : z < s.size := by have := (List.getElem?_eq_some_iff.1 h58).1; have := HLN.out; omega
          have CS := Lib.hid (xSubstAt L A s x z w1 hs h58 hF2)
          clear h58 h125
          go_wp2_with (first
            | (go_at_call 123; (with_reducible refine (CP1.out _).mono ?_); rintro e w3 ⟨rfl, rfl⟩)
            | (go_at_call 123; (with_reducible refine (CP2.out _).mono ?_); rintro e w6 ⟨rfl, rfl⟩)
            | (go_at_call 123; (with_reducible refine (CP3.out _).mono ?_); rintro e w7 ⟨rfl, rfl⟩)
            | (go_at_call 113; (with_reducible refine (CE1.out _).mono ?_); rintro e w4 ⟨rfl, rfl⟩)
            | (go_at_call 95; rw [HX.out]; (with_reducible refine (CX.out _).mono ?_); rintro e w5 ⟨rfl, rfl⟩))
          refine CS.out.mono ?_
          rintro e w8 ⟨g8, hout⟩
          have B8 := Lib.hid (heap_grown g8 B0.out)
          have G8 := Lib.hid (G0.out.trans g8)
          clear c0 c1 c2 c3 fr CS g8
          obtain ⟨c0, c1, c2, c3⟩ := four_px B8.out
          have fr := free_pc B8.out
          rcases hout with ⟨y, q, rfl, hq, hR⟩ | ⟨bad, rfl, hb, hR⟩
          · have HN := Lib.hid (HR2.out.trans hR)
            clear hR
            go_wp2
            refine bodyPost_ret (back_pc (a0 := .int .i64 y.k) (a1 := .string y.t) (a2 := .string y.f) (a3 := .string y.o) Tryz.results110 rfl rfl rfl (set_pc B8.out _ _ _ _)) rfl ?_
            exact ⟨grown_pc G8.out _ _ _ _ hgs, .inl ⟨y, q, rfl, hq, HN.out⟩⟩
          · have HN := Lib.hid (HR2.out.trans hR)
            clear hR
            go_wp2
            refine bodyPost_ret (back_pc (a0 := .int .i64 0) (a1 := .string ⟨#[]⟩) (a2 := .string ⟨#[]⟩) (a3 := .string ⟨#[]⟩) Tryz.results110 rfl rfl rfl (set_pc B8.out _ _ _ _)) rfl ?_
            exact ⟨grown_pc G8.out _ _ _ _ hgs, .inr ⟨bad, rfl, hb, HN.out⟩⟩
        · have CP3 := Lib.hid (show ∀ w, Calls Tryz.prog 123 #[.string (s.extract z s.size), .string ⟨#[58]⟩] w fun e w' => e = .returned (.bool false) ∧ w = w' from fun w => by
            have := CP.out z 58 w; rwa [decide_eq_false h58] at this)
          have HN := Lib.hid (show onA s.data.toList k = .error 3 by rw [HR2.out, cr_no h58 h125])
          clear h58 h125
          go_wp2_with (first
            | (go_at_call 123; (with_reducible refine (CP1.out _).mono ?_); rintro e w3 ⟨rfl, rfl⟩)
            | (go_at_call 123; (with_reducible refine (CP2.out _).mono ?_); rintro e w6 ⟨rfl, rfl⟩)
            | (go_at_call 123; (with_reducible refine (CP3.out _).mono ?_); rintro e w7 ⟨rfl, rfl⟩)
            | (go_at_call 113; (with_reducible refine (CE1.out _).mono ?_); rintro e w4 ⟨rfl, rfl⟩)
            | (go_at_call 95; rw [HX.out]; (with_reducible refine (CX.out _).mono ?_); rintro e w5 ⟨rfl, rfl⟩))
          go_region
          go_wp2
          refine bodyPost_ret (back_pc (a0 := .int .i64 0) (a1 := .string ⟨#[]⟩) (a2 := .string ⟨#[]⟩) (a3 := .string ⟨#[]⟩) Tryz.results110 rfl rfl rfl (set_pc B0.out _ _ _ _)) rfl ?_
          exact ⟨grown_drew (grown_pc G0.out _ _ _ _ hgs), .inr ⟨3, rfl, by decide, HN.out⟩⟩
  · have CP1 := Lib.hid (show ∀ w, Calls Tryz.prog 123 #[.string (s.extract (k + 1) s.size), .string ⟨#[123]⟩] w fun e w' => e = .returned (.bool false) ∧ w = w' from fun w => by
      have := CP.out (k + 1) 123 w; rwa [decide_eq_false hbr] at this)
    obtain ⟨z, hz⟩ : ∃ z, spnQ ltrQ s.data.toList (k + 1) = z := ⟨_, rfl⟩
    have hzl := HLE.out (k + 1) (by omega)
    have CE1 := Lib.hid (show ∀ w, Calls Tryz.prog 113 #[.string s, .int .i64 ((k : Int) + 1)] w fun e w' => e = .returned (.int .i64 z) ∧ w = w' from fun w => by
      have := CE.out (k + 1) w (by omega); rwa [hz] at this)
    rw [hz] at hzl
    obtain ⟨hz1, hz2⟩ := hzl
    obtain ⟨x, hx⟩ : ∃ x, s.extract (k + 1) z = x := ⟨_, rfl⟩
    have hxz : x.size ≤ 100000 := by rw [← hx]; simp; omega
    have HR := Lib.hid (show onA s.data.toList k = if namQ x.data.toList then .ok (⟨2, x.data.toList, [], []⟩, s.data.toList.drop z) else .error 4 by
      rw [HO.out, dl_plain hbr, hz, ← hx, toList_cut])
    have HX := Lib.hid hx
    have CX := Lib.hid (fun w => CN.out x w hxz)
    clear hbr hz hx hxz CN CE HLE
    cases hn : namQ x.data.toList
    · have HN := Lib.hid (show onA s.data.toList k = .error 4 by rw [HR.out, hn]; rfl)
      rw [hn] at CX
      clear hn
      go_wp2_with (first
        | (go_at_call 123; (with_reducible refine (CP1.out _).mono ?_); rintro e w3 ⟨rfl, rfl⟩)
        | (go_at_call 113; (with_reducible refine (CE1.out _).mono ?_); rintro e w4 ⟨rfl, rfl⟩)
        | (go_at_call 95; rw [HX.out]; (with_reducible refine (CX.out _).mono ?_); rintro e w5 ⟨rfl, rfl⟩))
      go_region
      go_wp2
      refine bodyPost_ret (back_pc (a0 := .int .i64 0) (a1 := .string ⟨#[]⟩) (a2 := .string ⟨#[]⟩) (a3 := .string ⟨#[]⟩) Tryz.results110 rfl rfl rfl (set_pc B0.out _ _ _ _)) rfl ?_
      exact ⟨grown_drew (grown_pc G0.out _ _ _ _ hgs), .inr ⟨4, rfl, by decide, HN.out⟩⟩
    · rw [hn] at CX
      have HN := Lib.hid (show onA s.data.toList k = .ok ((⟨2, x, ⟨#[]⟩, ⟨#[]⟩⟩ : Pb).q, s.data.toList.drop z) by rw [HR.out, hn]; rfl)
      clear hn HR
      go_wp2_with (first
        | (go_at_call 123; (with_reducible refine (CP1.out _).mono ?_); rintro e w3 ⟨rfl, rfl⟩)
        | (go_at_call 113; (with_reducible refine (CE1.out _).mono ?_); rintro e w4 ⟨rfl, rfl⟩)
        | (go_at_call 95; rw [HX.out]; (with_reducible refine (CX.out _).mono ?_); rintro e w5 ⟨rfl, rfl⟩))
      refine bodyPost_ret (back_pc (a0 := .int .i64 2) (a1 := .string x) (a2 := .string ⟨#[]⟩) (a3 := .string ⟨#[]⟩) Tryz.results110 rfl rfl rfl (set_pc B0.out _ _ _ _)) rfl ?_
      exact ⟨grown_pc G0.out _ _ _ _ hgs, .inl ⟨⟨2, x, ⟨#[]⟩, ⟨#[]⟩⟩, z, rfl, by rw [HLN.out]; omega, HN.out⟩⟩
end Go.Proofs.YtdganemgldocoaaGreatDoor

namespace Go.Proofs.YtdganemgldocoaaGreatDoor
open Go.RowKit

def nonQ (b : UInt8) : Bool := !(b == 125)
theorem ix_take : ∀ {l : List UInt8} {c : UInt8} {o : Nat}, Lib.indexByte l c = o → l.take o = l.takeWhile (fun b => !(b == c)) ∧ l.contains c = true
  | [], c, o, h => by simp [Lib.indexByte] at h
  | b :: l, c, o, h => by
    rw [Lib.indexByte] at h
    by_cases hb : b = c
    · subst hb
      simp at h
      obtain rfl : o = 0 := by omega
      rw [List.takeWhile_cons_of_neg (by simp)]; simp
    · have e : (b == c) = false := by simpa using hb
      rw [e] at h
      simp only [Bool.false_eq_true, if_false] at h
      by_cases hm : Lib.indexByte l c = -1
      · rw [hm] at h; simp at h
      · have hg := Lib.indexByte_ge l c
        have e2 : (Lib.indexByte l c == -1) = false := by simpa using hm
        rw [e2] at h
        simp only [Bool.false_eq_true, if_false] at h
        obtain ⟨q, hq⟩ : ∃ q : Nat, Lib.indexByte l c = q := ⟨(Lib.indexByte l c).toNat, by omega⟩
        obtain ⟨i1, i2⟩ := ix_take hq
        obtain rfl : o = q + 1 := by omega
        rw [List.takeWhile_cons_of_pos (by simp [hb]), List.take_succ_cons, i1]
        refine ⟨rfl, ?_⟩
        rw [List.contains_cons, i2, Bool.or_true]
theorem cut_at (r : List UInt8) : ((Lib.cut r [125]).2.2 = true ∧ r.contains 125 = true ∧ (Lib.cut r [125]).1 = r.takeWhile nonQ) ∨ ((Lib.cut r [125]).2.2 = false ∧ r.contains 125 = false ∧ (Lib.cut r [125]).1 = r) := by
  unfold Lib.cut
  rw [Lib.index_one, Lib.contains_iff_indexByte]
  have hg := Lib.indexByte_ge r 125
  by_cases h : 0 ≤ Lib.indexByte r 125
  · rw [if_pos h]
    obtain ⟨q, hq⟩ : ∃ q : Nat, Lib.indexByte r 125 = q := ⟨(Lib.indexByte r 125).toNat, by omega⟩
    refine .inl ⟨rfl, decide_eq_true h, ?_⟩
    show r.take (Lib.indexByte r 125).toNat = _
    rw [hq, Int.toNat_natCast, (ix_take hq).1]; rfl
  · rw [if_neg h]
    exact .inr ⟨rfl, decide_eq_false h, rfl⟩
theorem bk_yes : ∀ {r : List UInt8}, r.contains 125 = true → (r.takeWhile nonQ).contains 123 = false → (r.dropWhile bckQ).head? = some 125 ∧ r.takeWhile bckQ = r.takeWhile nonQ
  | [], h, _ => by cases h
  | b :: l, h, h2 => by
    by_cases h5 : b = 125
    · subst h5
      rw [List.dropWhile_cons_of_neg (by decide), List.takeWhile_cons_of_neg (by decide), List.takeWhile_cons_of_neg (by decide)]
      exact ⟨rfl, rfl⟩
    · have n5 : nonQ b = true := by unfold nonQ; simp [h5]
      rw [List.takeWhile_cons_of_pos n5] at h2 ⊢
      by_cases h3 : b = 123
      · subst h3; rw [List.contains_cons] at h2; simp at h2
      · have n3 : bckQ b = true := by unfold bckQ; simp [h5, h3]
        rw [List.contains_cons] at h h2
        have e : ((125 : UInt8) == b) = false := by simpa using Ne.symm h5
        rw [e, Bool.false_or] at h
        rw [Bool.or_eq_false_iff] at h2
        obtain ⟨i1, i2⟩ := bk_yes h h2.2
        rw [List.dropWhile_cons_of_pos n3, List.takeWhile_cons_of_pos n3, i2]
        exact ⟨i1, rfl⟩
theorem bk_no : ∀ {r : List UInt8}, (r.contains 125 = false ∨ (r.takeWhile nonQ).contains 123 = true) → (r.dropWhile bckQ).head? ≠ some 125
  | [], _ => by simp
  | b :: l, h => by
    by_cases h5 : b = 125
    · subst h5
      rcases h with h | h
      · rw [List.contains_cons] at h; simp at h
      · rw [List.takeWhile_cons_of_neg (by decide)] at h; cases h
    · have n5 : nonQ b = true := by unfold nonQ; simp [h5]
      by_cases h3 : b = 123
      · subst h3; rw [List.dropWhile_cons_of_neg (by decide)]; simp
      · have n3 : bckQ b = true := by unfold bckQ; simp [h5, h3]
        rw [List.dropWhile_cons_of_pos n3]
        apply bk_no
        rcases h with h | h
        · rw [List.contains_cons, Bool.or_eq_false_iff] at h; exact .inl h.2
        · rw [List.takeWhile_cons_of_pos n5, List.contains_cons] at h
          have e : ((123 : UInt8) == b) = false := by simpa using Ne.symm h3
          rw [e, Bool.false_or] at h; exact .inr h
theorem drop_bk {l : List UInt8} {k : Nat} : l[spnQ bckQ l k]? = ((l.drop k).dropWhile bckQ).head? := by rw [← spn_drop, List.head?_drop]
set_option maxRecDepth 100000 in
set_option maxHeartbeats 8000000 in
theorem xBackAt {M : World → Prop} (L : LbX M) (A : Nat → Addr) (s : ByteArray) (k : Nat) (w : World) (hM : M w) (hs : s.size ≤ 5000) (hk : s.data.toList[k]? = some 96)
    (hF : w.cell? ⟨1, 0, none⟩ = some (.iface 202 (.pointer (some (A 3))))) :
    Calls Tryz.prog 111 #[.string s, .int .i64 k] w (PPc (onA s.data.toList k) s.data.toList A w) := by
  have HM := Lib.hid hM
  have CC := Lib.hid (fun x w (h : x.size ≤ 100000) (hm : M w) => L.cut x ⟨#[125]⟩ w hm h)
  have CP := Lib.hid (L.cutp (s.extract k s.size) ⟨#[96, 123]⟩)
  have CH := Lib.hid (fun x w => L.has x 123 w)
  have hdl : (s.extract k s.size).data.toList = s.data.toList.drop k := by rw [toList_cut, List.take_of_length_le (by simp)]
  have hpre : Lib.hasPrefix (s.data.toList.drop k) [96, 123] = decide (s.data.toList[k + 1]? = some 123) := by
    rw [drop_at hk]
    unfold Lib.hasPrefix
    cases h : s.data.toList[k + 1]? with
    | none => rw [List.drop_of_length_le (List.getElem?_eq_none_iff.1 h)]; rfl
    | some b =>
      rw [drop_at h]
      by_cases hb : (123 : UInt8) = b
      · subst hb; simp [List.isPrefixOf]
      · have hb2 : ¬b = 123 := fun x => hb x.symm
        simp [List.isPrefixOf, hb, hb2]
  clear hM
  have hlen : s.data.toList.length = s.size := by simp
  have hks : k < s.size := by have := (List.getElem?_eq_some_iff.1 hk).1; omega
  have HLN := Lib.hid hlen; have HK := Lib.hid hk
  have B0 := Lib.hid (heap_alloc_new w (.cells #[.int .i64 0, .string ⟨#[]⟩, .string ⟨#[]⟩, .string ⟨#[]⟩] 105))
  have G0 := Lib.hid (World.grownBy_alloc w (.cells #[.int .i64 0, .string ⟨#[]⟩, .string ⟨#[]⟩, .string ⟨#[]⟩] 105) none)
  have hF1 := Lib.hid hF; have hrhF : 1 < w.heap.size := cell_block hF
  clear hlen hk hF
  go_enter Tryz.func111, Tryz.ntmps111
  go_upto_region 1 with fail
  generalize w.alloc _ = w1 at B0 G0 ⊢
  obtain ⟨g, eg⟩ : ∃ g, w.heap.size = g := ⟨_, rfl⟩
  rw [eg] at B0 hrhF ⊢
  have hgs : w.heap.size ≤ g := by omega
  obtain ⟨c0, c1, c2, c3⟩ := four_px B0.out
  have fr := free_pc B0.out
  have hF2 : w1.cell? ⟨1, 0, none⟩ = some (.iface 202 (.pointer (some (A 3)))) := G0.out.cell hF1.out (by simp)
  have hF3 : ¬g = 1 := by omega
  have hF4 : ¬1 = g := by omega
  clear eg
  have HM1 := Lib.hid (L.gr _ _ HM.out G0.out)
  have e0 : ∀ w, Calls Tryz.prog 65 #[.string (s.extract k s.size), .string ⟨#[96, 123]⟩] w fun e w' => e = .returned (.tuple #[.string ⟨(if decide (s.data.toList[k + 1]? = some 123) then (s.data.toList.drop k).drop 2 else s.data.toList.drop k).toArray⟩, .bool (decide (s.data.toList[k + 1]? = some 123))]) ∧ w = w' := fun w => by
    have := CP.out w
    unfold Lib.trimPrefix at this
    rw [hdl, show (⟨#[96, 123]⟩ : ByteArray).data.toList = [96, 123] from rfl, hpre] at this
    exact this
  obtain ⟨y, hy, hyl, hyz⟩ := un_text (if decide (s.data.toList[k + 1]? = some 123) then (s.data.toList.drop k).drop 2 else s.data.toList.drop k)
  rw [hy] at e0
  have hyz2 : y.size ≤ s.size := by
    rw [hyz, ← HLN.out]; split
    · simp only [List.length_drop]; omega
    · simp only [List.length_drop]; omega
  have C0 := Lib.hid e0
  have CC1 := Lib.hid (CC.out y w1 (by omega) HM1.out)
  obtain ⟨t, ht, htl, htz⟩ := un_text (Lib.cut y.data.toList [125]).1
  obtain ⟨u, hu⟩ : ∃ u, (⟨(Lib.cut y.data.toList [125]).2.1.toArray⟩ : ByteArray) = u := ⟨_, rfl⟩
  obtain ⟨c, hc⟩ : ∃ c, (Lib.cut y.data.toList [125]).2.2 = c := ⟨_, rfl⟩
  have CK := Lib.hid (show Calls Tryz.prog 114 #[.string y, .string ⟨#[125]⟩] w1 fun e w' => e = .returned (.tuple #[.string t, .string u, .bool c]) ∧ ∃ n, w' = w1.drewN n by
    rw [← ht, ← hu, ← hc]; exact CC1.out)
  have CH1 := Lib.hid (fun w => CH.out t w)
  rw [← Lib.contains_iff_indexByte] at CH1
  have KC := cut_at y.data.toList
  rw [hc, ← htl] at KC
  by_cases hop : s.data.toList[k + 1]? = some 123
  · rw [decide_eq_true hop] at C0 hyl
    simp only [if_true, List.drop_drop] at hyl
    rw [hyl] at KC
    have hkk : k + 2 ≤ s.size := by have := (List.getElem?_eq_some_iff.1 hop).1; have := HLN.out; omega
    rcases KC with ⟨rfl, hin, htk⟩ | ⟨rfl, hin, htk⟩
    · cases hb : t.data.toList.contains 123
      · rw [htk] at hb
        obtain ⟨y1, y2⟩ := bk_yes hin hb
        have hsp : spnQ bckQ s.data.toList (k + 2) = k + 2 + t.size := by
          unfold spnQ; rw [y2, ← htk]; simp
        have htz2 : k + 2 + t.size < s.size := by
          have h := y1
          rw [← drop_bk, hsp] at h
          have := (List.getElem?_eq_some_iff.1 h).1; have := HLN.out; omega
        have HN := Lib.hid (show onA s.data.toList k = .ok ((⟨4, t, ⟨#[]⟩, ⟨#[]⟩⟩ : Pb).q, s.data.toList.drop (k + 2 + t.size + 1)) by
          rw [on_bk HK.out hop (by rw [drop_bk]; exact y1), spn_take, y2, ← htk, hsp]; rfl)
        rw [htk, hb] at CH1
        clear hop hyl hin htk hb y1 y2 hsp ht htl htz hu hc hy hyz
        go_wp2_with (first
          | (go_at_call 65; (with_reducible refine (C0.out _).mono ?_); rintro e w3 ⟨rfl, rfl⟩)
          | (go_at_call 114; fail))
        refine CK.out.mono ?_
        rintro e w8 ⟨rfl, nq, rfl⟩
        have B8 := Lib.hid (show (w1.drewN nq).heap[g]? = _ from B0.out)
        have G8 := Lib.hid (grown_drewN G0.out nq)
        have F8 : (w1.drewN nq).cell? ⟨1, 0, none⟩ = some (.iface 202 (.pointer (some (A 3)))) := hF2
        generalize w1.drewN nq = w9 at B8 G8 F8 ⊢
        clear c0 c1 c2 c3 fr CK
        obtain ⟨c0, c1, c2, c3⟩ := four_px B8.out
        have fr := free_pc B8.out
        go_wp2_with (go_at_call 125; (with_reducible refine (CH1.out _).mono ?_); rintro e w4 ⟨rfl, rfl⟩)
        refine bodyPost_ret (back_pc (a0 := .int .i64 4) (a1 := .string t) (a2 := .string ⟨#[]⟩) (a3 := .string ⟨#[]⟩) Tryz.results111 rfl rfl rfl (set_pc B8.out _ _ _ _)) rfl ?_
        exact ⟨grown_pc G8.out _ _ _ _ hgs, .inl ⟨⟨4, t, ⟨#[]⟩, ⟨#[]⟩⟩, k + 2 + t.size + 1, rfl, by rw [HLN.out]; omega, HN.out⟩⟩
      · have HN := Lib.hid (show onA s.data.toList k = .error 3 from on_bk_shut HK.out hop (by rw [drop_bk]; exact bk_no (.inr (by rw [← htk]; exact hb))))
        rw [hb] at CH1
        clear hop hyl hin htk hb ht htl htz hu hc hy hyz
        go_wp2_with (first
          | (go_at_call 65; (with_reducible refine (C0.out _).mono ?_); rintro e w3 ⟨rfl, rfl⟩)
          | (go_at_call 114; fail))
        refine CK.out.mono ?_
        rintro e w8 ⟨rfl, nq, rfl⟩
        have B8 := Lib.hid (show (w1.drewN nq).heap[g]? = _ from B0.out)
        have G8 := Lib.hid (grown_drewN G0.out nq)
        have F8 : (w1.drewN nq).cell? ⟨1, 0, none⟩ = some (.iface 202 (.pointer (some (A 3)))) := hF2
        generalize w1.drewN nq = w9 at B8 G8 F8 ⊢
        clear c0 c1 c2 c3 fr CK
        obtain ⟨c0, c1, c2, c3⟩ := four_px B8.out
        have fr := free_pc B8.out
        go_wp2_with (go_at_call 125; (with_reducible refine (CH1.out _).mono ?_); rintro e w4 ⟨rfl, rfl⟩)
        go_region
        go_wp2
        refine bodyPost_ret (back_pc (a0 := .int .i64 0) (a1 := .string ⟨#[]⟩) (a2 := .string ⟨#[]⟩) (a3 := .string ⟨#[]⟩) Tryz.results111 rfl rfl rfl (set_pc B8.out _ _ _ _)) rfl ?_
        exact ⟨grown_drew (grown_pc G8.out _ _ _ _ hgs), .inr ⟨3, rfl, by decide, HN.out⟩⟩
    · have HN := Lib.hid (show onA s.data.toList k = .error 3 from on_bk_shut HK.out hop (by rw [drop_bk]; exact bk_no (.inl hin)))
      clear hop hyl hin htk ht htl htz hu hc hy hyz
      go_wp2_with (first
        | (go_at_call 65; (with_reducible refine (C0.out _).mono ?_); rintro e w3 ⟨rfl, rfl⟩)
        | (go_at_call 114; fail))
      refine CK.out.mono ?_
      rintro e w8 ⟨rfl, nq, rfl⟩
      have B8 := Lib.hid (show (w1.drewN nq).heap[g]? = _ from B0.out)
      have G8 := Lib.hid (grown_drewN G0.out nq)
      have F8 : (w1.drewN nq).cell? ⟨1, 0, none⟩ = some (.iface 202 (.pointer (some (A 3)))) := hF2
      generalize w1.drewN nq = w9 at B8 G8 F8 ⊢
      clear c0 c1 c2 c3 fr CK
      obtain ⟨c0, c1, c2, c3⟩ := four_px B8.out
      have fr := free_pc B8.out
      go_wp2
      go_region
      go_wp2
      refine bodyPost_ret (back_pc (a0 := .int .i64 0) (a1 := .string ⟨#[]⟩) (a2 := .string ⟨#[]⟩) (a3 := .string ⟨#[]⟩) Tryz.results111 rfl rfl rfl (set_pc B8.out _ _ _ _)) rfl ?_
      exact ⟨grown_drew (grown_pc G8.out _ _ _ _ hgs), .inr ⟨3, rfl, by decide, HN.out⟩⟩
  · rw [decide_eq_false hop] at C0
    have HN := Lib.hid (show onA s.data.toList k = .error 3 from on_bk_open HK.out hop)
    clear hop hyl ht htl htz hu hc hy hyz KC
    cases c
    all_goals
      go_wp2_with (first
        | (go_at_call 65; (with_reducible refine (C0.out _).mono ?_); rintro e w3 ⟨rfl, rfl⟩)
        | (go_at_call 114; fail))
      refine CK.out.mono ?_
      rintro e w8 ⟨rfl, nq, rfl⟩
      have B8 := Lib.hid (show (w1.drewN nq).heap[g]? = _ from B0.out)
      have G8 := Lib.hid (grown_drewN G0.out nq)
      have F8 : (w1.drewN nq).cell? ⟨1, 0, none⟩ = some (.iface 202 (.pointer (some (A 3)))) := hF2
      generalize w1.drewN nq = w9 at B8 G8 F8 ⊢
      clear c0 c1 c2 c3 fr CK
      obtain ⟨c0, c1, c2, c3⟩ := four_px B8.out
      have fr := free_pc B8.out
      go_wp2
      go_region
      go_wp2
      refine bodyPost_ret (back_pc (a0 := .int .i64 0) (a1 := .string ⟨#[]⟩) (a2 := .string ⟨#[]⟩) (a3 := .string ⟨#[]⟩) Tryz.results111 rfl rfl rfl (set_pc B8.out _ _ _ _)) rfl ?_
      exact ⟨grown_drew (grown_pc G8.out _ _ _ _ hgs), .inr ⟨3, rfl, by decide, HN.out⟩⟩
end Go.Proofs.YtdganemgldocoaaGreatDoor

/- Walks of package lex: what begins at a backquote. -/
import Derived.Test.YtheeeofdgpcfeaaDoorLxQd
import Derived.Lib.IndexLaws
import Derived.Lib.IndexAny
import Derived.Lib.IndexBytes
import Derived.Lib.CutLaws
namespace Go.Proofs.YtheeeofdgpcfeaaDoor
open Go.RowKit

def nonQ (b : UInt8) : Bool := !(b == 125)
theorem ix_take : ∀ {l : List UInt8} {c : UInt8} {o : Nat}, Lib.indexByte l c = o → l.take o = l.takeWhile (fun b => !(b == c)) ∧ l.contains c = true
  | [], c, o, h => by simp [Lib.indexByte] at h
  | b :: l, c, o, h => by
    rw [Lib.indexByte] at h
    by_cases hb : b = c
    · subst hb
      simp at h
      obtain rfl : o = 0 := by omega
      rw [List.takeWhile_cons_of_neg (by simp)]; simp
    · have e : (b == c) = false := by simpa using hb
      rw [e] at h
      simp only [Bool.false_eq_true, if_false] at h
      by_cases hm : Lib.indexByte l c = -1
      · rw [hm] at h; simp at h
      · have hg := Lib.indexByte_ge l c
        have e2 : (Lib.indexByte l c == -1) = false := by simpa using hm
        rw [e2] at h
        simp only [Bool.false_eq_true, if_false] at h
        obtain ⟨q, hq⟩ : ∃ q : Nat, Lib.indexByte l c = q := ⟨(Lib.indexByte l c).toNat, by omega⟩
        obtain ⟨i1, i2⟩ := ix_take hq
        obtain rfl : o = q + 1 := by omega
        rw [List.takeWhile_cons_of_pos (by simp [hb]), List.take_succ_cons, i1]
        refine ⟨rfl, ?_⟩
        rw [List.contains_cons, i2, Bool.or_true]
theorem cut_at (r : List UInt8) : ((Lib.cut r [125]).2.2 = true ∧ r.contains 125 = true ∧ (Lib.cut r [125]).1 = r.takeWhile nonQ) ∨ ((Lib.cut r [125]).2.2 = false ∧ r.contains 125 = false ∧ (Lib.cut r [125]).1 = r) := by
  unfold Lib.cut
  rw [Lib.index_one, Lib.contains_iff_indexByte]
  have hg := Lib.indexByte_ge r 125
  by_cases h : 0 ≤ Lib.indexByte r 125
  · rw [if_pos h]
    obtain ⟨q, hq⟩ : ∃ q : Nat, Lib.indexByte r 125 = q := ⟨(Lib.indexByte r 125).toNat, by omega⟩
    refine .inl ⟨rfl, decide_eq_true h, ?_⟩
    show r.take (Lib.indexByte r 125).toNat = _
    rw [hq, Int.toNat_natCast, (ix_take hq).1]; rfl
  · rw [if_neg h]
    exact .inr ⟨rfl, decide_eq_false h, rfl⟩
theorem bk_yes : ∀ {r : List UInt8}, r.contains 125 = true → (r.takeWhile nonQ).contains 123 = false → (r.dropWhile bckQ).head? = some 125 ∧ r.takeWhile bckQ = r.takeWhile nonQ
  | [], h, _ => by cases h
  | b :: l, h, h2 => by
    by_cases h5 : b = 125
    · subst h5
      rw [List.dropWhile_cons_of_neg (by decide), List.takeWhile_cons_of_neg (by decide), List.takeWhile_cons_of_neg (by decide)]
      exact ⟨rfl, rfl⟩
    · have n5 : nonQ b = true := by unfold nonQ; simp [h5]
      rw [List.takeWhile_cons_of_pos n5] at h2 ⊢
      by_cases h3 : b = 123
      · subst h3; rw [List.contains_cons] at h2; simp at h2
      · have n3 : bckQ b = true := by unfold bckQ; simp [h5, h3]
        rw [List.contains_cons] at h h2
        have e : ((125 : UInt8) == b) = false := by simpa using Ne.symm h5
        rw [e, Bool.false_or] at h
        rw [Bool.or_eq_false_iff] at h2
        obtain ⟨i1, i2⟩ := bk_yes h h2.2
        rw [List.dropWhile_cons_of_pos n3, List.takeWhile_cons_of_pos n3, i2]
        exact ⟨i1, rfl⟩
theorem bk_no : ∀ {r : List UInt8}, (r.contains 125 = false ∨ (r.takeWhile nonQ).contains 123 = true) → (r.dropWhile bckQ).head? ≠ some 125
  | [], _ => by simp
  | b :: l, h => by
    by_cases h5 : b = 125
    · subst h5
      rcases h with h | h
      · rw [List.contains_cons] at h; simp at h
      · rw [List.takeWhile_cons_of_neg (by decide)] at h; cases h
    · have n5 : nonQ b = true := by unfold nonQ; simp [h5]
      by_cases h3 : b = 123
      · subst h3; rw [List.dropWhile_cons_of_neg (by decide)]; simp
      · have n3 : bckQ b = true := by unfold bckQ; simp [h5, h3]
        rw [List.dropWhile_cons_of_pos n3]
        apply bk_no
        rcases h with h | h
        · rw [List.contains_cons, Bool.or_eq_false_iff] at h; exact .inl h.2
        · rw [List.takeWhile_cons_of_pos n5, List.contains_cons] at h
          have e : ((123 : UInt8) == b) = false := by simpa using Ne.symm h3
          rw [e, Bool.false_or] at h; exact .inr h
theorem drop_bk {l : List UInt8} {k : Nat} : l[spnQ bckQ l k]? = ((l.drop k).dropWhile bckQ).head? := by rw [← spn_drop, List.head?_drop]
set_option maxRecDepth 100000 in
set_option maxHeartbeats 8000000 in
theorem xBackAt {M : World → Prop} (L : LbX M) (A : Nat → Addr) (s : ByteArray) (k : Nat) (w : World) (hM : M w) (hs : s.size ≤ 5000) (hk : s.data.toList[k]? = some 96)
    (hF : w.cell? ⟨2, 0, none⟩ = some (.iface 86 (.pointer (some (A 3))))) :
    Calls Tryd.prog 29 #[.string s, .int .i64 k] w (PPc (onA s.data.toList k) s.data.toList A w) := by
  have HM := Lib.hid hM
  have CC := Lib.hid (fun x w (h : x.size ≤ 100000) (hm : M w) => L.cut x ⟨#[125]⟩ w hm h)
  have CP := Lib.hid (L.cutp (s.extract k s.size) ⟨#[96, 123]⟩)
  have CH := Lib.hid (fun x w => L.has x 123 w)
  have hdl : (s.extract k s.size).data.toList = s.data.toList.drop k := by rw [toList_cut, List.take_of_length_le (by simp)]
  have hpre : Lib.hasPrefix (s.data.toList.drop k) [96, 123] = decide (s.data.toList[k + 1]? = some 123) := by
    rw [drop_at hk]
    unfold Lib.hasPrefix
    cases h : s.data.toList[k + 1]? with
    | none => rw [List.drop_of_length_le (List.getElem?_eq_none_iff.1 h)]; rfl
    | some b =>
      rw [drop_at h]
      by_cases hb : (123 : UInt8) = b
      · subst hb; simp [List.isPrefixOf]
      · have hb2 : ¬b = 123 := fun x => hb x.symm
        simp [List.isPrefixOf, hb, hb2]
  clear hM
  have hlen : s.data.toList.length = s.size := by simp
  have hks : k < s.size := by have := (List.getElem?_eq_some_iff.1 hk).1; omega
  have HLN := Lib.hid hlen; have HK := Lib.hid hk
  have B0 := Lib.hid (heap_alloc_new w (.cells #[.int .i64 0, .string ⟨#[]⟩, .string ⟨#[]⟩, .string ⟨#[]⟩] 27))
  have G0 := Lib.hid (World.grownBy_alloc w (.cells #[.int .i64 0, .string ⟨#[]⟩, .string ⟨#[]⟩, .string ⟨#[]⟩] 27) none)
  have hF1 := Lib.hid hF; have hrhF : 2 < w.heap.size := cell_block hF
  clear hlen hk hF
  go_enter Tryd.func29, Tryd.ntmps29
  go_upto_region 1 with fail
  generalize w.alloc _ = w1 at B0 G0 ⊢
  obtain ⟨g, eg⟩ : ∃ g, w.heap.size = g := ⟨_, rfl⟩
  rw [eg] at B0 hrhF ⊢
  have hgs : w.heap.size ≤ g := by omega
  obtain ⟨c0, c1, c2, c3⟩ := four_px B0.out
  have fr := free_pc B0.out
  have hF2 : w1.cell? ⟨2, 0, none⟩ = some (.iface 86 (.pointer (some (A 3)))) := G0.out.cell hF1.out (by simp)
  have hF3 : ¬g = 2 := by omega
  have hF4 : ¬2 = g := by omega
  clear eg
  have HM1 := Lib.hid (L.gr _ _ HM.out G0.out)
  have e0 : ∀ w, Calls Tryd.prog 40 #[.string (s.extract k s.size), .string ⟨#[96, 123]⟩] w fun e w' => e = .returned (.tuple #[.string ⟨(if decide (s.data.toList[k + 1]? = some 123) then (s.data.toList.drop k).drop 2 else s.data.toList.drop k).toArray⟩, .bool (decide (s.data.toList[k + 1]? = some 123))]) ∧ w = w' := fun w => by
    have := CP.out w
    unfold Lib.trimPrefix at this
    rw [hdl, show (⟨#[96, 123]⟩ : ByteArray).data.toList = [96, 123] from rfl, hpre] at this
    exact this
  obtain ⟨y, hy, hyl, hyz⟩ := un_text (if decide (s.data.toList[k + 1]? = some 123) then (s.data.toList.drop k).drop 2 else s.data.toList.drop k)
  rw [hy] at e0
  have hyz2 : y.size ≤ s.size := by
    rw [hyz, ← HLN.out]; split
    · simp only [List.length_drop]; omega
    · simp only [List.length_drop]; omega
  have C0 := Lib.hid e0
  have CC1 := Lib.hid (CC.out y w1 (by omega) HM1.out)
  obtain ⟨t, ht, htl, htz⟩ := un_text (Lib.cut y.data.toList [125]).1
  obtain ⟨u, hu⟩ : ∃ u, (⟨(Lib.cut y.data.toList [125]).2.1.toArray⟩ : ByteArray) = u := ⟨_, rfl⟩
  obtain ⟨c, hc⟩ : ∃ c, (Lib.cut y.data.toList [125]).2.2 = c := ⟨_, rfl⟩
  have CK := Lib.hid (show Calls Tryd.prog 41 #[.string y, .string ⟨#[125]⟩] w1 fun e w' => e = .returned (.tuple #[.string t, .string u, .bool c]) ∧ ∃ n, w' = w1.drewN n by
    rw [← ht, ← hu, ← hc]; exact CC1.out)
  have CH1 := Lib.hid (fun w => CH.out t w)
  rw [← Lib.contains_iff_indexByte] at CH1
  have KC := cut_at y.data.toList
  rw [hc, ← htl] at KC
  by_cases hop : s.data.toList[k + 1]? = some 123
  · rw [decide_eq_true hop] at C0 hyl
    simp only [if_true, List.drop_drop] at hyl
    rw [hyl] at KC
    have hkk : k + 2 ≤ s.size := by have := (List.getElem?_eq_some_iff.1 hop).1; have := HLN.out; omega
    rcases KC with ⟨rfl, hin, htk⟩ | ⟨rfl, hin, htk⟩
    · cases hb : t.data.toList.contains 123
      · rw [htk] at hb
        obtain ⟨y1, y2⟩ := bk_yes hin hb
        have hsp : spnQ bckQ s.data.toList (k + 2) = k + 2 + t.size := by
          unfold spnQ; rw [y2, ← htk]; simp
        have htz2 : k + 2 + t.size < s.size := by
          have h := y1
          rw [← drop_bk, hsp] at h
          have := (List.getElem?_eq_some_iff.1 h).1; have := HLN.out; omega
        have HN := Lib.hid (show onA s.data.toList k = .ok ((⟨4, t, ⟨#[]⟩, ⟨#[]⟩⟩ : Pb).q, s.data.toList.drop (k + 2 + t.size + 1)) by
          rw [on_bk HK.out hop (by rw [drop_bk]; exact y1), spn_take, y2, ← htk, hsp]; rfl)
        rw [htk, hb] at CH1
        clear hop hyl hin htk hb y1 y2 hsp ht htl htz hu hc hy hyz
        go_wp2_with (first
          | (go_at_call 40; (with_reducible refine (C0.out _).mono ?_); rintro e w3 ⟨rfl, rfl⟩)
          | (go_at_call 41; fail))
        refine CK.out.mono ?_
        rintro e w8 ⟨rfl, nq, rfl⟩
        have B8 := Lib.hid (show (w1.drewN nq).heap[g]? = _ from B0.out)
        have G8 := Lib.hid (grown_drewN G0.out nq)
        have F8 : (w1.drewN nq).cell? ⟨2, 0, none⟩ = some (.iface 86 (.pointer (some (A 3)))) := hF2
        generalize w1.drewN nq = w9 at B8 G8 F8 ⊢
        clear c0 c1 c2 c3 fr CK
        obtain ⟨c0, c1, c2, c3⟩ := four_px B8.out
        have fr := free_pc B8.out
        go_wp2_with (go_at_call 42; (with_reducible refine (CH1.out _).mono ?_); rintro e w4 ⟨rfl, rfl⟩)
        refine bodyPost_ret (back_pc (a0 := .int .i64 4) (a1 := .string t) (a2 := .string ⟨#[]⟩) (a3 := .string ⟨#[]⟩) Tryd.results29 rfl rfl rfl (set_pc B8.out _ _ _ _)) rfl ?_
        exact ⟨grown_pc G8.out _ _ _ _ hgs, .inl ⟨⟨4, t, ⟨#[]⟩, ⟨#[]⟩⟩, k + 2 + t.size + 1, rfl, by rw [HLN.out]; omega, HN.out⟩⟩
      · have HN := Lib.hid (show onA s.data.toList k = .error 3 from on_bk_shut HK.out hop (by rw [drop_bk]; exact bk_no (.inr (by rw [← htk]; exact hb))))
        rw [hb] at CH1
        clear hop hyl hin htk hb ht htl htz hu hc hy hyz
        go_wp2_with (first
          | (go_at_call 40; (with_reducible refine (C0.out _).mono ?_); rintro e w3 ⟨rfl, rfl⟩)
          | (go_at_call 41; fail))
        refine CK.out.mono ?_
        rintro e w8 ⟨rfl, nq, rfl⟩
        have B8 := Lib.hid (show (w1.drewN nq).heap[g]? = _ from B0.out)
        have G8 := Lib.hid (grown_drewN G0.out nq)
        have F8 : (w1.drewN nq).cell? ⟨2, 0, none⟩ = some (.iface 86 (.pointer (some (A 3)))) := hF2
        generalize w1.drewN nq = w9 at B8 G8 F8 ⊢
        clear c0 c1 c2 c3 fr CK
        obtain ⟨c0, c1, c2, c3⟩ := four_px B8.out
        have fr := free_pc B8.out
        go_wp2_with (go_at_call 42; (with_reducible refine (CH1.out _).mono ?_); rintro e w4 ⟨rfl, rfl⟩)
        go_region
        go_wp2
        refine bodyPost_ret (back_pc (a0 := .int .i64 0) (a1 := .string ⟨#[]⟩) (a2 := .string ⟨#[]⟩) (a3 := .string ⟨#[]⟩) Tryd.results29 rfl rfl rfl (set_pc B8.out _ _ _ _)) rfl ?_
        exact ⟨grown_drew (grown_pc G8.out _ _ _ _ hgs), .inr ⟨3, rfl, by decide, HN.out⟩⟩
    · have HN := Lib.hid (show onA s.data.toList k = .error 3 from on_bk_shut HK.out hop (by rw [drop_bk]; exact bk_no (.inl hin)))
      clear hop hyl hin htk ht htl htz hu hc hy hyz
      go_wp2_with (first
        | (go_at_call 40; (with_reducible refine (C0.out _).mono ?_); rintro e w3 ⟨rfl, rfl⟩)
        | (go_at_call 41; fail))
      refine CK.out.mono ?_
      rintro e w8 ⟨rfl, nq, rfl⟩
      have B8 := Lib.hid (show (w1.drewN nq).heap[g]? = _ from B0.out)
      have G8 := Lib.hid (grown_drewN G0.out nq)
      have F8 : (w1.drewN nq).cell? ⟨2, 0, none⟩ = some (.iface 86 (.pointer (some (A 3)))) := hF2
      generalize w1.drewN nq = w9 at B8 G8 F8 ⊢
      clear c0 c1 c2 c3 fr CK
      obtain ⟨c0, c1, c2, c3⟩ := four_px B8.out
      have fr := free_pc B8.out
      go_wp2
      go_region
      go_wp2
      refine bodyPost_ret (back_pc (a0 := .int .i64 0) (a1 := .string ⟨#[]⟩) (a2 := .string ⟨#[]⟩) (a3 := .string ⟨#[]⟩) Tryd.results29 rfl rfl rfl (set_pc B8.out _ _ _ _)) rfl ?_
      exact ⟨grown_drew (grown_pc G8.out _ _ _ _ hgs), .inr ⟨3, rfl, by decide, HN.out⟩⟩
  · rw [decide_eq_false hop] at C0
    have HN := Lib.hid (show onA s.data.toList k = .error 3 from on_bk_open HK.out hop)
    clear hop hyl ht htl htz hu hc hy hyz KC
    cases c
    all_goals
      go_wp2_with (first
        | (go_at_call 40; (with_reducible refine (C0.out _).mono ?_); rintro e w3 ⟨rfl, rfl⟩)
        | (go_at_call 41; fail))
      refine CK.out.mono ?_
      rintro e w8 ⟨rfl, nq, rfl⟩
      have B8 := Lib.hid (show (w1.drewN nq).heap[g]? = _ from B0.out)
      have G8 := Lib.hid (grown_drewN G0.out nq)
      have F8 : (w1.drewN nq).cell? ⟨2, 0, none⟩ = some (.iface 86 (.pointer (some (A 3)))) := hF2
      generalize w1.drewN nq = w9 at B8 G8 F8 ⊢
      clear c0 c1 c2 c3 fr CK
      obtain ⟨c0, c1, c2, c3⟩ := four_px B8.out
      have fr := free_pc B8.out
      go_wp2
      go_region
      go_wp2
      refine bodyPost_ret (back_pc (a0 := .int .i64 0) (a1 := .string ⟨#[]⟩) (a2 := .string ⟨#[]⟩) (a3 := .string ⟨#[]⟩) Tryd.results29 rfl rfl rfl (set_pc B8.out _ _ _ _)) rfl ?_
      exact ⟨grown_drew (grown_pc G8.out _ _ _ _ hgs), .inr ⟨3, rfl, by decide, HN.out⟩⟩
end Go.Proofs.YtheeeofdgpcfeaaDoor

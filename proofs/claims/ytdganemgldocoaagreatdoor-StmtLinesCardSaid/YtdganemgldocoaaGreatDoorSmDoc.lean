/- The document's own statement of a line. (Printed by wip/mk/smone.py.) The document's own statements of all lines. -/
import Derived.Test.YtdganemgldocoaaGreatDoorSmCell
import Derived.Test.YtdganemgldocoaaGreatDoorEvRef
namespace Go.Proofs.YtdganemgldocoaaGreatDoor
open Go.RowKit

theorem of_sg : ofB ⟨#[58, 61]⟩ = sgS := by funext b; unfold ofB sgS; simp; rfl
theorem of_eq : ofB ⟨#[61]⟩ = (· == 61) := by funext b; unfold ofB; simp; rfl
theorem fn_zero {sg : UInt8 → Bool} {l : List UInt8} : fnA sg l 0 = match fnQ sg l with | none => -1 | some i => (i : Int) := by
  unfold fnA
  rw [List.drop_zero]
  cases fnQ sg l with
  | none => rfl
  | some i => simp
theorem ex_take (s : ByteArray) (k : Nat) : (s.extract 0 k).data.toList = s.data.toList.take k := by rw [toList_cut2, List.drop_zero]
theorem ex_drop (s : ByteArray) (k : Nat) : (s.extract k s.size).data.toList = s.data.toList.drop k := toList_rest s k
theorem head_at {s : ByteArray} (h : 0 < s.size) : s.data.toList.head? = some s[0] := by rw [List.head?_eq_getElem?]; exact list_at h
theorem zero_at {s : ByteArray} (h : ¬ 0 < s.size) : s.data.toList = [] := none_a h
theorem doc_prog : ∀ {s : List UInt8} {f g : Nat} {p : List UInt8}, docA f s = .ok (g, p) → p.length ≤ 120
  | [], f, g, p, h => by unfold docA at h; cases h; exact Nat.zero_le _
  | c :: s, f, g, p, h => by
    unfold docA at h
    split at h
    · split at h
      · cases h
      · split at h
        · cases h
        · cases h; omega
    · split at h
      · cases h
      · exact doc_prog h
theorem byte_eq {b : UInt8} (n : Nat) (hn : n < 256) (h : b = UInt8.ofNat n) : ((b.toNat : Int) == (n : Int)) = true := by
  subst h; rw [beq_iff_eq, UInt8.toNat_ofNat']; omega
theorem byte_no {b : UInt8} (n : Nat) (hn : n < 256) (h : b ≠ UInt8.ofNat n) : ((b.toNat : Int) == (n : Int)) = false := by
  rw [beq_eq_false_iff_ne]; intro e; apply h; apply UInt8.toNat_inj.1; rw [UInt8.toNat_ofNat']; omega
set_option maxRecDepth 100000 in
set_option maxHeartbeats 16000000 in
theorem dOne19 (s : ByteArray) (w : World) (h0 : 0 < s.size) (hs : s.size ≤ 1000) : Calls Tryz.prog 23 #[.string s] w (POne 107 106 (.int .i64 0) (fun k => .int .i64 k) (oneS s.data.toList) w) := by
  have B0 := Lib.hid (heap_alloc_new w (.cells #[.int .i64 0, .int .i64 0, .string ⟨#[]⟩, .slice none 0 0, .slice none 0 0, .int .i64 0, .string ⟨#[]⟩, .string ⟨#[]⟩, .bool false, .bool false] 52))
  have G0 := Lib.hid (World.grownBy_alloc w (.cells #[.int .i64 0, .int .i64 0, .string ⟨#[]⟩, .slice none 0 0, .slice none 0 0, .int .i64 0, .string ⟨#[]⟩, .string ⟨#[]⟩, .bool false, .bool false] 52) none)
  have hlen : s.data.toList.length = s.size := by simp
  have HLN := Lib.hid hlen
  clear hlen
  go_enter Tryz.func23, Tryz.ntmps23
  go_upto_region 1 with fail
  generalize w.alloc _ = w1 at B0 G0 ⊢
  obtain ⟨p, ep⟩ : ∃ p, w.heap.size = p := ⟨_, rfl⟩
  rw [ep] at B0 ⊢
  have HP := Lib.hid (show w.heap.size ≤ p ∧ p < w1.heap.size by have := (Array.getElem?_eq_some_iff.1 B0.out).1; omega)
  clear ep
  by_cases h60 : s[0] = 60
  · have e0 : ((s[0].toNat : Int) == 60) = true := byte_eq 60 (by omega) h60
    have HI := Lib.hid (show oneS s.data.toList = incS (s.data.toList.drop 1) by unfold oneS; rw [if_pos (by rw [head_at h0, h60])])
    clear h60
    by_cases h124 : ∃ h : 1 < s.size, s[1] = 124
    · obtain ⟨h1, hb⟩ := h124
      have e1 : ((s[1].toNat : Int) == 124) = true := byte_eq 124 (by omega) hb
      have HI2 := Lib.hid (show oneS s.data.toList = if (trQ (s.data.toList.drop 2)).isEmpty then .error 3 else .ok ⟨3, 0, trQ (s.data.toList.drop 2), [], [], 0, [], [], false, true⟩ by
        rw [HI.out]; unfold incS; rw [if_pos (by rw [List.head?_drop]; rw [list_at h1, hb]), List.drop_drop])
      have CT := Lib.hid (fun w => dTrim19 (s.extract 2 s.size) w (by simp; omega))
      rw [ex_drop] at CT
      clear hb HI
      go_upto_region 4 with (go_at_call 22; (with_reducible refine (CT.out _).mono ?_); rintro e w2 ⟨⟨t, rfl, ht, hz⟩, g2⟩; have HT := Lib.hid ht; have HZ := Lib.hid hz; have G2 := Lib.hid (G0.out.trans g2); have B2 := Lib.hid (kept_at g2 B0.out); clear g2 ht hz)
      have gb := World.grownBy_alloc w2 (.cells #[.int .i64 3, .int .i64 0, .string t, .slice none 0 0, .slice none 0 0, .int .i64 0, .string ⟨#[]⟩, .string ⟨#[]⟩, .bool false, .bool true] 52) none
      have BQ := Lib.hid (heap_alloc_new w2 (.cells #[.int .i64 3, .int .i64 0, .string t, .slice none 0 0, .slice none 0 0, .int .i64 0, .string ⟨#[]⟩, .string ⟨#[]⟩, .bool false, .bool true] 52))
      have BP := Lib.hid (kept_at gb B2.out)
      have G3 := Lib.hid (G2.out.trans gb)
      clear gb
      generalize w2.alloc _ = w3 at BQ BP G3 ⊢
      obtain ⟨q, eq⟩ : ∃ q, w2.heap.size = q := ⟨_, rfl⟩
      rw [eq] at BQ ⊢
      have HPQ := Lib.hid (show w.heap.size ≤ p ∧ w.heap.size ≤ q ∧ p ≠ q by have := (Array.getElem?_eq_some_iff.1 B2.out).1; have := HP.out; have := G2.out.size; omega)
      clear eq CT
      obtain ⟨a0, a1, a2, a3, a4, a5, a6, a7, a8, a9⟩ := ten_at BQ.out
      have fa := free_at BQ.out
      obtain ⟨b0, b1, b2, b3, b4, b5, b6, b7, b8, b9⟩ := ten_at BP.out
      have fb := free_at BP.out
      have hz3 : t.size ≤ s.size := Nat.le_trans HZ.out (by simp)
      by_cases ht0 : t.size = 0
      · have HE := Lib.hid (show oneS s.data.toList = .error 3 by rw [HI2.out, if_pos (by rw [← HT.out, none_a (by omega)]; rfl)])
        go_wp2
        refine bodyPost_ret (back_ten 52 Tryz.underlying52 sizeSm Tryz.results23 rfl rfl (set_ten BP.out _ _ _ _ _ _ _ _ _ _)) rfl ?_
        exact ⟨grown_ten G3.out HPQ.out.1 _ _ _ _ _ _ _ _ _ _, by rw [HE.out]; rfl⟩
      · have HE := Lib.hid (show oneS s.data.toList = .ok ⟨3, 0, t.data.toList, [], [], 0, [], [], false, true⟩ by rw [HI2.out, if_neg (by rw [← HT.out]; intro h; exact (full_a ht0).1 (List.isEmpty_iff.1 h)), HT.out])
        have e2 : ((t.size : Int) == 0) = false := by rw [beq_eq_false_iff_ne]; omega
        go_wp2
        refine bodyPost_ret (back_ten 52 Tryz.underlying52 sizeSm Tryz.results23 rfl rfl (set_ten BP.out _ _ _ _ _ _ _ _ _ _)) rfl ?_
        refine ⟨grown_ten G3.out HPQ.out.1 _ _ _ _ _ _ _ _ _ _, ?_⟩
        rw [HE.out]
        exact ⟨⟨3, 0, t, [], [], 0, ⟨#[]⟩, ⟨#[]⟩, false, true⟩, .slice none 0 0, .slice none 0 0, rfl, rfl, ⟨Nat.zero_le _, Nat.zero_le _, by show t.size ≤ 5000; omega, by show 0 < 256; omega, Nat.zero_le _, rfl, rfl⟩, ownRR_nil _ _ _ _, ownRR_nil _ _ _ _⟩
    · have HI2 := Lib.hid (show oneS s.data.toList = match wdQ [] [] (s.data.toList.drop 1) with | .error e => .error e | .ok L => if L.isEmpty then .error 3 else .ok ⟨3, 0, [], [], L, 0, [], [], false, false⟩ by
        have hne : ¬ (s.data.toList.drop 1).head? = some 124 := by
          rw [List.head?_drop]
          intro h
          have h1 : 1 < s.size := by have := (List.getElem?_eq_some_iff.1 h).1; rw [HLN.out] at this; exact this
          exact h124 ⟨h1, Option.some.inj ((list_at h1).symm.trans h)⟩
        rw [HI.out]; unfold incS; rw [if_neg hne]; rfl)
      have hgo : ¬ 1 < s.size ∨ (1 < s.size ∧ ∃ h : 1 < s.size, ((s[1].toNat : Int) == 124) = false) := by
        by_cases h1 : 1 < s.size
        · exact .inr ⟨h1, h1, byte_no 124 (by omega) (fun h => h124 ⟨h1, h⟩)⟩
        · exact .inl h1
      have CW := Lib.hid (fun w => dWords13O (s.extract 1 s.size) w (by simp; omega))
      rw [ex_drop] at CW
      clear HI h124
      obtain ⟨b0, b1, b2, b3, b4, b5, b6, b7, b8, b9⟩ := ten_at B0.out
      clear b0 b1 b2 b3 b4 b5 b6 b7 b8 b9
      rcases hgo with h1 | ⟨h1, h1', e1⟩
      all_goals
        go_wp2_with fail
        refine (CW.out _).mono ?_
        rintro e w2 ⟨g2, hout⟩
        have G2 := Lib.hid (G0.out.trans g2)
        have B2 := Lib.hid (kept_at g2 B0.out)
        obtain ⟨b0, b1, b2, b3, b4, b5, b6, b7, b8, b9⟩ := ten_at B2.out
        have fb := free_at B2.out
        have HPQ := Lib.hid HP.out
        cases hw : wdQ [] [] (s.data.toList.drop 1) with
        | error k =>
          rw [hw] at hout
          subst hout
          have hbd : ((k : Int) == 0) = false := by rw [beq_eq_false_iff_ne]; have := wd_bad _ (s.data.toList.drop 1) [] [] k (Nat.le_refl _) hw; omega
          have HE := Lib.hid (show oneS s.data.toList = .error k by rw [HI2.out, hw])
          clear hw g2 CW
          go_wp2
          refine bodyPost_ret (back_ten 52 Tryz.underlying52 sizeSm Tryz.results23 rfl rfl (set_ten B2.out _ _ _ _ _ _ _ _ _ _)) rfl ?_
          exact ⟨grown_ten G2.out HPQ.out.1 _ _ _ _ _ _ _ _ _ _, by rw [HE.out]; rfl⟩
        | ok L =>
          rw [hw] at hout
          obtain ⟨v, LB, rfl, ho, hl, hp⟩ := hout
          obtain ⟨va, vc, rfl⟩ := OwnRR.shape ho
          have HP2 := Lib.hid hp
          have HL := Lib.hid hl
          have HO := Lib.hid (OwnRR.up ho (show w.heap.size ≤ w1.heap.size from G0.out.size))
          by_cases hl0 : LB.length = 0
          · have HE := Lib.hid (show oneS s.data.toList = .error 3 by rw [HI2.out, hw, ← hp, List.length_eq_zero_iff.1 hl0]; rfl)
            have e3 : ((LB.length : Int) == 0) = true := by rw [hl0]; rfl
            clear hw g2 CW hp ho hl
            go_wp2
            refine bodyPost_ret (back_ten 52 Tryz.underlying52 sizeSm Tryz.results23 rfl rfl (set_ten B2.out _ _ _ _ _ _ _ _ _ _)) rfl ?_
            exact ⟨grown_ten G2.out HPQ.out.1 _ _ _ _ _ _ _ _ _ _, by rw [HE.out]; rfl⟩
          · have HE := Lib.hid (show oneS s.data.toList = .ok ⟨3, 0, [], [], L, 0, [], [], false, false⟩ by
              rw [HI2.out, hw]; simp only; rw [if_neg (by rw [← hp]; intro h; exact hl0 (by have := List.isEmpty_iff.1 h; simpa using congrArg List.length this))])
            have e3 : ((LB.length : Int) == 0) = false := by rw [beq_eq_false_iff_ne]; omega
            clear hw g2 CW hp ho hl
            go_wp2
            refine bodyPost_ret (back_ten 52 Tryz.underlying52 sizeSm Tryz.results23 rfl rfl (set_ten B2.out _ _ _ _ _ _ _ _ _ _)) rfl ?_
            refine ⟨grown_ten G2.out HPQ.out.1 _ _ _ _ _ _ _ _ _ _, ?_⟩
            rw [HE.out]
            exact ⟨⟨3, 0, ⟨#[]⟩, [], LB, 0, ⟨#[]⟩, ⟨#[]⟩, false, false⟩, .slice none 0 0, .slice va LB.length vc, rfl, by unfold Sb.q; rw [HP2.out]; rfl, ⟨Nat.zero_le _, by have := HL.out; show LB.length ≤ 5001; omega, Nat.zero_le _, by show 0 < 256; omega, Nat.zero_le _, rfl, rfl⟩, ownRR_nil _ _ _ _, OwnRR.setT HO.out B2.out (by decide) (by decide) _ _ _ _ _ _ _ _ _ _⟩
  · have e0 : ((s[0].toNat : Int) == 60) = false := byte_no 60 (by omega) h60
    have HI := Lib.hid (show oneS s.data.toList = match fnQ sgS s.data.toList with | none => .error (nonS s.data.toList) | some k => if s.data.toList[k]? = some 61 then asgS (s.data.toList.take k) (s.data.toList.drop (k + 1)) else rulS (s.data.toList.take k) (s.data.toList.drop (k + 1)) by
      unfold oneS; rw [if_neg (by rw [head_at h0]; intro h; exact h60 (Option.some.inj h))]; rfl)
    have CF := Lib.hid (fun w => dFind13 s ⟨#[58, 61]⟩ w (by omega) (by decide))
    rw [of_sg, fn_zero] at CF
    clear h60
    cases hf : fnQ sgS s.data.toList with
    | none =>
      rw [hf] at CF
      have HE := Lib.hid (show oneS s.data.toList = .error (nonS s.data.toList) by rw [HI.out, hf])
      have CW := Lib.hid (fun w => dWords13O s w (by omega))
      have HPQ := Lib.hid HP.out
      clear hf HI
      go_upto_region 15 with (go_at_call 42; (with_reducible refine (CF.out _).mono ?_); rintro e w2 ⟨rfl, g2⟩; have G2 := Lib.hid (G0.out.trans g2); have B2 := Lib.hid (kept_at g2 B0.out); clear g2)
      go_wp2_with fail
      refine (CW.out _).mono ?_
      rintro e w3 ⟨g3, hout⟩
      have G3 := Lib.hid (G2.out.trans g3)
      have B3 := Lib.hid (kept_at g3 B2.out)
      obtain ⟨b0, b1, b2, b3, b4, b5, b6, b7, b8, b9⟩ := ten_at B3.out
      have fb := free_at B3.out
      unfold nonS at HE
      cases hw : wdQ [] [] s.data.toList with
      | error k =>
        rw [hw] at hout HE
        subst hout
        have hbd : ((k : Int) == 0) = false := by rw [beq_eq_false_iff_ne]; have := wd_bad _ s.data.toList [] [] k (Nat.le_refl _) hw; omega
        clear hw g3 CW
        go_wp2
        refine bodyPost_ret (back_ten 52 Tryz.underlying52 sizeSm Tryz.results23 rfl rfl (set_ten B3.out _ _ _ _ _ _ _ _ _ _)) rfl ?_
        exact ⟨grown_ten G3.out HPQ.out.1 _ _ _ _ _ _ _ _ _ _, by rw [HE.out]; rfl⟩
      | ok L =>
        rw [hw] at hout HE
        obtain ⟨v, LB, rfl, ho, hl, hp⟩ := hout
        clear hw g3 CW ho hl hp
        go_wp2
        refine bodyPost_ret (back_ten 52 Tryz.underlying52 sizeSm Tryz.results23 rfl rfl (set_ten B3.out _ _ _ _ _ _ _ _ _ _)) rfl ?_
        exact ⟨grown_ten G3.out HPQ.out.1 _ _ _ _ _ _ _ _ _ _, by rw [HE.out]; rfl⟩
    | some k =>
      rw [hf] at CF
      obtain ⟨c, hc, hsg, hpl⟩ := fnQ_lt _ (Nat.le_refl _) hf
      have hk : k < s.size := by have := (List.getElem?_eq_some_iff.1 hc).1; rw [HLN.out] at this; exact this
      have hck : s[k] = c := Option.some.inj ((list_at hk).symm.trans hc)
      have HI2 := Lib.hid (show oneS s.data.toList = if s.data.toList[k]? = some 61 then asgS (s.data.toList.take k) (s.data.toList.drop (k + 1)) else rulS (s.data.toList.take k) (s.data.toList.drop (k + 1)) by rw [HI.out, hf])
      clear HI
      go_upto_region 19 with (go_at_call 42; (with_reducible refine (CF.out _).mono ?_); rintro e w2 ⟨rfl, g2⟩; have G2 := Lib.hid (G0.out.trans g2); have B2 := Lib.hid (kept_at g2 B0.out); clear g2)
      go_upto_region 20 with fail
      have gb := World.grownBy_alloc w2 (.cells #[.int .i64 2, .int .i64 0, .string ⟨#[]⟩, .slice none 0 0, .slice none 0 0, .int .i64 0, .string ⟨#[]⟩, .string ⟨#[]⟩, .bool false, .bool false] 52) none
      have BQ := Lib.hid (heap_alloc_new w2 (.cells #[.int .i64 2, .int .i64 0, .string ⟨#[]⟩, .slice none 0 0, .slice none 0 0, .int .i64 0, .string ⟨#[]⟩, .string ⟨#[]⟩, .bool false, .bool false] 52))
      have BP := Lib.hid (kept_at gb B2.out)
      have G3 := Lib.hid (G2.out.trans gb)
      clear gb
      generalize w2.alloc _ = w3 at BQ BP G3 ⊢
      obtain ⟨q, eq⟩ : ∃ q, w2.heap.size = q := ⟨_, rfl⟩
      rw [eq] at BQ ⊢
      have HPQ := Lib.hid (show w.heap.size ≤ p ∧ w.heap.size ≤ q ∧ p ≠ q by have := (Array.getElem?_eq_some_iff.1 B2.out).1; have := HP.out; have := G2.out.size; omega)
      obtain ⟨r, hr⟩ : ∃ r, s.extract (k + 1) s.size = r := ⟨_, rfl⟩
      have HR := Lib.hid (show r.data.toList = s.data.toList.drop (k + 1) by rw [← hr, ex_drop])
      have hrz : r.size ≤ 1000 := by rw [← hr]; simp; omega
      obtain ⟨a, ha⟩ : ∃ a, s.extract 0 k = a := ⟨_, rfl⟩
      have HA := Lib.hid (show a.data.toList = s.data.toList.take k by rw [← ha, ex_take])
      have haz : a.size ≤ 1000 := by rw [← ha]; simp; omega
      clear eq CF hf
      by_cases h61 : c = 61
      · have e61 : ((s[k].toNat : Int) == 61) = true := byte_eq 61 (by omega) (hck.trans h61)
        have HI3 := Lib.hid (show oneS s.data.toList = asgS a.data.toList r.data.toList by rw [HI2.out, hc, if_pos (by rw [h61]), HA.out, HR.out])
        clear h61 HI2 hc hsg hpl hck
        have CT := Lib.hid (fun w => dTrim19 a w (by omega))
        obtain ⟨a0, a1, a2, a3, a4, a5, a6, a7, a8, a9⟩ := ten_at BQ.out
        have fa := free_at BQ.out
        go_upto_region 24 with fail
        have BQ4 := Lib.hid (set_t0 BQ.out (.int .i64 1))
        have BP4 := Lib.hid (far_at BP.out HPQ.out.2.2 0 (.int .i64 1))
        have G4 := Lib.hid (grown_at1 G3.out 0 (.int .i64 1) HPQ.out.2.1)
        generalize w3.setCell _ _ = w4 at BQ4 BP4 G4 ⊢
        clear a0 a1 a2 a3 a4 a5 a6 a7 a8 a9 fa
        go_upto_region 25 with (go_at_call 22; (with_reducible refine (CT.out _).mono ?_); rintro e w5 ⟨⟨t, rfl, ht, hz⟩, g5⟩; have HT := Lib.hid ht; have HZ := Lib.hid hz; have G5 := Lib.hid (G4.out.trans g5); have BQ5 := Lib.hid (kept_at g5 BQ4.out); have BP5 := Lib.hid (kept_at g5 BP4.out); clear g5 ht hz; obtain ⟨a0, a1, a2, a3, a4, a5, a6, a7, a8, a9⟩ := ten_at BQ5.out; have fa := free_at BQ5.out)
        have BQ6 := Lib.hid (set_t2 BQ5.out (.string t))
        have BP6 := Lib.hid (far_at BP5.out HPQ.out.2.2 2 (.string t))
        have G6 := Lib.hid (grown_at1 G5.out 2 (.string t) HPQ.out.2.1)
        generalize w5.setCell _ _ = w6 at BQ6 BP6 G6 ⊢
        clear a0 a1 a2 a3 a4 a5 a6 a7 a8 a9 fa
        obtain ⟨a0, a1, a2, a3, a4, a5, a6, a7, a8, a9⟩ := ten_at BQ6.out
        have fa := free_at BQ6.out
        obtain ⟨b0, b1, b2, b3, b4, b5, b6, b7, b8, b9⟩ := ten_at BP6.out
        have fb := free_at BP6.out
        have hz6 : t.size ≤ 1000 := Nat.le_trans HZ.out haz
        have CN := Lib.hid (fun w => dName13 t w (by omega))
        cases hn : namQ t.data.toList with
        | false =>
          have hn2 : namQ (nmB t) = false := hn
          rw [hn2] at CN
          have HE := Lib.hid (show oneS s.data.toList = .error 4 by rw [HI3.out]; unfold asgS; rw [← HT.out, if_pos hn])
          clear hn hn2
          go_wp2_with (go_at_call 43; (with_reducible refine (CN.out _).mono ?_); rintro e w7 ⟨rfl, rfl⟩)
          refine bodyPost_ret (back_ten 52 Tryz.underlying52 sizeSm Tryz.results23 rfl rfl (set_ten BP6.out _ _ _ _ _ _ _ _ _ _)) rfl ?_
          exact ⟨grown_ten G6.out HPQ.out.1 _ _ _ _ _ _ _ _ _ _, by rw [HE.out]; rfl⟩
        | true =>
          have hn2 : namQ (nmB t) = true := hn
          rw [hn2] at CN
          have HI4 := Lib.hid (show oneS s.data.toList = match wdQ [] [] (hidS r.data.toList).2 with | .error e => .error e | .ok L => .ok ⟨1, 0, t.data.toList, [], L, 0, [], [], (hidS r.data.toList).1, false⟩ by
            rw [HI3.out]; unfold asgS; rw [← HT.out, if_neg (by rw [hn]; simp)]; rfl)
          have CF := Lib.hid (fun w => dFind13 r ⟨#[61]⟩ w (by omega) (by decide))
          rw [of_eq, fn_zero] at CF
          have ON := Lib.hid (fun u => ownRR_nil u w.heap.size 107 106)
          have HS := Lib.hid (show ([] : List (List Pb)).length ≤ 5001 ∧ t.size ≤ 5000 ∧ 0 < 256 ∧ (⟨#[]⟩ : ByteArray).size ≤ 5000 from ⟨Nat.zero_le _, by omega, by omega, Nat.zero_le _⟩)
          clear hn hn2 HI3
          cases hf : fnQ (· == 61) r.data.toList with
          | none =>
            rw [hf] at CF
            have HR2 := Lib.hid (show oneS s.data.toList = match wdQ [] [] r.data.toList with | .error e => .error e | .ok L => .ok ⟨1, 0, t.data.toList, [], L, 0, [], [], false, false⟩ by
              rw [HI4.out]; unfold hidS; rw [hf])
            clear hf HI4
            go_upto_region 53 with (first
              | (go_at_call 43; (with_reducible refine (CN.out _).mono ?_); rintro e w7 ⟨rfl, rfl⟩)
              | (go_at_call 42; (with_reducible refine (CF.out _).mono ?_); rintro e w8 ⟨rfl, g8⟩; have G8 := Lib.hid (G6.out.trans g8); have BQ8 := Lib.hid (kept_at g8 BQ6.out); have BP8 := Lib.hid (kept_at g8 BP6.out); clear g8))
            clear a0 a1 a2 a3 a4 a5 a6 a7 a8 a9 fa
            clear b0 b1 b2 b3 b4 b5 b6 b7 b8 b9 fb
            obtain ⟨a0, a1, a2, a3, a4, a5, a6, a7, a8, a9⟩ := ten_at BQ8.out
            have fa := free_at BQ8.out
            obtain ⟨b0, b1, b2, b3, b4, b5, b6, b7, b8, b9⟩ := ten_at BP8.out
            have fb := free_at BP8.out
            have ON8 := Lib.hid (ON.out w8)
            have CW := Lib.hid (dWords13O r w8 (by omega))
            go_wp2_with fail
            refine CW.out.mono ?_
            rintro e w90 ⟨g90, hout⟩
            have G90 := Lib.hid (G8.out.trans g90)
            have BQ90 := Lib.hid (kept_at g90 BQ8.out)
            have BP90 := Lib.hid (kept_at g90 BP8.out)
            have OH90 := Lib.hid (OwnRR.keep ON8.out g90)
            clear a0 a1 a2 a3 a4 a5 a6 a7 a8 a9 fa
            clear b0 b1 b2 b3 b4 b5 b6 b7 b8 b9 fb
            clear CW
            obtain ⟨a0, a1, a2, a3, a4, a5, a6, a7, a8, a9⟩ := ten_at BQ90.out
            have fa := free_at BQ90.out
            obtain ⟨b0, b1, b2, b3, b4, b5, b6, b7, b8, b9⟩ := ten_at BP90.out
            have fb := free_at BP90.out
            cases hw : wdQ [] [] r.data.toList with
            | error k =>
              rw [hw] at hout
              subst hout
              have hbd : ((k : Int) == 0) = false := by rw [beq_eq_false_iff_ne]; have := wd_bad r.data.toList.length r.data.toList [] [] k (Nat.le_refl _) hw; omega
              have HE := Lib.hid (show oneS s.data.toList = .error k by rw [HR2.out, hw])
              have BP91 := Lib.hid (far_at BP90.out HPQ.out.2.2 4 (.slice none 0 0))
              have G91 := Lib.hid (grown_at1 G90.out 4 (.slice none 0 0) HPQ.out.2.1)
              clear hw g90
              go_upto_region 54 with fail
              generalize w90.setCell _ _ = w91 at BP91 G91 ⊢
              clear a0 a1 a2 a3 a4 a5 a6 a7 a8 a9 fa
              clear b0 b1 b2 b3 b4 b5 b6 b7 b8 b9 fb
              obtain ⟨b0, b1, b2, b3, b4, b5, b6, b7, b8, b9⟩ := ten_at BP91.out
              have fb := free_at BP91.out
              go_wp2
              refine bodyPost_ret (back_ten 52 Tryz.underlying52 sizeSm Tryz.results23 rfl rfl (set_ten BP91.out _ _ _ _ _ _ _ _ _ _)) rfl ?_
              exact ⟨grown_ten G91.out HPQ.out.1 _ _ _ _ _ _ _ _ _ _, by rw [HE.out]; rfl⟩
            | ok L =>
              rw [hw] at hout
              obtain ⟨v, LW, rfl, ho, hl, hp⟩ := hout
              obtain ⟨ya, yc, rfl⟩ := OwnRR.shape ho
              have HE := Lib.hid (show oneS s.data.toList = .ok ⟨1, 0, (t : ByteArray).data.toList, pcLL [], L, 0, (⟨#[]⟩ : ByteArray).data.toList, [], false, false⟩ by rw [HR2.out, hw] <;> rfl)
              have HP2 := Lib.hid hp
              have BQ91 := Lib.hid (set_t4 BQ90.out (.slice ya LW.length yc))
              have BP91 := Lib.hid (far_at BP90.out HPQ.out.2.2 4 (.slice ya LW.length yc))
              have G91 := Lib.hid (grown_at1 G90.out 4 (.slice ya LW.length yc) HPQ.out.2.1)
              have OH91 := Lib.hid (OwnRR.set OH90.out BQ90.out (by decide) (by decide) 4 (.slice ya LW.length yc))
              have OW91 := Lib.hid (OwnRR.set (OwnRR.up ho (show w.heap.size ≤ w8.heap.size from G8.out.size)) BQ90.out (by decide) (by decide) 4 (.slice ya LW.length yc))
              have HL := Lib.hid hl
              clear hw g90 ho hp hl
              go_upto_region 54 with fail
              generalize w90.setCell _ _ = w91 at BQ91 BP91 G91 OH91 OW91 ⊢
              clear a0 a1 a2 a3 a4 a5 a6 a7 a8 a9 fa
              clear b0 b1 b2 b3 b4 b5 b6 b7 b8 b9 fb
              obtain ⟨a0, a1, a2, a3, a4, a5, a6, a7, a8, a9⟩ := ten_at BQ91.out
              have fa := free_at BQ91.out
              obtain ⟨b0, b1, b2, b3, b4, b5, b6, b7, b8, b9⟩ := ten_at BP91.out
              have fb := free_at BP91.out
              go_wp2
              refine bodyPost_ret (back_ten 52 Tryz.underlying52 sizeSm Tryz.results23 rfl rfl (set_ten BP91.out _ _ _ _ _ _ _ _ _ _)) rfl ?_
              refine ⟨grown_ten G91.out HPQ.out.1 _ _ _ _ _ _ _ _ _ _, ?_⟩
              rw [HE.out]
              exact ⟨⟨1, 0, t, [], LW, 0, ⟨#[]⟩, ⟨#[]⟩, false, false⟩, (.slice none 0 0), .slice ya LW.length yc, rfl, by unfold Sb.q; rw [HP2.out] <;> rfl, ⟨HS.out.1, by have := HL.out; show LW.length ≤ 5001; omega, HS.out.2.1, HS.out.2.2.1, HS.out.2.2.2, rfl, rfl⟩,
                OwnRR.setT OH91.out BP91.out (by decide) (by decide) _ _ _ _ _ _ _ _ _ _, OwnRR.setT OW91.out BP91.out (by decide) (by decide) _ _ _ _ _ _ _ _ _ _⟩
          | some j =>
            rw [hf] at CF
            obtain ⟨c2, hc2, -, -⟩ := fnQ_lt _ (Nat.le_refl _) hf
            have hj : j < r.size := by have h1 := (List.getElem?_eq_some_iff.1 hc2).1; have h2 : r.data.toList.length = r.size := by simp
                                       rw [h2] at h1; exact h1
            obtain ⟨r2, hr2⟩ : ∃ r2, r.extract 0 j = r2 := ⟨_, rfl⟩
            have HR2 := Lib.hid (show r2.data.toList = r.data.toList.take j by rw [← hr2, ex_take])
            have hr2z : r2.size ≤ 1000 := by rw [← hr2]; simp; omega
            have CT2 := Lib.hid (fun w => dTrim19 r2 w (by omega))
            have HH := Lib.hid (show hidS r.data.toList = if allU (trQ r2.data.toList) then (true, r.data.toList.drop (j + 1)) else (false, r.data.toList) by unfold hidS; rw [hf, HR2.out])
            clear hf hc2
            go_upto_region 30 with (first
              | (go_at_call 43; (with_reducible refine (CN.out _).mono ?_); rintro e w7 ⟨rfl, rfl⟩)
              | (go_at_call 42; (with_reducible refine (CF.out _).mono ?_); rintro e w8 ⟨rfl, g8⟩; have G8 := Lib.hid (G6.out.trans g8); have BQ8 := Lib.hid (kept_at g8 BQ6.out); have BP8 := Lib.hid (kept_at g8 BP6.out); clear g8)
              | (go_at_call 22; (with_reducible refine (CT2.out _).mono ?_); rintro e w9 ⟨⟨m, rfl, hm, hmz⟩, g9⟩; have HM := Lib.hid hm; have HMZ := Lib.hid hmz; have G9 := Lib.hid (G8.out.trans g9); have BQ9 := Lib.hid (kept_at g9 BQ8.out); have BP9 := Lib.hid (kept_at g9 BP8.out); clear g9 hm hmz))
            clear a0 a1 a2 a3 a4 a5 a6 a7 a8 a9 fa
            clear b0 b1 b2 b3 b4 b5 b6 b7 b8 b9 fb
            have hmz2 : m.size ≤ 1000 := Nat.le_trans HMZ.out hr2z
            have ML := Lib.hid (show m.data.toList.length = m.size by simp)
            go_wp2
            go_loopw [15, 16] (fun all_ i_ wi => ∃ (i : Nat) (z : Bool), i ≤ m.size ∧ i_ = .int .i64 i ∧ all_ = .bool z ∧ Hid (z = (decide (0 < m.size) && (m.data.toList.take i).all (· == 85))) ∧ Hid (w9 = wi)) (fun _ i_ _ => m.size - (intOf i_).toNat)
            case atStart => exact ⟨0, decide (0 < m.size), Nat.zero_le _, rfl, by first | rfl | (congr 1; simp), Lib.hid (by simp), Lib.hid rfl⟩
            case round =>
              obtain ⟨i, z, hi, rfl, rfl, hZ, hW9⟩ := hrel
              have hw9 := hW9.out
              subst hw9
              by_cases hlt : i < m.size
              · have HT2 := Lib.hid (show (m.data.toList.take (i + 1)).all (· == 85) = ((m.data.toList.take i).all (· == 85) && (m[i] == 85)) by
                  rw [List.take_add_one, list_at hlt]; simp)
                have hbb : ∃ y : Bool, ((m[i].toNat : Int) == 85) = y ∧ (m[i] == 85) = y := by
                  by_cases h : m[i] = 85
                  · exact ⟨true, byte_eq 85 (by omega) h, by simpa using h⟩
                  · exact ⟨false, byte_no 85 (by omega) h, by simpa using h⟩
                obtain ⟨y, y1, y2⟩ := hbb
                have HZ2 := Lib.hid (show (z && y) = (decide (0 < m.size) && (m.data.toList.take (i + 1)).all (· == 85)) by rw [HT2.out, y2, hZ.out, Bool.and_assoc])
                clear hZ y2
                cases z <;> cases y
                all_goals
                  go_wp2
                  go_roundw
                  case rel => exact ⟨i + 1, _, by omega, by go_num, rfl, HZ2, by first | exact Lib.hid rfl | exact Lib.hid trivial⟩
                  case measure => simp [intOf]; omega
              · have HU := Lib.hid (show z = allU (trQ r2.data.toList) by
                  rw [hZ.out, ← HM.out, List.take_of_length_le (by rw [ML.out]; omega)]
                  unfold allU
                  congr 1
                  rw [Bool.eq_iff_iff, decide_eq_true_eq]
                  constructor
                  · intro h; simp; intro h2; have := ML.out; rw [h2] at this; simp at this; omega
                  · intro h; rcases Nat.eq_zero_or_pos m.size with h2 | h2
                    · rw [none_a (by omega)] at h; simp at h
                    · exact h2)
                cases z with
                | false =>
                  have HR3 := Lib.hid (show oneS s.data.toList = match wdQ [] [] r.data.toList with | .error e => .error e | .ok L => .ok ⟨1, 0, t.data.toList, [], L, 0, [], [], false, false⟩ by
                    rw [HI4.out, HH.out, ← HU.out]; rfl)
                  obtain ⟨a0, a1, a2, a3, a4, a5, a6, a7, a8, a9⟩ := ten_at BQ9.out
                  have fa := free_at BQ9.out
                  obtain ⟨b0, b1, b2, b3, b4, b5, b6, b7, b8, b9⟩ := ten_at BP9.out
                  have fb := free_at BP9.out
                  have ON9 := Lib.hid (ON.out w9)
                  have CW := Lib.hid (dWords13O r w9 (by omega))
                  go_wp2_with fail
                  refine CW.out.mono ?_
                  rintro e w90 ⟨g90, hout⟩
                  have G90 := Lib.hid (G9.out.trans g90)
                  have BQ90 := Lib.hid (kept_at g90 BQ9.out)
                  have BP90 := Lib.hid (kept_at g90 BP9.out)
                  have OH90 := Lib.hid (OwnRR.keep ON9.out g90)
                  clear a0 a1 a2 a3 a4 a5 a6 a7 a8 a9 fa
                  clear b0 b1 b2 b3 b4 b5 b6 b7 b8 b9 fb
                  clear CW
                  obtain ⟨a0, a1, a2, a3, a4, a5, a6, a7, a8, a9⟩ := ten_at BQ90.out
                  have fa := free_at BQ90.out
                  obtain ⟨b0, b1, b2, b3, b4, b5, b6, b7, b8, b9⟩ := ten_at BP90.out
                  have fb := free_at BP90.out
                  cases hw : wdQ [] [] r.data.toList with
                  | error k =>
                    rw [hw] at hout
                    subst hout
                    have hbd : ((k : Int) == 0) = false := by rw [beq_eq_false_iff_ne]; have := wd_bad r.data.toList.length r.data.toList [] [] k (Nat.le_refl _) hw; omega
                    have HE := Lib.hid (show oneS s.data.toList = .error k by rw [HR3.out, hw])
                    have BP91 := Lib.hid (far_at BP90.out HPQ.out.2.2 4 (.slice none 0 0))
                    have G91 := Lib.hid (grown_at1 G90.out 4 (.slice none 0 0) HPQ.out.2.1)
                    clear hw g90
                    go_upto_region 54 with fail
                    generalize w90.setCell _ _ = w91 at BP91 G91 ⊢
                    clear a0 a1 a2 a3 a4 a5 a6 a7 a8 a9 fa
                    clear b0 b1 b2 b3 b4 b5 b6 b7 b8 b9 fb
                    obtain ⟨b0, b1, b2, b3, b4, b5, b6, b7, b8, b9⟩ := ten_at BP91.out
                    have fb := free_at BP91.out
                    go_wp2
                    refine bodyPost_ret (back_ten 52 Tryz.underlying52 sizeSm Tryz.results23 rfl rfl (set_ten BP91.out _ _ _ _ _ _ _ _ _ _)) rfl ?_
                    exact ⟨grown_ten G91.out HPQ.out.1 _ _ _ _ _ _ _ _ _ _, by rw [HE.out]; rfl⟩
                  | ok L =>
                    rw [hw] at hout
                    obtain ⟨v, LW, rfl, ho, hl, hp⟩ := hout
                    obtain ⟨ya, yc, rfl⟩ := OwnRR.shape ho
                    have HE := Lib.hid (show oneS s.data.toList = .ok ⟨1, 0, (t : ByteArray).data.toList, pcLL [], L, 0, (⟨#[]⟩ : ByteArray).data.toList, [], false, false⟩ by rw [HR3.out, hw] <;> rfl)
                    have HP2 := Lib.hid hp
                    have BQ91 := Lib.hid (set_t4 BQ90.out (.slice ya LW.length yc))
                    have BP91 := Lib.hid (far_at BP90.out HPQ.out.2.2 4 (.slice ya LW.length yc))
                    have G91 := Lib.hid (grown_at1 G90.out 4 (.slice ya LW.length yc) HPQ.out.2.1)
                    have OH91 := Lib.hid (OwnRR.set OH90.out BQ90.out (by decide) (by decide) 4 (.slice ya LW.length yc))
                    have OW91 := Lib.hid (OwnRR.set (OwnRR.up ho (show w.heap.size ≤ w9.heap.size from G9.out.size)) BQ90.out (by decide) (by decide) 4 (.slice ya LW.length yc))
                    have HL := Lib.hid hl
                    clear hw g90 ho hp hl
                    go_upto_region 54 with fail
                    generalize w90.setCell _ _ = w91 at BQ91 BP91 G91 OH91 OW91 ⊢
                    clear a0 a1 a2 a3 a4 a5 a6 a7 a8 a9 fa
                    clear b0 b1 b2 b3 b4 b5 b6 b7 b8 b9 fb
                    obtain ⟨a0, a1, a2, a3, a4, a5, a6, a7, a8, a9⟩ := ten_at BQ91.out
                    have fa := free_at BQ91.out
                    obtain ⟨b0, b1, b2, b3, b4, b5, b6, b7, b8, b9⟩ := ten_at BP91.out
                    have fb := free_at BP91.out
                    go_wp2
                    refine bodyPost_ret (back_ten 52 Tryz.underlying52 sizeSm Tryz.results23 rfl rfl (set_ten BP91.out _ _ _ _ _ _ _ _ _ _)) rfl ?_
                    refine ⟨grown_ten G91.out HPQ.out.1 _ _ _ _ _ _ _ _ _ _, ?_⟩
                    rw [HE.out]
                    exact ⟨⟨1, 0, t, [], LW, 0, ⟨#[]⟩, ⟨#[]⟩, false, false⟩, (.slice none 0 0), .slice ya LW.length yc, rfl, by unfold Sb.q; rw [HP2.out] <;> rfl, ⟨HS.out.1, by have := HL.out; show LW.length ≤ 5001; omega, HS.out.2.1, HS.out.2.2.1, HS.out.2.2.2, rfl, rfl⟩,
                      OwnRR.setT OH91.out BP91.out (by decide) (by decide) _ _ _ _ _ _ _ _ _ _, OwnRR.setT OW91.out BP91.out (by decide) (by decide) _ _ _ _ _ _ _ _ _ _⟩
                | true =>
                  obtain ⟨r5, hr5⟩ : ∃ r5, r.extract (j + 1) r.size = r5 := ⟨_, rfl⟩
                  have hr5z : r5.size ≤ 1000 := by rw [← hr5]; simp; omega
                  have HR3 := Lib.hid (show oneS s.data.toList = match wdQ [] [] r5.data.toList with | .error e => .error e | .ok L => .ok ⟨1, 0, t.data.toList, [], L, 0, [], [], true, false⟩ by
                    rw [HI4.out, HH.out, ← HU.out, ← hr5, ex_drop]; rfl)
                  obtain ⟨a0, a1, a2, a3, a4, a5, a6, a7, a8, a9⟩ := ten_at BQ9.out
                  have fa := free_at BQ9.out
                  obtain ⟨b0, b1, b2, b3, b4, b5, b6, b7, b8, b9⟩ := ten_at BP9.out
                  have fb := free_at BP9.out
                  go_upto_region 37 with fail
                  have BQ10 := Lib.hid (set_t8 BQ9.out (.bool true))
                  have BP10 := Lib.hid (far_at BP9.out HPQ.out.2.2 8 (.bool true))
                  have G10 := Lib.hid (grown_at1 G9.out 8 (.bool true) HPQ.out.2.1)
                  generalize w9.setCell _ _ = w10 at BQ10 BP10 G10 ⊢
                  clear a0 a1 a2 a3 a4 a5 a6 a7 a8 a9 fa
                  clear b0 b1 b2 b3 b4 b5 b6 b7 b8 b9 fb
                  obtain ⟨a0, a1, a2, a3, a4, a5, a6, a7, a8, a9⟩ := ten_at BQ10.out
                  have fa := free_at BQ10.out
                  obtain ⟨b0, b1, b2, b3, b4, b5, b6, b7, b8, b9⟩ := ten_at BP10.out
                  have fb := free_at BP10.out
                  have ON10 := Lib.hid (ON.out w10)
                  have CW := Lib.hid (dWords13O r5 w10 (by omega))
                  go_wp2_with fail
                  refine CW.out.mono ?_
                  rintro e w90 ⟨g90, hout⟩
                  have G90 := Lib.hid (G10.out.trans g90)
                  have BQ90 := Lib.hid (kept_at g90 BQ10.out)
                  have BP90 := Lib.hid (kept_at g90 BP10.out)
                  have OH90 := Lib.hid (OwnRR.keep ON10.out g90)
                  clear a0 a1 a2 a3 a4 a5 a6 a7 a8 a9 fa
                  clear b0 b1 b2 b3 b4 b5 b6 b7 b8 b9 fb
                  clear CW
                  obtain ⟨a0, a1, a2, a3, a4, a5, a6, a7, a8, a9⟩ := ten_at BQ90.out
                  have fa := free_at BQ90.out
                  obtain ⟨b0, b1, b2, b3, b4, b5, b6, b7, b8, b9⟩ := ten_at BP90.out
                  have fb := free_at BP90.out
                  cases hw : wdQ [] [] r5.data.toList with
                  | error k =>
                    rw [hw] at hout
                    subst hout
                    have hbd : ((k : Int) == 0) = false := by rw [beq_eq_false_iff_ne]; have := wd_bad r5.data.toList.length r5.data.toList [] [] k (Nat.le_refl _) hw; omega
                    have HE := Lib.hid (show oneS s.data.toList = .error k by rw [HR3.out, hw])
                    have BP91 := Lib.hid (far_at BP90.out HPQ.out.2.2 4 (.slice none 0 0))
                    have G91 := Lib.hid (grown_at1 G90.out 4 (.slice none 0 0) HPQ.out.2.1)
                    clear hw g90
                    go_upto_region 54 with fail
                    generalize w90.setCell _ _ = w91 at BP91 G91 ⊢
                    clear a0 a1 a2 a3 a4 a5 a6 a7 a8 a9 fa
                    clear b0 b1 b2 b3 b4 b5 b6 b7 b8 b9 fb
                    obtain ⟨b0, b1, b2, b3, b4, b5, b6, b7, b8, b9⟩ := ten_at BP91.out
                    have fb := free_at BP91.out
                    go_wp2
                    refine bodyPost_ret (back_ten 52 Tryz.underlying52 sizeSm Tryz.results23 rfl rfl (set_ten BP91.out _ _ _ _ _ _ _ _ _ _)) rfl ?_
                    exact ⟨grown_ten G91.out HPQ.out.1 _ _ _ _ _ _ _ _ _ _, by rw [HE.out]; rfl⟩
                  | ok L =>
                    rw [hw] at hout
                    obtain ⟨v, LW, rfl, ho, hl, hp⟩ := hout
                    obtain ⟨ya, yc, rfl⟩ := OwnRR.shape ho
                    have HE := Lib.hid (show oneS s.data.toList = .ok ⟨1, 0, (t : ByteArray).data.toList, pcLL [], L, 0, (⟨#[]⟩ : ByteArray).data.toList, [], true, false⟩ by rw [HR3.out, hw] <;> rfl)
                    have HP2 := Lib.hid hp
                    have BQ91 := Lib.hid (set_t4 BQ90.out (.slice ya LW.length yc))
                    have BP91 := Lib.hid (far_at BP90.out HPQ.out.2.2 4 (.slice ya LW.length yc))
                    have G91 := Lib.hid (grown_at1 G90.out 4 (.slice ya LW.length yc) HPQ.out.2.1)
                    have OH91 := Lib.hid (OwnRR.set OH90.out BQ90.out (by decide) (by decide) 4 (.slice ya LW.length yc))
                    have OW91 := Lib.hid (OwnRR.set (OwnRR.up ho (show w.heap.size ≤ w10.heap.size from G10.out.size)) BQ90.out (by decide) (by decide) 4 (.slice ya LW.length yc))
                    have HL := Lib.hid hl
                    clear hw g90 ho hp hl
                    go_upto_region 54 with fail
                    generalize w90.setCell _ _ = w91 at BQ91 BP91 G91 OH91 OW91 ⊢
                    clear a0 a1 a2 a3 a4 a5 a6 a7 a8 a9 fa
                    clear b0 b1 b2 b3 b4 b5 b6 b7 b8 b9 fb
                    obtain ⟨a0, a1, a2, a3, a4, a5, a6, a7, a8, a9⟩ := ten_at BQ91.out
                    have fa := free_at BQ91.out
                    obtain ⟨b0, b1, b2, b3, b4, b5, b6, b7, b8, b9⟩ := ten_at BP91.out
                    have fb := free_at BP91.out
                    go_wp2
                    refine bodyPost_ret (back_ten 52 Tryz.underlying52 sizeSm Tryz.results23 rfl rfl (set_ten BP91.out _ _ _ _ _ _ _ _ _ _)) rfl ?_
                    refine ⟨grown_ten G91.out HPQ.out.1 _ _ _ _ _ _ _ _ _ _, ?_⟩
                    rw [HE.out]
                    exact ⟨⟨1, 0, t, [], LW, 0, ⟨#[]⟩, ⟨#[]⟩, true, false⟩, (.slice none 0 0), .slice ya LW.length yc, rfl, by unfold Sb.q; rw [HP2.out] <;> rfl, ⟨HS.out.1, by have := HL.out; show LW.length ≤ 5001; omega, HS.out.2.1, HS.out.2.2.1, HS.out.2.2.2, rfl, rfl⟩,
                      OwnRR.setT OH91.out BP91.out (by decide) (by decide) _ _ _ _ _ _ _ _ _ _, OwnRR.setT OW91.out BP91.out (by decide) (by decide) _ _ _ _ _ _ _ _ _ _⟩
      · have hc58 : c = 58 := by
          unfold sgS at hsg
          rw [Bool.or_eq_true, beq_iff_eq, beq_iff_eq] at hsg
          exact hsg.resolve_right h61
        have e61 : ((s[k].toNat : Int) == 61) = false := byte_no 61 (by omega) (fun h => h61 (hck.symm.trans h))
        have HI3 := Lib.hid (show oneS s.data.toList = rulS a.data.toList r.data.toList by rw [HI2.out, hc, if_neg (by intro h; exact h61 (Option.some.inj h)), HA.out, HR.out])
        clear h61 HI2 hc hsg hpl hck hc58
        have CW := Lib.hid (dWords13O a w3 (by omega))
        obtain ⟨a0, a1, a2, a3, a4, a5, a6, a7, a8, a9⟩ := ten_at BQ.out
        have fa := free_at BQ.out
        obtain ⟨b0, b1, b2, b3, b4, b5, b6, b7, b8, b9⟩ := ten_at BP.out
        have fb := free_at BP.out
        go_wp2_with fail
        refine CW.out.mono ?_
        rintro e w4 ⟨g4, hout⟩
        have G4 := Lib.hid (G3.out.trans g4)
        have BQ4 := Lib.hid (kept_at g4 BQ.out)
        have BP4 := Lib.hid (kept_at g4 BP.out)
        clear a0 a1 a2 a3 a4 a5 a6 a7 a8 a9 fa
        clear b0 b1 b2 b3 b4 b5 b6 b7 b8 b9 fb
        clear CW
        obtain ⟨a0, a1, a2, a3, a4, a5, a6, a7, a8, a9⟩ := ten_at BQ4.out
        have fa := free_at BQ4.out
        obtain ⟨b0, b1, b2, b3, b4, b5, b6, b7, b8, b9⟩ := ten_at BP4.out
        have fb := free_at BP4.out
        cases hw : wdQ [] [] a.data.toList with
        | error k =>
          rw [hw] at hout
          subst hout
          have hbd : ((k : Int) == 0) = false := by rw [beq_eq_false_iff_ne]; have := wd_bad _ a.data.toList [] [] k (Nat.le_refl _) hw; omega
          have HE := Lib.hid (show oneS s.data.toList = .error k by rw [HI3.out]; unfold rulS; rw [hw])
          have BP5 := Lib.hid (far_at BP4.out HPQ.out.2.2 3 (.slice none 0 0))
          have BQ5 := Lib.hid (set_t3 BQ4.out (.slice none 0 0))
          have G5 := Lib.hid (grown_at1 G4.out 3 (.slice none 0 0) HPQ.out.2.1)
          clear hw g4
          go_upto_region 39 with fail
          generalize w4.setCell _ _ = w5 at BP5 BQ5 G5 ⊢
          clear a0 a1 a2 a3 a4 a5 a6 a7 a8 a9 fa
          clear b0 b1 b2 b3 b4 b5 b6 b7 b8 b9 fb
          obtain ⟨a0, a1, a2, a3, a4, a5, a6, a7, a8, a9⟩ := ten_at BQ5.out
          have fa := free_at BQ5.out
          obtain ⟨b0, b1, b2, b3, b4, b5, b6, b7, b8, b9⟩ := ten_at BP5.out
          have fb := free_at BP5.out
          go_wp2
          refine bodyPost_ret (back_ten 52 Tryz.underlying52 sizeSm Tryz.results23 rfl rfl (set_ten BP5.out _ _ _ _ _ _ _ _ _ _)) rfl ?_
          exact ⟨grown_ten G5.out HPQ.out.1 _ _ _ _ _ _ _ _ _ _, by rw [HE.out]; rfl⟩
        | ok H =>
          rw [hw] at hout
          obtain ⟨hv, LB, rfl, ho, hl, hp⟩ := hout
          obtain ⟨va, vc, rfl⟩ := OwnRR.shape ho
          have HP2 := Lib.hid hp
          have HL := Lib.hid hl
          have BP5 := Lib.hid (far_at BP4.out HPQ.out.2.2 3 (.slice va LB.length vc))
          have BQ5 := Lib.hid (set_t3 BQ4.out (.slice va LB.length vc))
          have G5 := Lib.hid (grown_at1 G4.out 3 (.slice va LB.length vc) HPQ.out.2.1)
          have OH5 := Lib.hid (OwnRR.set (OwnRR.up ho (show w.heap.size ≤ w3.heap.size from G3.out.size)) BQ4.out (by decide) (by decide) 3 (.slice va LB.length vc))
          have HI4 := Lib.hid (show oneS s.data.toList = if (pcLL LB).isEmpty then .error 3 else match atrS r.data.toList with | .error e => .error e | .ok x => match wdQ [] [] x.2.2 with | .error e => .error e | .ok L => .ok ⟨2, 0, [], pcLL LB, L, x.1, x.2.1, [], false, false⟩ by
            rw [HI3.out]; unfold rulS; rw [hw, HP2.out]; rfl)
          clear hw g4 ho hp hl HI3
          go_upto_region 39 with fail
          generalize w4.setCell _ _ = w5 at BP5 BQ5 G5 OH5 ⊢
          clear a0 a1 a2 a3 a4 a5 a6 a7 a8 a9 fa
          clear b0 b1 b2 b3 b4 b5 b6 b7 b8 b9 fb
          obtain ⟨a0, a1, a2, a3, a4, a5, a6, a7, a8, a9⟩ := ten_at BQ5.out
          have fa := free_at BQ5.out
          obtain ⟨b0, b1, b2, b3, b4, b5, b6, b7, b8, b9⟩ := ten_at BP5.out
          have fb := free_at BP5.out
          by_cases hl0 : LB.length = 0
          · have HE := Lib.hid (show oneS s.data.toList = .error 3 by rw [HI4.out, List.length_eq_zero_iff.1 hl0]; rfl)
            have e3 : ((LB.length : Int) == 0) = true := by rw [hl0]; rfl
            go_wp2
            refine bodyPost_ret (back_ten 52 Tryz.underlying52 sizeSm Tryz.results23 rfl rfl (set_ten BP5.out _ _ _ _ _ _ _ _ _ _)) rfl ?_
            exact ⟨grown_ten G5.out HPQ.out.1 _ _ _ _ _ _ _ _ _ _, by rw [HE.out]; rfl⟩
          have HI5 := Lib.hid (show oneS s.data.toList = match atrS r.data.toList with | .error e => .error e | .ok x => match wdQ [] [] x.2.2 with | .error e => .error e | .ok L => .ok ⟨2, 0, [], pcLL LB, L, x.1, x.2.1, [], false, false⟩ by
            rw [HI4.out, if_neg (by intro h; exact hl0 (by have := List.isEmpty_iff.1 h; simpa using congrArg List.length this))])
          have e3 : ((LB.length : Int) == 0) = false := by rw [beq_eq_false_iff_ne]; omega
          have HS := Lib.hid (show LB.length ≤ 5001 ∧ (⟨#[]⟩ : ByteArray).size ≤ 5000 ∧ 0 < 256 ∧ (⟨#[]⟩ : ByteArray).size ≤ 5000 from ⟨HL.out, Nat.zero_le _, by omega, Nat.zero_le _⟩)
          clear hl0 HI4
          by_cases hr0 : 0 < r.size
          · cases hbt : btQ r[0] with
            | true =>
              have HR2 := Lib.hid (show oneS s.data.toList = match wdQ [] [] r.data.toList with | .error e => .error e | .ok L => .ok ⟨2, 0, [], pcLL LB, L, 0, [], [], false, false⟩ by
                rw [HI5.out]; unfold atrS
                rw [if_pos (by rw [cons_a hr0]; show (false || btQ r[0]) = true; rw [hbt]; rfl)] <;> rfl)
              have CG := Lib.hid (fun w => hbt ▸ dGap r[0] w)
              clear hbt
              go_upto_region 53 with (go_at_call 40; (with_reducible refine (CG.out _).mono ?_); rintro e w6 ⟨rfl, rfl⟩)
              have CW := Lib.hid (dWords13O r w5 (by omega))
              go_wp2_with fail
              refine CW.out.mono ?_
              rintro e w90 ⟨g90, hout⟩
              have G90 := Lib.hid (G5.out.trans g90)
              have BQ90 := Lib.hid (kept_at g90 BQ5.out)
              have BP90 := Lib.hid (kept_at g90 BP5.out)
              have OH90 := Lib.hid (OwnRR.keep OH5.out g90)
              clear a0 a1 a2 a3 a4 a5 a6 a7 a8 a9 fa
              clear b0 b1 b2 b3 b4 b5 b6 b7 b8 b9 fb
              clear CW
              obtain ⟨a0, a1, a2, a3, a4, a5, a6, a7, a8, a9⟩ := ten_at BQ90.out
              have fa := free_at BQ90.out
              obtain ⟨b0, b1, b2, b3, b4, b5, b6, b7, b8, b9⟩ := ten_at BP90.out
              have fb := free_at BP90.out
              cases hw : wdQ [] [] r.data.toList with
              | error k =>
                rw [hw] at hout
                subst hout
                have hbd : ((k : Int) == 0) = false := by rw [beq_eq_false_iff_ne]; have := wd_bad r.data.toList.length r.data.toList [] [] k (Nat.le_refl _) hw; omega
                have HE := Lib.hid (show oneS s.data.toList = .error k by rw [HR2.out, hw])
                have BP91 := Lib.hid (far_at BP90.out HPQ.out.2.2 4 (.slice none 0 0))
                have G91 := Lib.hid (grown_at1 G90.out 4 (.slice none 0 0) HPQ.out.2.1)
                clear hw g90
                go_upto_region 54 with fail
                generalize w90.setCell _ _ = w91 at BP91 G91 ⊢
                clear a0 a1 a2 a3 a4 a5 a6 a7 a8 a9 fa
                clear b0 b1 b2 b3 b4 b5 b6 b7 b8 b9 fb
                obtain ⟨b0, b1, b2, b3, b4, b5, b6, b7, b8, b9⟩ := ten_at BP91.out
                have fb := free_at BP91.out
                go_wp2
                refine bodyPost_ret (back_ten 52 Tryz.underlying52 sizeSm Tryz.results23 rfl rfl (set_ten BP91.out _ _ _ _ _ _ _ _ _ _)) rfl ?_
                exact ⟨grown_ten G91.out HPQ.out.1 _ _ _ _ _ _ _ _ _ _, by rw [HE.out]; rfl⟩
              | ok L =>
                rw [hw] at hout
                obtain ⟨v, LW, rfl, ho, hl, hp⟩ := hout
                obtain ⟨ya, yc, rfl⟩ := OwnRR.shape ho
                have HE := Lib.hid (show oneS s.data.toList = .ok ⟨2, 0, (⟨#[]⟩ : ByteArray).data.toList, pcLL LB, L, 0, (⟨#[]⟩ : ByteArray).data.toList, [], false, false⟩ by rw [HR2.out, hw] <;> rfl)
                have HP2 := Lib.hid hp
                have BQ91 := Lib.hid (set_t4 BQ90.out (.slice ya LW.length yc))
                have BP91 := Lib.hid (far_at BP90.out HPQ.out.2.2 4 (.slice ya LW.length yc))
                have G91 := Lib.hid (grown_at1 G90.out 4 (.slice ya LW.length yc) HPQ.out.2.1)
                have OH91 := Lib.hid (OwnRR.set OH90.out BQ90.out (by decide) (by decide) 4 (.slice ya LW.length yc))
                have OW91 := Lib.hid (OwnRR.set (OwnRR.up ho (show w.heap.size ≤ w5.heap.size from G5.out.size)) BQ90.out (by decide) (by decide) 4 (.slice ya LW.length yc))
                have HL := Lib.hid hl
                clear hw g90 ho hp hl
                go_upto_region 54 with fail
                generalize w90.setCell _ _ = w91 at BQ91 BP91 G91 OH91 OW91 ⊢
                clear a0 a1 a2 a3 a4 a5 a6 a7 a8 a9 fa
                clear b0 b1 b2 b3 b4 b5 b6 b7 b8 b9 fb
                obtain ⟨a0, a1, a2, a3, a4, a5, a6, a7, a8, a9⟩ := ten_at BQ91.out
                have fa := free_at BQ91.out
                obtain ⟨b0, b1, b2, b3, b4, b5, b6, b7, b8, b9⟩ := ten_at BP91.out
                have fb := free_at BP91.out
                go_wp2
                refine bodyPost_ret (back_ten 52 Tryz.underlying52 sizeSm Tryz.results23 rfl rfl (set_ten BP91.out _ _ _ _ _ _ _ _ _ _)) rfl ?_
                refine ⟨grown_ten G91.out HPQ.out.1 _ _ _ _ _ _ _ _ _ _, ?_⟩
                rw [HE.out]
                exact ⟨⟨2, 0, ⟨#[]⟩, LB, LW, 0, ⟨#[]⟩, ⟨#[]⟩, false, false⟩, (.slice va LB.length vc), .slice ya LW.length yc, rfl, by unfold Sb.q; rw [HP2.out] <;> rfl, ⟨HS.out.1, by have := HL.out; show LW.length ≤ 5001; omega, HS.out.2.1, HS.out.2.2.1, HS.out.2.2.2, rfl, rfl⟩,
                  OwnRR.setT OH91.out BP91.out (by decide) (by decide) _ _ _ _ _ _ _ _ _ _, OwnRR.setT OW91.out BP91.out (by decide) (by decide) _ _ _ _ _ _ _ _ _ _⟩
            | false =>
              have HI6 := Lib.hid (show oneS s.data.toList = match (if r.data.toList.all (· != 58) then .error 7 else match docA 0 (r.data.toList.takeWhile (· != 58)) with | .error e => .error e | .ok x => .ok (x.1, x.2, (r.data.toList.dropWhile (· != 58)).drop 1) : Except Nat (Nat × List UInt8 × List UInt8)) with | .error e => .error e | .ok x => match wdQ [] [] x.2.2 with | .error e => .error e | .ok L => .ok ⟨2, 0, [], pcLL LB, L, x.1, x.2.1, [], false, false⟩ by
                rw [HI5.out]; unfold atrS
                rw [if_neg (by rw [cons_a hr0]; show ¬ (false || btQ r[0]) = true; rw [hbt]; simp)]; rfl)
              have CG := Lib.hid (fun w => hbt ▸ dGap r[0] w)
              have RL := Lib.hid (show r.data.toList.length = r.size by simp)
              clear hbt HI5
              go_upto_region 44 with (go_at_call 40; (with_reducible refine (CG.out _).mono ?_); rintro e w6 ⟨rfl, rfl⟩)
              go_wp2
              go_loopw [17] (fun k_ wi => ∃ n : Nat, n ≤ r.size ∧ k_ = .int .i64 n ∧ Hid (spnQ (· != 58) r.data.toList 0 = spnQ (· != 58) r.data.toList n) ∧ Hid (w5 = wi)) (fun k_ _ => r.size - (intOf k_).toNat)
              case atStart => exact ⟨0, Nat.zero_le _, rfl, Lib.hid rfl, Lib.hid rfl⟩
              case round =>
                obtain ⟨n, hn, rfl, hN, hW5⟩ := hrel
                have hw5 := hW5.out
                subst hw5
                by_cases hgo : ∃ h : n < r.size, r[n] ≠ 58
                · obtain ⟨hlt, hb⟩ := hgo
                  have e4 : ((r[n].toNat : Int) == 58) = false := byte_no 58 (by omega) hb
                  have HN := Lib.hid (show spnQ (· != 58) r.data.toList 0 = spnQ (· != 58) r.data.toList (n + 1) by rw [hN.out]; exact spn_on (list_at hlt) (by simpa using hb))
                  clear hb
                  go_wp2
                  go_roundw
                  case rel => exact ⟨n + 1, by omega, by go_num, HN, by first | exact Lib.hid rfl | exact Lib.hid trivial⟩
                  case measure => simp [intOf]; omega
                · have HN := Lib.hid (show spnQ (· != 58) r.data.toList 0 = n by
                    rw [hN.out]
                    by_cases hlt : n < r.size
                    · exact spn_off (list_at hlt) (by have : r[n] = 58 := Classical.byContradiction fun h => hgo ⟨hlt, h⟩
                                                      rw [this]; rfl)
                    · exact spn_end (by rw [RL.out]; omega))
                  by_cases hlt : n < r.size
                  · have hb : r[n] = 58 := Classical.byContradiction fun h => hgo ⟨hlt, h⟩
                    have e4 : ((r[n].toNat : Int) == 58) = true := byte_eq 58 (by omega) hb
                    have e5 : ((n : Int) == (r.size : Int)) = false := by rw [beq_eq_false_iff_ne]; omega
                    obtain ⟨r2, hr2⟩ : ∃ r2, r.extract 0 n = r2 := ⟨_, rfl⟩
                    have hr2z : r2.size ≤ 1000 := by rw [← hr2]; simp; omega
                    obtain ⟨r5, hr5⟩ : ∃ r5, r.extract (n + 1) r.size = r5 := ⟨_, rfl⟩
                    have hr5z : r5.size ≤ 1000 := by rw [← hr5]; simp; omega
                    have HI7 := Lib.hid (show oneS s.data.toList = match docA 0 r2.data.toList with | .error e => .error e | .ok x => match wdQ [] [] r5.data.toList with | .error e => .error e | .ok L => .ok ⟨2, 0, [], pcLL LB, L, x.1, x.2, [], false, false⟩ by
                      have h1 := spn_take (· != 58) r.data.toList 0
                      have h2 := spn_drop (· != 58) r.data.toList 0
                      rw [HN.out, List.drop_zero, List.drop_zero] at h1
                      rw [HN.out, List.drop_zero] at h2
                      rw [HI6.out, if_neg (by
                        intro h
                        have := List.all_eq_true.1 h r[n] (List.mem_of_getElem? (list_at hlt))
                        rw [hb] at this; cases this), ← h1, ← h2, List.drop_drop, ← hr2, ← hr5, ex_take, ex_drop]
                      cases docA 0 (r.data.toList.take n) <;> rfl)
                    have CD := Lib.hid (fun w => dParse r2 w (by omega))
                    clear hb hgo HI6 hN
                    cases hd : docA 0 r2.data.toList with
                    | error e =>
                      rw [hd] at CD
                      have hbd : ((e : Int) == 0) = false := by rw [beq_eq_false_iff_ne]; have := doc_err hd; omega
                      have HE := Lib.hid (show oneS s.data.toList = .error e by rw [HI7.out, hd])
                      have CD := Lib.hid (show ∀ u, Calls Tryz.prog 44 #[.string r2] u fun e1 u' => e1 = .returned (.tuple #[atV 0 ⟨#[]⟩, .int .i64 e]) ∧ u.grownBy u' none from CD.out)
                      clear hd HI7
                      go_upto_region 50 with (go_at_call 44; (with_reducible refine (CD.out _).mono ?_); rintro e1 w6 ⟨rfl, g6⟩; have G6 := Lib.hid (G5.out.trans g6); have BQ6 := Lib.hid (kept_at g6 BQ5.out); have BP6 := Lib.hid (kept_at g6 BP5.out); clear g6; clear a0 a1 a2 a3 a4 a5 a6 a7 a8 a9 fa; clear b0 b1 b2 b3 b4 b5 b6 b7 b8 b9 fb; obtain ⟨a0, a1, a2, a3, a4, a5, a6, a7, a8, a9⟩ := ten_at BQ6.out; have fa := free_at BQ6.out)
                      have BP7 := Lib.hid (far_at (far_at BP6.out HPQ.out.2.2 5 (.int .i64 0)) HPQ.out.2.2 6 (.string ⟨#[]⟩))
                      have G7 := Lib.hid (grown_at1 (grown_at1 G6.out 5 (.int .i64 0) HPQ.out.2.1) 6 (.string ⟨#[]⟩) HPQ.out.2.1)
                      generalize (w6.setCell _ _).setCell _ _ = w7 at BP7 G7 ⊢
                      clear a0 a1 a2 a3 a4 a5 a6 a7 a8 a9 fa
                      obtain ⟨b0, b1, b2, b3, b4, b5, b6, b7, b8, b9⟩ := ten_at BP7.out
                      have fb := free_at BP7.out
                      go_wp2
                      refine bodyPost_ret (back_ten 52 Tryz.underlying52 sizeSm Tryz.results23 rfl rfl (set_ten BP7.out _ _ _ _ _ _ _ _ _ _)) rfl ?_
                      exact ⟨grown_ten G7.out HPQ.out.1 _ _ _ _ _ _ _ _ _ _, by rw [HE.out]; rfl⟩
                    | ok x =>
                      obtain ⟨f, pl⟩ := x
                      rw [hd] at CD
                      obtain ⟨pb, hpb⟩ : ∃ pb : ByteArray, pb = ⟨pl.toArray⟩ := ⟨_, rfl⟩
                      have hf := doc_lt (show 0 < 256 by omega) hd
                      have hpz := doc_prog hd
                      have hpl : pb.data.toList = pl := by rw [hpb]
                      have HS7 := Lib.hid (show LB.length ≤ 5001 ∧ (⟨#[]⟩ : ByteArray).size ≤ 5000 ∧ f < 256 ∧ pb.size ≤ 5000 from ⟨HL.out, Nat.zero_le _, hf, by have h1 : pb.data.toList.length = pb.size := by simp
                                                                                                                                                                  rw [hpl] at h1; omega⟩)
                      have HR3 := Lib.hid (show oneS s.data.toList = match wdQ [] [] r5.data.toList with | .error e => .error e | .ok L => .ok ⟨2, 0, [], pcLL LB, L, f, pb.data.toList, [], false, false⟩ by rw [HI7.out, hd, hpl])
                      have CD := Lib.hid (show ∀ u, Calls Tryz.prog 44 #[.string r2] u fun e1 u' => e1 = .returned (.tuple #[atV f pb, .int .i64 0]) ∧ u.grownBy u' none from by rw [hpb]; exact CD.out)
                      clear hd HI7 hf hpz hpl hpb
                      go_upto_region 50 with (go_at_call 44; (with_reducible refine (CD.out _).mono ?_); rintro e1 w6 ⟨rfl, g6⟩; have G6 := Lib.hid (G5.out.trans g6); have BQ6 := Lib.hid (kept_at g6 BQ5.out); have BP6 := Lib.hid (kept_at g6 BP5.out); have OH6 := Lib.hid (OwnRR.keep OH5.out g6); clear g6; clear a0 a1 a2 a3 a4 a5 a6 a7 a8 a9 fa; clear b0 b1 b2 b3 b4 b5 b6 b7 b8 b9 fb; obtain ⟨a0, a1, a2, a3, a4, a5, a6, a7, a8, a9⟩ := ten_at BQ6.out; have fa := free_at BQ6.out)
                      have BP7 := Lib.hid (far_at (far_at BP6.out HPQ.out.2.2 5 (.int .i64 f)) HPQ.out.2.2 6 (.string pb))
                      have BQ7 := Lib.hid (set_t6 (set_t5 BQ6.out (.int .i64 f)) (.string pb))
                      have G7 := Lib.hid (grown_at1 (grown_at1 G6.out 5 (.int .i64 f) HPQ.out.2.1) 6 (.string pb) HPQ.out.2.1)
                      have OH7 := Lib.hid (OwnRR.set (OwnRR.set OH6.out BQ6.out (by decide) (by decide) 5 (.int .i64 f)) (set_t5 BQ6.out (.int .i64 f)) (by decide) (by decide) 6 (.string pb))
                      generalize (w6.setCell _ _).setCell _ _ = w7 at BP7 BQ7 G7 OH7 ⊢
                      clear a0 a1 a2 a3 a4 a5 a6 a7 a8 a9 fa
                      obtain ⟨a0, a1, a2, a3, a4, a5, a6, a7, a8, a9⟩ := ten_at BQ7.out
                      have fa := free_at BQ7.out
                      obtain ⟨b0, b1, b2, b3, b4, b5, b6, b7, b8, b9⟩ := ten_at BP7.out
                      have fb := free_at BP7.out
                      have CW := Lib.hid (dWords13O r5 w7 (by omega))
                      go_wp2_with fail
                      refine CW.out.mono ?_
                      rintro e w90 ⟨g90, hout⟩
                      have G90 := Lib.hid (G7.out.trans g90)
                      have BQ90 := Lib.hid (kept_at g90 BQ7.out)
                      have BP90 := Lib.hid (kept_at g90 BP7.out)
                      have OH90 := Lib.hid (OwnRR.keep OH7.out g90)
                      clear a0 a1 a2 a3 a4 a5 a6 a7 a8 a9 fa
                      clear b0 b1 b2 b3 b4 b5 b6 b7 b8 b9 fb
                      clear CW
                      obtain ⟨a0, a1, a2, a3, a4, a5, a6, a7, a8, a9⟩ := ten_at BQ90.out
                      have fa := free_at BQ90.out
                      obtain ⟨b0, b1, b2, b3, b4, b5, b6, b7, b8, b9⟩ := ten_at BP90.out
                      have fb := free_at BP90.out
                      cases hw : wdQ [] [] r5.data.toList with
                      | error k =>
                        rw [hw] at hout
                        subst hout
                        have hbd : ((k : Int) == 0) = false := by rw [beq_eq_false_iff_ne]; have := wd_bad r5.data.toList.length r5.data.toList [] [] k (Nat.le_refl _) hw; omega
                        have HE := Lib.hid (show oneS s.data.toList = .error k by rw [HR3.out, hw])
                        have BP91 := Lib.hid (far_at BP90.out HPQ.out.2.2 4 (.slice none 0 0))
                        have G91 := Lib.hid (grown_at1 G90.out 4 (.slice none 0 0) HPQ.out.2.1)
                        clear hw g90
                        go_upto_region 54 with fail
                        generalize w90.setCell _ _ = w91 at BP91 G91 ⊢
                        clear a0 a1 a2 a3 a4 a5 a6 a7 a8 a9 fa
                        clear b0 b1 b2 b3 b4 b5 b6 b7 b8 b9 fb
                        obtain ⟨b0, b1, b2, b3, b4, b5, b6, b7, b8, b9⟩ := ten_at BP91.out
                        have fb := free_at BP91.out
                        go_wp2
                        refine bodyPost_ret (back_ten 52 Tryz.underlying52 sizeSm Tryz.results23 rfl rfl (set_ten BP91.out _ _ _ _ _ _ _ _ _ _)) rfl ?_
                        exact ⟨grown_ten G91.out HPQ.out.1 _ _ _ _ _ _ _ _ _ _, by rw [HE.out]; rfl⟩
                      | ok L =>
                        rw [hw] at hout
                        obtain ⟨v, LW, rfl, ho, hl, hp⟩ := hout
                        obtain ⟨ya, yc, rfl⟩ := OwnRR.shape ho
                        have HE := Lib.hid (show oneS s.data.toList = .ok ⟨2, 0, (⟨#[]⟩ : ByteArray).data.toList, pcLL LB, L, f, (pb : ByteArray).data.toList, [], false, false⟩ by rw [HR3.out, hw] <;> rfl)
                        have HP2 := Lib.hid hp
                        have BQ91 := Lib.hid (set_t4 BQ90.out (.slice ya LW.length yc))
                        have BP91 := Lib.hid (far_at BP90.out HPQ.out.2.2 4 (.slice ya LW.length yc))
                        have G91 := Lib.hid (grown_at1 G90.out 4 (.slice ya LW.length yc) HPQ.out.2.1)
                        have OH91 := Lib.hid (OwnRR.set OH90.out BQ90.out (by decide) (by decide) 4 (.slice ya LW.length yc))
                        have OW91 := Lib.hid (OwnRR.set (OwnRR.up ho (show w.heap.size ≤ w7.heap.size from G7.out.size)) BQ90.out (by decide) (by decide) 4 (.slice ya LW.length yc))
                        have HL := Lib.hid hl
                        clear hw g90 ho hp hl
                        go_upto_region 54 with fail
                        generalize w90.setCell _ _ = w91 at BQ91 BP91 G91 OH91 OW91 ⊢
                        clear a0 a1 a2 a3 a4 a5 a6 a7 a8 a9 fa
                        clear b0 b1 b2 b3 b4 b5 b6 b7 b8 b9 fb
                        obtain ⟨a0, a1, a2, a3, a4, a5, a6, a7, a8, a9⟩ := ten_at BQ91.out
                        have fa := free_at BQ91.out
                        obtain ⟨b0, b1, b2, b3, b4, b5, b6, b7, b8, b9⟩ := ten_at BP91.out
                        have fb := free_at BP91.out
                        go_wp2
                        refine bodyPost_ret (back_ten 52 Tryz.underlying52 sizeSm Tryz.results23 rfl rfl (set_ten BP91.out _ _ _ _ _ _ _ _ _ _)) rfl ?_
                        refine ⟨grown_ten G91.out HPQ.out.1 _ _ _ _ _ _ _ _ _ _, ?_⟩
                        rw [HE.out]
                        exact ⟨⟨2, 0, ⟨#[]⟩, LB, LW, f, pb, ⟨#[]⟩, false, false⟩, (.slice va LB.length vc), .slice ya LW.length yc, rfl, by unfold Sb.q; rw [HP2.out] <;> rfl, ⟨HS7.out.1, by have := HL.out; show LW.length ≤ 5001; omega, HS7.out.2.1, HS7.out.2.2.1, HS7.out.2.2.2, rfl, rfl⟩,
                          OwnRR.setT OH91.out BP91.out (by decide) (by decide) _ _ _ _ _ _ _ _ _ _, OwnRR.setT OW91.out BP91.out (by decide) (by decide) _ _ _ _ _ _ _ _ _ _⟩
                  · have e5 : ((n : Int) == (r.size : Int)) = true := by rw [beq_iff_eq]; omega
                    have HE := Lib.hid (show oneS s.data.toList = .error 7 by
                      have h1 := spn_take (· != 58) r.data.toList 0
                      rw [HN.out, List.drop_zero, List.drop_zero, List.take_of_length_le (by rw [RL.out]; omega)] at h1
                      rw [HI6.out, if_pos (by rw [h1]; exact tw_mem _)])
                    go_wp2
                    refine bodyPost_ret (back_ten 52 Tryz.underlying52 sizeSm Tryz.results23 rfl rfl (set_ten BP5.out _ _ _ _ _ _ _ _ _ _)) rfl ?_
                    exact ⟨grown_ten G5.out HPQ.out.1 _ _ _ _ _ _ _ _ _ _, by rw [HE.out]; rfl⟩
          · have HR2 := Lib.hid (show oneS s.data.toList = match wdQ [] [] r.data.toList with | .error e => .error e | .ok L => .ok ⟨2, 0, [], pcLL LB, L, 0, [], [], false, false⟩ by
              rw [HI5.out]; unfold atrS
              rw [none_a hr0]; rfl)
            go_upto_region 53 with fail
            have CW := Lib.hid (dWords13O r w5 (by omega))
            go_wp2_with fail
            refine CW.out.mono ?_
            rintro e w90 ⟨g90, hout⟩
            have G90 := Lib.hid (G5.out.trans g90)
            have BQ90 := Lib.hid (kept_at g90 BQ5.out)
            have BP90 := Lib.hid (kept_at g90 BP5.out)
            have OH90 := Lib.hid (OwnRR.keep OH5.out g90)
            clear a0 a1 a2 a3 a4 a5 a6 a7 a8 a9 fa
            clear b0 b1 b2 b3 b4 b5 b6 b7 b8 b9 fb
            clear CW
            obtain ⟨a0, a1, a2, a3, a4, a5, a6, a7, a8, a9⟩ := ten_at BQ90.out
            have fa := free_at BQ90.out
            obtain ⟨b0, b1, b2, b3, b4, b5, b6, b7, b8, b9⟩ := ten_at BP90.out
            have fb := free_at BP90.out
            cases hw : wdQ [] [] r.data.toList with
            | error k =>
              rw [hw] at hout
              subst hout
              have hbd : ((k : Int) == 0) = false := by rw [beq_eq_false_iff_ne]; have := wd_bad r.data.toList.length r.data.toList [] [] k (Nat.le_refl _) hw; omega
              have HE := Lib.hid (show oneS s.data.toList = .error k by rw [HR2.out, hw])
              have BP91 := Lib.hid (far_at BP90.out HPQ.out.2.2 4 (.slice none 0 0))
              have G91 := Lib.hid (grown_at1 G90.out 4 (.slice none 0 0) HPQ.out.2.1)
              clear hw g90
              go_upto_region 54 with fail
              generalize w90.setCell _ _ = w91 at BP91 G91 ⊢
              clear a0 a1 a2 a3 a4 a5 a6 a7 a8 a9 fa
              clear b0 b1 b2 b3 b4 b5 b6 b7 b8 b9 fb
              obtain ⟨b0, b1, b2, b3, b4, b5, b6, b7, b8, b9⟩ := ten_at BP91.out
              have fb := free_at BP91.out
              go_wp2
              refine bodyPost_ret (back_ten 52 Tryz.underlying52 sizeSm Tryz.results23 rfl rfl (set_ten BP91.out _ _ _ _ _ _ _ _ _ _)) rfl ?_
              exact ⟨grown_ten G91.out HPQ.out.1 _ _ _ _ _ _ _ _ _ _, by rw [HE.out]; rfl⟩
            | ok L =>
              rw [hw] at hout
              obtain ⟨v, LW, rfl, ho, hl, hp⟩ := hout
              obtain ⟨ya, yc, rfl⟩ := OwnRR.shape ho
              have HE := Lib.hid (show oneS s.data.toList = .ok ⟨2, 0, (⟨#[]⟩ : ByteArray).data.toList, pcLL LB, L, 0, (⟨#[]⟩ : ByteArray).data.toList, [], false, false⟩ by rw [HR2.out, hw] <;> rfl)
              have HP2 := Lib.hid hp
              have BQ91 := Lib.hid (set_t4 BQ90.out (.slice ya LW.length yc))
              have BP91 := Lib.hid (far_at BP90.out HPQ.out.2.2 4 (.slice ya LW.length yc))
              have G91 := Lib.hid (grown_at1 G90.out 4 (.slice ya LW.length yc) HPQ.out.2.1)
              have OH91 := Lib.hid (OwnRR.set OH90.out BQ90.out (by decide) (by decide) 4 (.slice ya LW.length yc))
              have OW91 := Lib.hid (OwnRR.set (OwnRR.up ho (show w.heap.size ≤ w5.heap.size from G5.out.size)) BQ90.out (by decide) (by decide) 4 (.slice ya LW.length yc))
              have HL := Lib.hid hl
              clear hw g90 ho hp hl
              go_upto_region 54 with fail
              generalize w90.setCell _ _ = w91 at BQ91 BP91 G91 OH91 OW91 ⊢
              clear a0 a1 a2 a3 a4 a5 a6 a7 a8 a9 fa
              clear b0 b1 b2 b3 b4 b5 b6 b7 b8 b9 fb
              obtain ⟨a0, a1, a2, a3, a4, a5, a6, a7, a8, a9⟩ := ten_at BQ91.out
              have fa := free_at BQ91.out
              obtain ⟨b0, b1, b2, b3, b4, b5, b6, b7, b8, b9⟩ := ten_at BP91.out
              have fb := free_at BP91.out
              go_wp2
              refine bodyPost_ret (back_ten 52 Tryz.underlying52 sizeSm Tryz.results23 rfl rfl (set_ten BP91.out _ _ _ _ _ _ _ _ _ _)) rfl ?_
              refine ⟨grown_ten G91.out HPQ.out.1 _ _ _ _ _ _ _ _ _ _, ?_⟩
              rw [HE.out]
              exact ⟨⟨2, 0, ⟨#[]⟩, LB, LW, 0, ⟨#[]⟩, ⟨#[]⟩, false, false⟩, (.slice va LB.length vc), .slice ya LW.length yc, rfl, by unfold Sb.q; rw [HP2.out] <;> rfl, ⟨HS.out.1, by have := HL.out; show LW.length ≤ 5001; omega, HS.out.2.1, HS.out.2.2.1, HS.out.2.2.2, rfl, rfl⟩,
                OwnRR.setT OH91.out BP91.out (by decide) (by decide) _ _ _ _ _ _ _ _ _ _, OwnRR.setT OW91.out BP91.out (by decide) (by decide) _ _ _ _ _ _ _ _ _ _⟩

end Go.Proofs.YtdganemgldocoaaGreatDoor

namespace Go.Proofs.YtdganemgldocoaaGreatDoor
open Go.RowKit

theorem infoSm : (Tryz.prog.info? 52).map (fun i => (i.zero, i.size, i.bytes)) = some (some smZ, 10, 128) := by kernel_rfl
theorem sm_new (w : World) (hv wv : Value) (x : Sb) (T : TypeId) (m : Nat) (hm : m = w.heap.size) : ∀ j u, (smC hv wv x)[j]? = some u → (w.alloc (.cells (smC hv wv x).toArray T)).cell? ((⟨m, 0, none⟩ : Addr).add j) = some u := by
  subst hm
  exact World.news_of_block (cs := (smC hv wv x).toArray) (t := T) (fr := (0, 0)) (heap_alloc_new w _)
/-- all lines' statements, as a call makes them, and no error; or the first error and its line's number -/
def PPar (TS T TT : TypeId) (R : Except (Nat × Int) (List Sm)) (w : World) (e : Ending) (w' : World) : Prop :=
  w.grownBy w' none ∧ match R with
    | .ok S => ∃ (v : Value) (L : List Sb), e = .returned (.tuple #[v, .int .i64 0, .int .i64 0]) ∧ smQ L = S ∧ OwnS w' w.heap.size TS T TT v L ∧ L.length ≤ 5000
    | .error x => e = .returned (.tuple #[.slice none 0 0, .int .i64 x.1, .int .i64 x.2])
/-- lines whose statements fit: no text is longer than a line may be, all together are small -/
def LiS (O : List Li) : Prop := O.length ≤ 4100 ∧ (∀ x ∈ O, x.t.size ≤ 1000) ∧ (rcpS O).length ≤ 10000000
theorem rcp_app (a b : List Li) : rcpS (a ++ b) = rcpS a ++ rcpS b := by unfold rcpS; simp
theorem rcp_take (O : List Li) (i m : Nat) : (rcpS ((O.drop i).take m)).length ≤ (rcpS O).length := by
  have h : rcpS O = rcpS (O.take i) ++ (rcpS ((O.drop i).take m) ++ rcpS ((O.drop i).drop m)) := by
    rw [← rcp_app, ← rcp_app, List.take_append_drop, List.take_append_drop]
  rw [h]; simp; omega
theorem li_drop {O : List Li} {i : Nat} {x : Li} (h : O[i]? = some x) : O.drop i = x :: O.drop (i + 1) := by
  obtain ⟨hi, rfl⟩ := List.getElem?_eq_some_iff.1 h
  exact List.drop_eq_getElem_cons hi
theorem par_skip {S : List Sm} {x : Li} {r : List Li} (h : x.r = true) (ht : (trQ x.t.data.toList).isEmpty = true) : parS S (x :: r) = parS S r := by rw [parS, if_pos h, if_pos ht]
theorem par_stray {S : List Sm} {x : Li} {r : List Li} (h : x.r = true) (ht : ¬ (trQ x.t.data.toList).isEmpty = true) : parS S (x :: r) = .error (3, x.n) := by rw [parS, if_pos h, if_neg ht]
theorem par_none {S : List Sm} {x : Li} {r : List Li} (h : x.r = false) (ht : x.t.data.toList.isEmpty = true) : parS S (x :: r) = parS S r := by rw [parS, if_neg (by rw [h]; simp), if_pos ht]
theorem par_err {S : List Sm} {x : Li} {r : List Li} {k : Nat} (h : x.r = false) (ht : ¬ x.t.data.toList.isEmpty = true) (ho : oneS x.t.data.toList = .error k) : parS S (x :: r) = .error (k, x.n) := by
  rw [parS, if_neg (by rw [h]; simp), if_neg ht, ho]
theorem par_one {S : List Sm} {x : Li} {r : List Li} {y : Sm} (h : x.r = false) (ht : ¬ x.t.data.toList.isEmpty = true) (ho : oneS x.t.data.toList = .ok y) :
    parS S (x :: r) = if y.k = 2 then parS (S ++ [{ y with ln := x.n, rc := rcpS (r.takeWhile (·.r)) }]) (r.dropWhile (·.r)) else parS (S ++ [{ y with ln := x.n }]) r := by
  rw [parS, if_neg (by rw [h]; simp), if_neg ht, ho]
theorem one_bad {l : List UInt8} {k : Nat} (h : oneS l = .error k) : k ≠ 0 ∧ k ≤ 18 := by
  have hw : ∀ {m : List UInt8} {j : Nat}, wdQ [] [] m = .error j → j ≠ 0 ∧ j ≤ 18 := fun {m j} hj => by
    have := wd_bad m.length m [] [] j (Nat.le_refl _) hj; omega
  have hn : nonS l ≠ 0 ∧ nonS l ≤ 18 := by
    unfold nonS
    cases hj : wdQ [] [] l with
    | error j => exact hw hj
    | ok L => simp
  have hi : ∀ {m : List UInt8}, incS m = .error k → k ≠ 0 ∧ k ≤ 18 := fun {m} hm => by
    unfold incS at hm
    split at hm
    · split at hm
      · cases hm; simp
      · cases hm
    · split at hm
      · rename_i j hj; cases hm; exact hw hj
      · split at hm
        · cases hm; simp
        · cases hm
  have ha : ∀ {a b : List UInt8}, asgS a b = .error k → k ≠ 0 ∧ k ≤ 18 := fun {a b} hm => by
    unfold asgS at hm
    split at hm
    · cases hm; simp
    · split at hm
      · rename_i j hj; cases hm; exact hw hj
      · cases hm
  have hr : ∀ {a b : List UInt8}, rulS a b = .error k → k ≠ 0 ∧ k ≤ 18 := fun {a b} hm => by
    unfold rulS at hm
    split at hm
    · rename_i j hj; cases hm; exact hw hj
    · split at hm
      · cases hm; simp
      · split at hm
        · rename_i j hj
          cases hm
          unfold atrS at hj
          split at hj
          · cases hj
          · split at hj
            · cases hj; simp
            · split at hj
              · rename_i j2 hj2; cases hj; have := doc_err hj2; omega
              · cases hj
        · split at hm
          · rename_i j hj; cases hm; exact hw hj
          · cases hm
  unfold oneS at h
  split at h
  · exact hi h
  · split at h
    · cases h; exact hn
    · split at h
      · exact ha h
      · exact hr h
/-- statements that a call makes stay where another statement's block is stored to -/
theorem OwnS.set {w : World} {base : Nat} {TS T TT : TypeId} {v : Value} {L : List Sb} (h : OwnS w base TS T TT v L) {b : Nat} {cs : Array Value} (hb : w.heap[b]? = some (.cells cs TS (0, 0))) (h1 : TS ≠ T) (h2 : TS ≠ TT) (hne : ∀ k, v.ownBlock = some k → k < b) (i : Nat) (u : Value) :
    OwnS (w.setCell ⟨b, i, none⟩ u) base TS T TT v L := by
  obtain ⟨us, k1, k2, k3⟩ := h
  refine ⟨us, k1, k2.kept (set_by w b i u) ?_, fun j p x hp hx => ?_⟩
  · cases hv : v.ownBlock with
    | none => exact .inl rfl
    | some k => exact .inr (by intro e; have := hne k hv; injection e with e; omega)
  · obtain ⟨a, c, d⟩ := k3 j p x hp hx
    exact ⟨a.set hb h1 h2 i u, c.set hb h1 h2 i u, d⟩
theorem OwnS.lt {w : World} {base : Nat} {TS T TT : TypeId} {v : Value} {L : List Sb} (h : OwnS w base TS T TT v L) : ∀ k, v.ownBlock = some k → base ≤ k ∧ k < w.heap.size := by
  obtain ⟨us, k1, k2, k3⟩ := h
  exact k2.lt
theorem tw_cons {y : Li} {r : List Li} (h : y.r = true) : (y :: r).takeWhile (·.r) = y :: r.takeWhile (·.r) ∧ (y :: r).dropWhile (·.r) = r.dropWhile (·.r) := ⟨List.takeWhile_cons_of_pos h, List.dropWhile_cons_of_pos h⟩
theorem tw_stop {y : Li} {r : List Li} (h : y.r = false) : (y :: r).takeWhile (·.r) = [] ∧ (y :: r).dropWhile (·.r) = y :: r := ⟨List.takeWhile_cons_of_neg (by rw [h]; simp), List.dropWhile_cons_of_neg (by rw [h]; simp)⟩
theorem three_li {w : World} {b : Nat} {v0 v1 v2 : Value} {t : TypeId} (h : w.heap[b]? = some (.cells #[v0, v1, v2] t (0, 0))) : w.cell? ⟨b, 0, none⟩ = some v0 ∧ w.cell? ⟨b, 1, none⟩ = some v1 ∧ w.cell? ⟨b, 2, none⟩ = some v2 := by
  refine ⟨?_, ?_, ?_⟩ <;> (unfold World.cell?; rw [h]; rfl)
set_option maxRecDepth 100000 in
set_option maxHeartbeats 16000000 in
theorem dParse19 (v : Value) (O : List Li) (w : World) (hR : LiRow w v O) (hS : LiS O) : Calls Tryz.prog 10 #[v] w (PPar 52 107 106 (parS [] O) w) := by
  obtain ⟨va, vc, rfl, hm⟩ := hR.shape
  obtain ⟨iu, hiu, hu0, hu1, hu2⟩ := info_parts infoSm
  have IU := Lib.hid hiu; have ZU0 := Lib.hid hu0; have ZU1 := Lib.hid hu1; have ZU2 := Lib.hid hu2
  have HR := Lib.hid hR; have HS := Lib.hid hS
  have hn4 : O.length ≤ 4100 := hS.1
  obtain ⟨X, hX⟩ : ∃ X, parS [] O = X := ⟨_, rfl⟩
  rw [hX]
  have O1 := Lib.hid (ownS_zero w w.heap.size 52 107 106 (Nat.le_refl _))
  have G1 := Lib.hid (World.grownBy_alloc w (.cells #[] 52) none)
  obtain ⟨base, hbase⟩ : ∃ base, base = w.heap.size := ⟨_, rfl⟩
  have HBL := Lib.hid (show w.heap.size = base from hbase.symm)
  have HX := Lib.hid hX
  clear hiu hu0 hu1 hu2 hR hS hX hm
  go_enter Tryz.func10, Tryz.ntmps10
  go_upto_region 2 with fail
  generalize w.alloc _ = w1 at O1 G1 ⊢
  rw [← hbase] at O1 ⊢
  clear hbase
  go_wp2
  go_loopw [5, 6, 7, 8, 9] (fun o_ i_ _ _ _ wr => ∃ (i : Nat) (L : List Sb) (ua : Option Addr) (uc : Nat), i ≤ O.length ∧ i_ = .int .i64 i ∧ o_ = .slice ua L.length uc ∧ L.length ≤ i ∧ Hid (parS (smQ L) (O.drop i) = X) ∧ Hid (OwnS wr base 52 107 106 (.slice ua L.length uc) L) ∧ Hid (w.grownBy wr none)) (fun _ i_ _ _ _ _ => O.length - (intOf i_).toNat)
  case atStart => exact ⟨0, [], _, _, Nat.zero_le _, rfl, rfl, Nat.le_refl _, Lib.hid (by rw [List.drop_zero]; exact HX.out), O1, G1⟩
  case round =>
    obtain ⟨i, L, ua, uc, hi, rfl, rfl, hL, hF, hO, hG⟩ := hrel
    clear HX O1 G1
    by_cases hlt : i < O.length
    · obtain ⟨lb, off, c, x, ev, hx, hb, c0, c1, c2⟩ := (HR.out.grown hG.out).at i hlt
      injection ev with ev1 ev2 ev3
      subst ev1 ev3
      have HXI := Lib.hid hx
      have hxz : x.t.size ≤ 1000 := HS.out.2.1 x (List.mem_of_getElem? hx)
      have g4 := World.grownBy_alloc wr (.cells #[.string x.t, .int .i64 x.n, .bool x.r] 37) none
      have B4 := Lib.hid (heap_alloc_new wr (.cells #[.string x.t, .int .i64 x.n, .bool x.r] 37))
      have G4 := Lib.hid (hG.out.trans g4)
      have O4 := Lib.hid (hO.out.keep g4)
      have hlbw : lb < (wr.alloc (.cells #[.string x.t, .int .i64 x.n, .bool x.r] 37)).heap.size := Nat.lt_of_lt_of_le hb g4.size
      have HF := Lib.hid (show parS (smQ L) (x :: O.drop (i + 1)) = X by rw [← li_drop hx]; exact hF.out)
      clear hx hb hG hO g4 hF
      go_upto_region 6 with fail
      generalize wr.alloc _ = w4 at B4 G4 O4 hlbw ⊢
      obtain ⟨xb, exb⟩ : ∃ xb, wr.heap.size = xb := ⟨_, rfl⟩
      rw [exb] at B4 ⊢
      clear c0 c1 c2 exb
      obtain ⟨d0, d1, d2⟩ := three_li B4.out
      cases hr : x.r with
      | true =>
        rw [hr] at d2
        have CT := Lib.hid (fun w => dTrim19 x.t w (by omega))
        by_cases hte : (trQ x.t.data.toList).isEmpty = true
        · have HN := Lib.hid (show parS (smQ L) (O.drop (i + 1)) = X by rw [← par_skip hr hte]; exact HF.out)
          have HTE := Lib.hid (show ∀ t : ByteArray, t.data.toList = trQ x.t.data.toList → ¬ 0 < t.size from fun t h h2 => by
            rw [← h, cons_a h2] at hte; cases hte)
          clear hte hr
          go_wp2_with (go_at_call 22; (with_reducible refine (CT.out _).mono ?_); rintro e w5 ⟨⟨t, rfl, ht, hz⟩, g5⟩; have hz0 := HTE.out t ht; have G5 := Lib.hid (G4.out.trans g5); have O5 := Lib.hid (O4.out.keep g5); clear g5 ht hz)
          go_roundw
          case rel => exact ⟨i + 1, L, ua, uc, hlt, by go_num, rfl, by omega, HN, O5, G5⟩
          case measure => simp [intOf]; omega
        · have HN := Lib.hid (show X = .error (3, x.n) by rw [← par_stray hr hte]; exact HF.out.symm)
          have HTE := Lib.hid (show ∀ t : ByteArray, t.data.toList = trQ x.t.data.toList → 0 < t.size from fun t h => by
            rcases Nat.eq_zero_or_pos t.size with h2 | h2
            · rw [← h, none_a (by omega)] at hte; exact absurd rfl hte
            · exact h2)
          clear hte hr
          go_upto_region 8 with (go_at_call 22; (with_reducible refine (CT.out _).mono ?_); rintro e w5 ⟨⟨t, rfl, ht, hz⟩, g5⟩; have hz0 := HTE.out t ht; have G5 := Lib.hid (G4.out.trans g5); have B5 := Lib.hid (kept_at g5 B4.out); clear g5 ht hz)
          clear d0 d1 d2
          obtain ⟨d0, d1, d2⟩ := three_li B5.out
          go_quiet (fail)
          go_wp2
          go_ret3
          refine ⟨grown_drewN G5.out _, ?_⟩
          rw [HN.out]
          exact rfl
      | false =>
        rw [hr] at d2
        by_cases hz0 : x.t.size = 0
        · have HN := Lib.hid (show parS (smQ L) (O.drop (i + 1)) = X by rw [← par_none hr (by rw [none_a (by omega)]; rfl)]; exact HF.out)
          have e0 : ((x.t.size : Int) == 0) = true := by rw [hz0]; rfl
          clear hr hz0
          go_wp2
          go_roundw
          case rel => exact ⟨i + 1, L, ua, uc, hlt, by go_num, rfl, by omega, HN, O4, G4⟩
          case measure => simp [intOf]; omega
        have e0 : ((x.t.size : Int) == 0) = false := by rw [beq_eq_false_iff_ne]; omega
        have hne : ¬ x.t.data.toList.isEmpty = true := by intro h; exact (full_a hz0).1 (List.isEmpty_iff.1 h)
        have CO := Lib.hid (dOne19 x.t w4 (by omega) (by omega))
        go_wp2_with fail
        refine CO.out.mono ?_
        rintro e w5 ⟨g5, hout⟩
        have G5 := Lib.hid (G4.out.trans g5)
        have O5 := Lib.hid (O4.out.keep g5)
        have B5 := Lib.hid (kept_at g5 B4.out)
        clear d0 d1 d2
        obtain ⟨d0, d1, d2⟩ := three_li B5.out
        cases ho : oneS x.t.data.toList with
        | error k =>
          rw [ho] at hout
          subst hout
          have hbd : ((k : Int) == 0) = false := by rw [beq_eq_false_iff_ne]; have := one_bad ho; omega
          have HN := Lib.hid (show X = .error (k, x.n) by rw [← par_err hr hne ho]; exact HF.out.symm)
          have gz := World.grownBy_alloc w5 (.cells #[.int .i64 0, .int .i64 0, .string ⟨#[]⟩, .slice none 0 0, .slice none 0 0, .int .i64 0, .string ⟨#[]⟩, .string ⟨#[]⟩, .bool false, .bool false] 52) none
          have B6 := Lib.hid (kept_at gz B5.out)
          have G6 := Lib.hid (G5.out.trans gz)
          clear ho hr hne gz CO
          go_upto_region 11 with fail
          generalize w5.alloc _ = w6 at B6 G6 ⊢
          clear d0 d1 d2
          obtain ⟨d0, d1, d2⟩ := three_li B6.out
          go_upto_region 12 with fail
          go_quiet (fail)
          go_wp2
          go_ret3
          refine ⟨grown_drewN G6.out _, ?_⟩
          rw [HN.out]
          exact rfl
        | ok y =>
          rw [ho] at hout
          obtain ⟨z, hv, wv, rfl, hq, hs, oh, ow⟩ := hout
          obtain ⟨ha, hc, rfl⟩ := oh.shape
          obtain ⟨wa, wc, rfl⟩ := ow.shape
          have HP1 := Lib.hid (show (if z.k = 2 then parS (smQ L ++ [{ z.q with ln := x.n, rc := rcpS ((O.drop (i + 1)).takeWhile (·.r)) }]) ((O.drop (i + 1)).dropWhile (·.r)) else parS (smQ L ++ [{ z.q with ln := x.n }]) (O.drop (i + 1))) = X by
            rw [← HF.out, par_one hr hne ho, ← hq]; rfl)
          obtain ⟨hs1, hs2, hs3, hs4, hs5, hs6, hs7⟩ := hs
          have HSZ := Lib.hid (show z.hs.length ≤ 9223372036854775807 ∧ z.ws.length ≤ 9223372036854775807 by omega)
          have HRC := Lib.hid hs6
          have gz := World.grownBy_alloc w5 (.cells #[.int .i64 z.k, .int .i64 z.ln, .string z.nm, .slice ha z.hs.length hc, .slice wa z.ws.length wc, .int .i64 z.fl, .string z.pr, .string z.rc, .bool z.hd, .bool z.cm] 52) none
          have BS := Lib.hid (heap_alloc_new w5 (.cells #[.int .i64 z.k, .int .i64 z.ln, .string z.nm, .slice ha z.hs.length hc, .slice wa z.ws.length wc, .int .i64 z.fl, .string z.pr, .string z.rc, .bool z.hd, .bool z.cm] 52))
          have B6 := Lib.hid (kept_at gz B5.out)
          have G6 := Lib.hid (G5.out.trans gz)
          have O6 := Lib.hid (O5.out.keep gz)
          have HB4 : base ≤ w4.heap.size := by have := G4.out.size; have := HBL.out; omega
          have OH6 := Lib.hid ((OwnRR.up oh HB4).keep gz)
          have OW6 := Lib.hid ((OwnRR.up ow HB4).keep gz)
          have hlb5 : lb < w5.heap.size := Nat.lt_of_lt_of_le hlbw g5.size
          clear ho hr hne gz CO hq oh ow hs1 hs2 hs3 hs4 hs5 hs6 hs7 HF
          go_upto_region 11 with fail
          generalize w5.alloc _ = w6 at BS B6 G6 O6 OH6 OW6 ⊢
          obtain ⟨sb, esb⟩ : ∃ sb, w5.heap.size = sb := ⟨_, rfl⟩
          rw [esb] at BS ⊢
          have HUB := Lib.hid (show ∀ k, (Value.slice ua L.length uc).ownBlock = some k → k < sb from fun k hk => by have := (OwnS.lt O5.out k hk).2; omega)
          have HSB := Lib.hid (show w.heap.size ≤ sb ∧ ¬ lb = sb by have := G5.out.size; omega)
          clear d0 d1 d2 esb hlb5
          obtain ⟨d0, d1, d2⟩ := three_li B6.out
          obtain ⟨a0, a1, a2, a3, a4, a5, a6, a7, a8, a9⟩ := ten_at BS.out
          have fs := free_at BS.out
          have BS7 := Lib.hid (set_t1 BS.out (.int .i64 x.n))
          have G7 := Lib.hid (grown_at1 G6.out 1 (.int .i64 x.n) HSB.out.1)
          have O7 := Lib.hid (OwnS.set O6.out BS.out (by decide) (by decide) HUB.out 1 (.int .i64 x.n))
          have OH7 := Lib.hid (OwnRR.set OH6.out BS.out (by decide) (by decide) 1 (.int .i64 x.n))
          have OW7 := Lib.hid (OwnRR.set OW6.out BS.out (by decide) (by decide) 1 (.int .i64 x.n))
          go_wp2
          generalize w6.setCell _ _ = w7 at BS7 G7 O7 OH7 OW7 ⊢
          clear a0 a1 a2 a3 a4 a5 a6 a7 a8 a9 fs d0 d1 d2
          go_loopw [6] (fun m_ wq => ∃ (m : Nat) (rc : ByteArray), i ≤ m ∧ m < O.length ∧ m_ = .int .i64 m ∧ Hid (wq.heap[sb]? = some (.cells #[.int .i64 z.k, .int .i64 x.n, .string z.nm, .slice ha z.hs.length hc, .slice wa z.ws.length wc, .int .i64 z.fl, .string z.pr, .string rc, .bool z.hd, .bool z.cm] 52 (0, 0))) ∧
            Hid (rcpS ((O.drop (i + 1)).takeWhile (·.r)) = rc.data.toList ++ rcpS ((O.drop (m + 1)).takeWhile (·.r))) ∧ Hid ((O.drop (i + 1)).dropWhile (·.r) = (O.drop (m + 1)).dropWhile (·.r)) ∧ Hid (z.k ≠ 2 → m = i ∧ rc = ⟨#[]⟩) ∧
            Hid (OwnS wq base 52 107 106 (.slice ua L.length uc) L) ∧ Hid (OwnRR wq base 107 106 (.slice ha z.hs.length hc) z.hs) ∧ Hid (OwnRR wq base 107 106 (.slice wa z.ws.length wc) z.ws) ∧ Hid (w.grownBy wq none)) (fun m_ _ => O.length - (intOf m_).toNat)
          case atStart => exact ⟨i, ⟨#[]⟩, Nat.le_refl _, hlt, rfl, by rw [← HRC.out]; exact BS7, Lib.hid rfl, Lib.hid rfl, Lib.hid (fun _ => ⟨rfl, rfl⟩), O7, OH7, OW7, G7⟩
          case round =>
            obtain ⟨m, rc, him, hmn, rfl, hSm, hRm, hDm, hKm, hOm, hHm, hWm, hGm⟩ := hrel
            clear BS7 O7 OH7 OW7 G7
            obtain ⟨a0, a1, a2, a3, a4, a5, a6, a7, a8, a9⟩ := ten_at hSm.out
            have fs := free_at hSm.out
            by_cases hk2 : z.k = 2
            · have e2 : ((z.k : Int) == 2) = true := by rw [hk2]; rfl
              have HP3 := Lib.hid (show parS (smQ L ++ [{ z.q with ln := x.n, rc := rcpS ((O.drop (i + 1)).takeWhile (·.r)) }]) ((O.drop (i + 1)).dropWhile (·.r)) = X by have := HP1.out; rw [if_pos hk2] at this; exact this)
              have HK2 := Lib.hid hk2
              clear hk2
              by_cases hm1 : m + 1 < O.length
              · obtain ⟨lb2, off2, c2, y, ev2, hy, hb2, c0, c1, c3⟩ := (HR.out.grown hGm.out).at (m + 1) hm1
                injection ev2 with ev21 ev22 ev23
                injection ev21 with ev21
                injection ev21 with ev24 ev25
                subst ev24 ev25 ev23
                have hyz : y.t.size ≤ 1000 := HS.out.2.1 y (List.mem_of_getElem? hy)
                cases hyr : y.r with
                | true =>
                  rw [hyr] at c3
                  obtain ⟨t1, t2⟩ := tw_cons (r := O.drop (m + 1 + 1)) hyr
                  rw [← li_drop hy] at t1 t2
                  have hrz : rc.size + y.t.size + 1 ≤ 10000000 := by
                    have h2 : (rcpS ((O.drop (i + 1)).takeWhile (·.r))).length ≤ (rcpS O).length := by
                      have h3 : ∀ l : List Li, (rcpS (l.takeWhile (·.r))).length ≤ (rcpS l).length := fun l => by
                        have e := congrArg rcpS (List.takeWhile_append_dropWhile (p := fun (z : Li) => z.r) (l := l))
                        rw [rcp_app] at e
                        rw [← e, List.length_append]; omega
                      have h4 := rcp_take O (i + 1) (O.drop (i + 1)).length
                      rw [List.take_length] at h4
                      exact Nat.le_trans (h3 _) h4
                    have h5 := HS.out.2.2
                    have h6 := congrArg List.length hRm.out
                    rw [t1, List.length_append] at h6
                    have h7 : (rcpS (y :: (O.drop (m + 1 + 1)).takeWhile (·.r))).length = y.t.size + 1 + (rcpS ((O.drop (m + 1 + 1)).takeWhile (·.r))).length := by
                      unfold rcpS; simp; omega
                    have h8 : rc.data.toList.length = rc.size := by simp
                    omega
                  have HRn := Lib.hid (show rcpS ((O.drop (i + 1)).takeWhile (·.r)) = (rc ++ (y.t ++ ⟨#[10]⟩) : ByteArray).data.toList ++ rcpS ((O.drop (m + 1 + 1)).takeWhile (·.r)) by
                    rw [hRm.out, t1]; unfold rcpS; simp; try rfl)
                  have HDn := Lib.hid (show (O.drop (i + 1)).dropWhile (·.r) = (O.drop (m + 1 + 1)).dropWhile (·.r) by rw [hDm.out, t2])
                  have n1 : ¬ lb = sb := HSB.out.2
                  have n2 : ¬ sb = lb := fun h => n1 h.symm
                  obtain ⟨rc', hrc'⟩ : ∃ rc' : ByteArray, rc ++ (y.t ++ ⟨#[10]⟩) = rc' := ⟨_, rfl⟩
                  rw [hrc'] at HRn
                  have gs := set_by wr sb 7 (.string rc')
                  have BS8 := Lib.hid (set_t7 hSm.out (.string rc'))
                  have G8 := Lib.hid (grown_drew (grown_at1 hGm.out 7 (.string rc') HSB.out.1))
                  have O8 := Lib.hid ((OwnS.set hOm.out hSm.out (by decide) (by decide) HUB.out 7 (.string rc')).keep (grown_drew (World.grownBy.refl _ none)))
                  have OH8 := Lib.hid ((OwnRR.set hHm.out hSm.out (by decide) (by decide) 7 (.string rc')).keep (grown_drew (World.grownBy.refl _ none)))
                  have OW8 := Lib.hid ((OwnRR.set hWm.out hSm.out (by decide) (by decide) 7 (.string rc')).keep (grown_drew (World.grownBy.refl _ none)))
                  clear hyr t1 t2 hy hb2 gs
                  go_upto_region 16 with fail
                  go_region
                  go_wp2
                  go_roundw
                  case rel => exact ⟨m + 1, rc', by omega, hm1, by go_num, BS8, HRn, HDn, Lib.hid (fun h => absurd HK2.out h), O8, OH8, OW8, G8⟩
                  case measure => simp [intOf]; omega
                | false =>
                  rw [hyr] at c3
                  obtain ⟨t1, t2⟩ := tw_stop (r := O.drop (m + 1 + 1)) hyr
                  rw [← li_drop hy] at t1 t2
                  have HEND := Lib.hid (show parS (smQ (L ++ [{ z with ln := x.n, rc := rc }])) (O.drop (m + 1)) = X by
                    rw [← HP3.out, hRm.out, hDm.out, t1, t2]
                    simp [Sb.q, rcpS])
                  clear hyr t1 t2 hy hb2
                  have HL2 := Lib.hid (show (L ++ [{ z with ln := x.n, rc := rc }]).length = L.length + 1 by simp)
                  obtain ⟨us, hus, hov, hoi⟩ := hOm.out
                  have HUS := Lib.hid hus; have HOI := Lib.hid hoi; have OV := Lib.hid hov
                  have OH8 := hHm.out; have OW8 := hWm.out
                  have HONE := Lib.hid (sm_one OH8.one OW8.one { z with ln := x.n, rc := rc })
                  have HBK := Lib.hid (fun k hk => own_cells hov k hk)
                  have HOW := Lib.hid (show OwnRR wr base 107 106 (.slice ha z.hs.length hc) z.hs ∧ OwnRR wr base 107 106 (.slice wa z.ws.length wc) z.ws from ⟨OH8, OW8⟩)
                  clear hus hoi hov OH8 OW8
                  go_wp2_with (at_builtin; refine wpList_append_own _ rfl _ _ 28 rfl base 52 iu _ 10 128 Tryz.underlying28 IU.out ZU0.out ZU1.out ZU2.out rfl (by decide) _ _ _ rfl (OV.out.alloc _) ⟨_, 0, none⟩ 1 1 (smC (.slice ha z.hs.length hc) (.slice wa z.ws.length wc) { z with ln := x.n, rc := rc }) rfl rfl (sm_new _ (.slice ha z.hs.length hc) (.slice wa z.ws.length wc) { z with ln := x.n, rc := rc } _ _ (by first | rfl | simp)) HONE.out (by unfold maxLen; omega) (by omega) (by have := hGm.out.size; have := HBL.out; first | omega | (simp; omega)) ?_; intro v9 w9 hown9 hgrow9 _; have O9 := Lib.hid (OwnS.snoc HUS.out (fun j u y h1 h2 => by obtain ⟨k1, k2, k3⟩ := HOI.out j u y h1 h2; exact ⟨k1.keep (World.grownBy_alloc _ _ _), k2.keep (World.grownBy_alloc _ _ _), k3⟩) (x := { z with ln := x.n, rc := rc }) (OwnRR.keep HOW.out.1 (World.grownBy_alloc _ _ _)) (OwnRR.keep HOW.out.2 (World.grownBy_alloc _ _ _)) HSZ.out hgrow9 (fun k hk => by obtain ⟨c, hc⟩ := HBK.out k hk; exact ⟨c, kept_at (World.grownBy_alloc _ _ _) hc⟩) (by decide) hown9); have G9 := Lib.hid ((hGm.out.trans (World.grownBy_alloc _ _ _)).andThen hgrow9 (fun k hk => .inl (by have := (OV.out.lt k hk).1; have := HBL.out; omega))); clear hown9 hgrow9)
                  obtain ⟨va9, vc9, rfl⟩ := OwnS.shape O9.out
                  rw [HL2.out] at O9
                  go_roundw
                  case rel => exact ⟨m + 1, L ++ [{ z with ln := x.n, rc := rc }], va9, vc9, by omega, by go_num, by rw [HL2.out], by rw [HL2.out]; omega, HEND, by rw [HL2.out]; exact O9, G9⟩
                  case measure => simp [intOf]; omega
              · have HEND := Lib.hid (show parS (smQ (L ++ [{ z with ln := x.n, rc := rc }])) (O.drop (m + 1)) = X by
                  have t0 : O.drop (m + 1) = [] := List.drop_of_length_le (by omega)
                  rw [← HP3.out, hRm.out, hDm.out, t0]
                  simp [Sb.q, rcpS])
                have HL2 := Lib.hid (show (L ++ [{ z with ln := x.n, rc := rc }]).length = L.length + 1 by simp)
                obtain ⟨us, hus, hov, hoi⟩ := hOm.out
                have HUS := Lib.hid hus; have HOI := Lib.hid hoi; have OV := Lib.hid hov
                have OH8 := hHm.out; have OW8 := hWm.out
                have HONE := Lib.hid (sm_one OH8.one OW8.one { z with ln := x.n, rc := rc })
                have HBK := Lib.hid (fun k hk => own_cells hov k hk)
                have HOW := Lib.hid (show OwnRR wr base 107 106 (.slice ha z.hs.length hc) z.hs ∧ OwnRR wr base 107 106 (.slice wa z.ws.length wc) z.ws from ⟨OH8, OW8⟩)
                clear hus hoi hov OH8 OW8
                go_wp2_with (at_builtin; refine wpList_append_own _ rfl _ _ 28 rfl base 52 iu _ 10 128 Tryz.underlying28 IU.out ZU0.out ZU1.out ZU2.out rfl (by decide) _ _ _ rfl (OV.out.alloc _) ⟨_, 0, none⟩ 1 1 (smC (.slice ha z.hs.length hc) (.slice wa z.ws.length wc) { z with ln := x.n, rc := rc }) rfl rfl (sm_new _ (.slice ha z.hs.length hc) (.slice wa z.ws.length wc) { z with ln := x.n, rc := rc } _ _ (by first | rfl | simp)) HONE.out (by unfold maxLen; omega) (by omega) (by have := hGm.out.size; have := HBL.out; first | omega | (simp; omega)) ?_; intro v9 w9 hown9 hgrow9 _; have O9 := Lib.hid (OwnS.snoc HUS.out (fun j u y h1 h2 => by obtain ⟨k1, k2, k3⟩ := HOI.out j u y h1 h2; exact ⟨k1.keep (World.grownBy_alloc _ _ _), k2.keep (World.grownBy_alloc _ _ _), k3⟩) (x := { z with ln := x.n, rc := rc }) (OwnRR.keep HOW.out.1 (World.grownBy_alloc _ _ _)) (OwnRR.keep HOW.out.2 (World.grownBy_alloc _ _ _)) HSZ.out hgrow9 (fun k hk => by obtain ⟨c, hc⟩ := HBK.out k hk; exact ⟨c, kept_at (World.grownBy_alloc _ _ _) hc⟩) (by decide) hown9); have G9 := Lib.hid ((hGm.out.trans (World.grownBy_alloc _ _ _)).andThen hgrow9 (fun k hk => .inl (by have := (OV.out.lt k hk).1; have := HBL.out; omega))); clear hown9 hgrow9)
                obtain ⟨va9, vc9, rfl⟩ := OwnS.shape O9.out
                rw [HL2.out] at O9
                go_roundw
                case rel => exact ⟨m + 1, L ++ [{ z with ln := x.n, rc := rc }], va9, vc9, by omega, by go_num, by rw [HL2.out], by rw [HL2.out]; omega, HEND, by rw [HL2.out]; exact O9, G9⟩
                case measure => simp [intOf]; omega
            · have e2 : ((z.k : Int) == 2) = false := by rw [beq_eq_false_iff_ne]; exact hk2
              obtain ⟨rfl, rfl⟩ := hKm.out hk2
              have HEND := Lib.hid (show parS (smQ (L ++ [{ z with ln := x.n, rc := ⟨#[]⟩ }])) (O.drop (m + 1)) = X by
                have := HP1.out
                rw [if_neg hk2] at this
                rw [← this]
                simp [Sb.q]
                rw [HRC.out])
              have HL2 := Lib.hid (show (L ++ [{ z with ln := x.n, rc := ⟨#[]⟩ }]).length = L.length + 1 by simp)
              obtain ⟨us, hus, hov, hoi⟩ := hOm.out
              have HUS := Lib.hid hus; have HOI := Lib.hid hoi; have OV := Lib.hid hov
              have OH8 := hHm.out; have OW8 := hWm.out
              have HONE := Lib.hid (sm_one OH8.one OW8.one { z with ln := x.n, rc := ⟨#[]⟩ })
              have HBK := Lib.hid (fun k hk => own_cells hov k hk)
              have HOW := Lib.hid (show OwnRR wr base 107 106 (.slice ha z.hs.length hc) z.hs ∧ OwnRR wr base 107 106 (.slice wa z.ws.length wc) z.ws from ⟨OH8, OW8⟩)
              clear hus hoi hov OH8 OW8
              go_wp2_with (at_builtin; refine wpList_append_own _ rfl _ _ 28 rfl base 52 iu _ 10 128 Tryz.underlying28 IU.out ZU0.out ZU1.out ZU2.out rfl (by decide) _ _ _ rfl (OV.out.alloc _) ⟨_, 0, none⟩ 1 1 (smC (.slice ha z.hs.length hc) (.slice wa z.ws.length wc) { z with ln := x.n, rc := ⟨#[]⟩ }) rfl rfl (sm_new _ (.slice ha z.hs.length hc) (.slice wa z.ws.length wc) { z with ln := x.n, rc := ⟨#[]⟩ } _ _ (by first | rfl | simp)) HONE.out (by unfold maxLen; omega) (by omega) (by have := hGm.out.size; have := HBL.out; first | omega | (simp; omega)) ?_; intro v9 w9 hown9 hgrow9 _; have O9 := Lib.hid (OwnS.snoc HUS.out (fun j u y h1 h2 => by obtain ⟨k1, k2, k3⟩ := HOI.out j u y h1 h2; exact ⟨k1.keep (World.grownBy_alloc _ _ _), k2.keep (World.grownBy_alloc _ _ _), k3⟩) (x := { z with ln := x.n, rc := ⟨#[]⟩ }) (OwnRR.keep HOW.out.1 (World.grownBy_alloc _ _ _)) (OwnRR.keep HOW.out.2 (World.grownBy_alloc _ _ _)) HSZ.out hgrow9 (fun k hk => by obtain ⟨c, hc⟩ := HBK.out k hk; exact ⟨c, kept_at (World.grownBy_alloc _ _ _) hc⟩) (by decide) hown9); have G9 := Lib.hid ((hGm.out.trans (World.grownBy_alloc _ _ _)).andThen hgrow9 (fun k hk => .inl (by have := (OV.out.lt k hk).1; have := HBL.out; omega))); clear hown9 hgrow9)
              obtain ⟨va9, vc9, rfl⟩ := OwnS.shape O9.out
              rw [HL2.out] at O9
              go_roundw
              case rel => exact ⟨m + 1, L ++ [{ z with ln := x.n, rc := ⟨#[]⟩ }], va9, vc9, by omega, by go_num, by rw [HL2.out], by rw [HL2.out]; omega, HEND, by rw [HL2.out]; exact O9, G9⟩
              case measure => simp [intOf]; omega
    · have HN := Lib.hid (show X = .ok (smQ L) by rw [← hF.out, List.drop_of_length_le (by omega), parS])
      go_wp2
      go_ret3
      refine ⟨hG.out, ?_⟩
      rw [HN.out]
      exact ⟨_, L, rfl, rfl, by rw [HBL.out]; exact hO.out, by omega⟩
end Go.Proofs.YtdganemgldocoaaGreatDoor

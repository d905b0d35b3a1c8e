/- Package attr: attributes' letters. The chapter's example of layer 18. -/
import Derived.Test.YtongclfpidnibaaDoorAtPar
namespace Go.Proofs.YtongclfpidnibaaDoor
open Go.RowKit

theorem rg_yes {f : Nat} {p : ByteArray} (hf : f < 256) (hp : p.size ≤ 120) : rgA (f : Int) p = true := by
  unfold rgA
  rw [Bool.and_eq_true, Bool.and_eq_true, decide_eq_true_eq, decide_eq_true_eq, decide_eq_true_eq]
  omega
theorem rg_nat {f : Int} {p : ByteArray} (h : rgA f p = true) : ∃ n : Nat, f = n ∧ n < 256 ∧ p.size ≤ 120 := by
  unfold rgA at h
  rw [Bool.and_eq_true, Bool.and_eq_true, decide_eq_true_eq, decide_eq_true_eq, decide_eq_true_eq] at h
  exact ⟨f.toNat, by omega, by omega, h.2⟩
set_option maxRecDepth 100000 in
theorem pTextNo (f : Int) (p : ByteArray) (w : World) (h : rgA f p = false) : Calls Tryd.prog 12 #[atV f p] w fun e w' => e = .returned (.string ⟨#[]⟩) ∧ w.grownBy w' none := by
  have CR := Lib.hid (fun w => pRight f p w)
  rw [h] at CR
  have G0 := Lib.hid (World.grownBy_alloc w (.cells #[.int .i64 f, .string p] 24) none)
  clear h
  go_enter Tryd.func12, Tryd.ntmps12
  go_wp2_with (go_at_call 10; (with_reducible refine (CR.out _).mono ?_); rintro e w3 ⟨rfl, g3⟩; have G3 := Lib.hid (G0.out.trans g3); clear g3)
  go_ret
  exact ⟨rfl, G3.out⟩
/-- a flag is among flags: as the program asks -/
theorem has_eq {f v : Nat} (hf : f < 256) (hv : v ∈ [1, 2, 4, 8, 16, 32, 64, 128]) : (bits .and .i64 (f : Int) (v : Int) == (v : Int)) = decide (f / v % 2 = 1) := by
  have hv2 : v < 256 := by simp at hv; omega
  have hd : f &&& v = v ↔ f / v % 2 = 1 := has_div ⟨f, hf⟩ v hv
  rw [nat_and hv2, Bool.eq_iff_iff, beq_iff_eq, decide_eq_true_eq, ← hd]
  omega
theorem owns_at {w w' : World} {base : Nat} {e : TypeId} {size n : Nat} {v : Value} {xs : List Value} (h : w.ownsRow base e size v n xs) (hg : w.grownBy w' none) : w'.ownsRow base e size v n xs :=
  h.kept hg (by cases hb : v.ownBlock <;> simp)
set_option maxRecDepth 100000 in
set_option maxHeartbeats 4000000 in
theorem pTextYes (f : Nat) (p : ByteArray) (w : World) (hf : f < 256) (hp : p.size ≤ 120) (hE : LetE w) : Calls Tryd.prog 12 #[atV f p] w fun e w' => ∃ t : ByteArray, e = .returned (.string t) ∧ t.data.toList = txA f p.data.toList ∧ w.grownBy w' none := by
  have CR := Lib.hid (fun w => pRight f p w)
  rw [rg_yes hf hp] at CR
  obtain ⟨i0, hi, hz0, hz1, hz2⟩ := info_parts infoU8
  have I := Lib.hid hi; have Z0 := Lib.hid hz0; have Z1 := Lib.hid hz1; have Z2 := Lib.hid hz2
  clear hi hz0 hz1 hz2
  have B0 := Lib.hid (heap_alloc_new w (.cells #[.int .i64 f, .string p] 24))
  have G0 := Lib.hid (World.grownBy_alloc w (.cells #[.int .i64 f, .string p] 24) none)
  have HE := Lib.hid hE
  clear hE
  go_enter Tryd.func12, Tryd.ntmps12
  go_upto_region 3 with (go_at_call 10; (with_reducible refine (CR.out _).mono ?_); rintro e w3 ⟨rfl, g3⟩; have G3 := Lib.hid (G0.out.trans g3); have B3 := Lib.hid (kept_at g3 B0.out); clear g3)
  have E3 := HE.out.grown G3.out
  have t0 := E3 0 _ rfl; have t1 := E3 1 _ rfl; have t2 := E3 2 _ rfl; have t3 := E3 3 _ rfl; have t4 := E3 4 _ rfl; have t5 := E3 5 _ rfl; have t6 := E3 6 _ rfl; have t7 := E3 7 _ rfl
  have t8 := E3 8 _ rfl; have t9 := E3 9 _ rfl; have t10 := E3 10 _ rfl; have t11 := E3 11 _ rfl; have t12 := E3 12 _ rfl; have t13 := E3 13 _ rfl; have t14 := E3 14 _ rfl; have t15 := E3 15 _ rfl
  clear E3 CR
  obtain ⟨g, eg⟩ : ∃ g, w.heap.size = g := ⟨_, rfl⟩
  rw [eg] at B3 ⊢
  have HG := Lib.hid eg
  clear eg B0 G0
  go_wp2
  clear t0 t1 t2 t3 t4 t5 t6 t7 t8 t9 t10 t11 t12 t13 t14 t15
  go_loopw [3, 5, 10] (fun o_ _ i wr => ∃ j : Nat, j ≤ 8 ∧ i = .int .i64 j ∧ Hid (wr.ownsRow (g + 1) 5 1 o_ (ltJ f j).length (byV (ltJ f j))) ∧ Hid (wr.heap[g]? = some (.cells #[.int .i64 f, .string p] 24 (0, 0))) ∧ Hid (w.grownBy wr none)) (fun _ _ i _ => 8 - (intOf i).toNat)
  case atStart => exact ⟨0, by omega, rfl, Lib.hid (World.ownsRow_nil _ _ _ _), B3, G3⟩
  case round =>
    obtain ⟨j, hj, rfl, hO, hB, hG⟩ := hrel
    obtain ⟨a0, a1⟩ := two_at hB.out
    by_cases hlt : j < 8
    · have ik := let_at hlt
      have HV := Lib.hid (bit_vl ⟨j, hlt⟩)
      have HV : Hid (vlA (bitL j) = bitF j ∧ bitF j ∈ [1, 2, 4, 8, 16, 32, 64, 128]) := HV
      have HL := Lib.hid (ltJ_on (f := f) hlt)
      have HLL := Lib.hid (ltJ_len f j)
      generalize bitL j = c at ik HV HL
      generalize bitF j = v at ik HV HL
      have CH := Lib.hid (fun w => pHas f v p w)
      rw [has_eq hf HV.out.2] at CH
      obtain ⟨z, hz⟩ : ∃ z, decide (f / v % 2 = 1) = z := ⟨_, rfl⟩
      rw [hz] at CH
      have HZ := Lib.hid hz
      clear hz HV
      have ga := World.grownBy_alloc wr (.cells #[.int .u8 c.toNat, .int .i64 v] 51) none
      have D0 := Lib.hid (heap_alloc_new wr (.cells #[.int .u8 c.toNat, .int .i64 v] 51))
      have O1 := Lib.hid (owns_at hO.out ga)
      have B1 := Lib.hid (kept_at ga hB.out)
      have G1 := Lib.hid (hG.out.trans ga)
      clear ga a0 a1
      go_upto_region 7 with fail
      generalize wr.alloc _ = w4 at D0 O1 B1 G1 ⊢
      obtain ⟨q, eq⟩ : ∃ q, wr.heap.size = q := ⟨_, rfl⟩
      rw [eq] at D0 ⊢
      obtain ⟨a0, a1⟩ := two_at B1.out
      obtain ⟨d0, d1⟩ := two_at D0.out
      clear eq
      cases z with
      | false =>
        have HN := Lib.hid (show ltJ f (j + 1) = ltJ f j by rw [HL.out, if_neg (of_decide_eq_false HZ.out), List.append_nil])
        clear HL HZ
        go_wp2_with (go_at_call 11; (with_reducible refine (CH.out _).mono ?_); rintro e w5 ⟨rfl, g5⟩; have G5 := Lib.hid (G1.out.trans g5); have O5 := Lib.hid (owns_at O1.out g5); have B5 := Lib.hid (kept_at g5 B1.out); clear g5)
        go_roundw
        case rel => exact ⟨j + 1, by omega, by go_num, by rw [HN.out]; exact O5, B5, G5⟩
        case measure => simp [intOf]; omega
      | true =>
        have HN := Lib.hid (show ltJ f (j + 1) = ltJ f j ++ [c] by rw [HL.out, if_pos (of_decide_eq_true HZ.out)])
        clear HL HZ
        go_wp2_with (first
          | (go_at_call 11; (with_reducible refine (CH.out _).mono ?_); rintro e w5 ⟨rfl, g5⟩; have G5 := Lib.hid (G1.out.trans g5); have O5 := Lib.hid (owns_at O1.out g5); have B5 := Lib.hid (kept_at g5 B1.out); obtain ⟨d0, d1⟩ := two_at (kept_at g5 D0.out); clear g5)
          | (at_builtin; refine wpList_append_own _ rfl _ _ 50 rfl (g + 1) 5 i0 _ 1 1 Tryd.underlying50 I.out Z0.out Z1.out Z2.out rfl (by decide) _ _ _ rfl (O5.out.alloc _) ⟨_, 0, none⟩ 1 1 [.int .u8 c.toNat] rfl rfl (by_new _ c.toNat _ _ (by simp)) (by_one c.toNat) (by have := HLL.out; unfold maxLen; omega) (by have := HLL.out; omega) (by have := (Array.getElem?_eq_some_iff.1 B5.out).1; simp; omega) ?_; intro v' w6 hown' hgrow2 hnil2; have HOWN := Lib.hid hown'; have B6 := Lib.hid (show w6.heap[g]? = _ from (hgrow2.block g (by have := (Array.getElem?_eq_some_iff.1 B5.out).1; simp; omega) (fun e => by have := (O5.out.lt g e.symm).1; omega)).trans (kept_at (World.grownBy_alloc _ _ _) B5.out)); have G6 := Lib.hid ((G5.out.trans (World.grownBy_alloc w5 (.cells #[.int .u8 c.toNat] 5) none)).andThen hgrow2 (fun k e => .inl (by have := (O5.out.lt k e).1; have := HG.out; omega))); clear hown' hgrow2 hnil2))
        go_roundw
        case rel => exact ⟨j + 1, by omega, by go_num, by rw [HN.out, List.length_append]; exact Lib.hid (by rw [byV, List.map_append]; exact HOWN.out), B6, G6⟩
        case measure => simp [intOf]; omega
    · have HEQ := Lib.hid (ltJ_end (f := f) hlt)
      rw [HEQ.out] at hO
      obtain ⟨S, cv, hS⟩ := conv_row hO.out
      have HS := Lib.hid hS
      have hS8 : S.size ≤ 8 := by
        have h1 := lt_len ⟨f, hf⟩
        have h2 : S.data.toList.length = S.size := by simp
        have h1 : (ltA f).length ≤ 8 := h1
        rw [hS] at h2
        omega
      clear hS
      by_cases h0 : p.size = 0
      · have HN := Lib.hid (n_txA h0 HS.out)
        obtain rfl := nil_a h0
        clear h0
        go_wp2
        go_ret
        exact ⟨_, rfl, HN.out, hG.out⟩
      · have HN := Lib.hid (fun t => p_txA (f := f) (t := t) h0)
        obtain ⟨-, e1, e2⟩ := full_a h0
        clear h0
        go_wp2
        go_ret
        refine ⟨_, rfl, HN.out _ ?_, hG.out⟩
        rw [app_a, app_a, HS.out]
        simp
end Go.Proofs.YtongclfpidnibaaDoor

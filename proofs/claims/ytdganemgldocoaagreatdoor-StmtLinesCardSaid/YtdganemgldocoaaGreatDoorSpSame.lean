/- Package stmt: the statement of a logical line; of any line, but for a Recipe; which lines are left out; a Recipe. Package stmt: which lines are left out; the statement of any line, but for a Recipe; a Recipe. Package stmt: the statements of all lines. Package stmt: a text's statements; whether two are the same; a kind's word. What the laws of layer 19 are told of it. -/
import Derived.Test.YtdganemgldocoaaGreatDoorSpRl
import Derived.Test.YtdganemgldocoaaGreatDoorSmDoc
import Derived.Test.YtdganemgldocoaaGreatDoorSmOut
import Derived.Test.YtdganemgldocoaaGreatDoorLnProg
import Derived.Test.YtdganemgldocoaaGreatDoorLxEq
namespace Go.Proofs.YtdganemgldocoaaGreatDoor
open Go.RowKit

theorem pre_head (s : ByteArray) (c : UInt8) : Lib.hasPrefix s.data.toList (⟨#[c]⟩ : ByteArray).data.toList = decide (s.data.toList.head? = some c) := by
  unfold Lib.hasPrefix
  cases hl : s.data.toList with
  | nil => rfl
  | cons b r =>
    by_cases hb : c = b
    · subst hb; simp [List.isPrefixOf]
    · have hb2 : ¬b = c := fun x => hb x.symm
      simp [List.isPrefixOf, hb, hb2]
theorem one_byte_ex {s : ByteArray} {k : Nat} (h : k < s.size) : (s.extract k (k + 1)).toList = [s[k]] := by
  rw [Lib.toList_data, toList_cut2]
  have h1 : s.data.toList.drop k = s[k] :: s.data.toList.drop (k + 1) := drop_at (list_at h)
  rw [List.drop_take, h1, show k + 1 - k = 1 by omega]
  rfl
set_option maxRecDepth 100000 in
set_option maxHeartbeats 4000000 in
theorem sLogical (A : Nat → Addr) (s : ByteArray) (w : World) (hE : SpE A w) (hs : s.size ≤ 1000) : Calls Tryz.prog 36 #[.string s] w (PSt A (oneS s.data.toList) w) := by
  have B0 := Lib.hid (heap_alloc_new w (.cells #[.int .i64 0, .int .i64 0, .string ⟨#[]⟩, .slice none 0 0, .slice none 0 0, .int .i64 0, .string ⟨#[]⟩, .string ⟨#[]⟩, .bool false, .bool false] 46))
  have G0 := Lib.hid (World.grownBy_alloc w (.cells #[.int .i64 0, .int .i64 0, .string ⟨#[]⟩, .slice none 0 0, .slice none 0 0, .int .i64 0, .string ⟨#[]⟩, .string ⟨#[]⟩, .bool false, .bool false] 46) none)
  have hlen : s.data.toList.length = s.size := by simp
  have HLN := Lib.hid hlen
  have HE := Lib.hid hE
  have CP := Lib.hid (lbX.cutp s ⟨#[60]⟩)
  unfold Lib.trimPrefix at CP
  rw [pre_head] at CP
  clear hE hlen
  by_cases h60 : s.data.toList.head? = some 60
  · rw [decide_eq_true h60] at CP
    have hz : (⟨(s.data.toList.drop 1).toArray⟩ : ByteArray).size ≤ s.size := by rw [Lib.size_mk, List.length_drop, HLN.out]; omega
    have CP1 := Lib.hid (show ∀ w, Calls Tryz.prog 65 #[.string s, .string ⟨#[60]⟩] w fun e w' => e = .returned (.tuple #[.string ⟨(s.data.toList.drop 1).toArray⟩, .bool true]) ∧ w = w' from CP.out)
    have HI := Lib.hid (show oneS s.data.toList = incS (s.data.toList.drop 1) by unfold oneS; rw [if_pos h60])
    generalize hx : (⟨(s.data.toList.drop 1).toArray⟩ : ByteArray) = x0 at CP1 hz
    have hxl : x0.data.toList = s.data.toList.drop 1 := by rw [← hx]
    rw [← hxl] at HI
    clear hx hxl h60 CP
    go_enter Tryz.func36, Tryz.ntmps36
    go_upto_region 1 with fail
    generalize w.alloc _ = w1 at B0 G0 ⊢
    obtain ⟨p, ep⟩ : ∃ p, w.heap.size = p := ⟨_, rfl⟩
    rw [ep] at B0 ⊢
    have HP := Lib.hid (show w.heap.size ≤ p by omega)
    clear ep
    have CX := Lib.hid (sInclude A x0 w1 (HE.out.grown G0.out) (by omega))
    go_upto_region 3 with (go_at_call 65; (with_reducible refine (CP1.out _).mono ?_); rintro e w3 ⟨rfl, rfl⟩)
    go_wp2_with fail
    refine CX.out.mono ?_
    rintro e w9 ⟨g9, hout⟩
    have G9 := Lib.hid (G0.out.trans g9)
    have B9 := Lib.hid (kept_at g9 B0.out)
    have HB9 := Lib.hid (show w.heap.size ≤ w1.heap.size from G0.out.size)
    obtain ⟨b0, b1, b2, b3, b4, b5, b6, b7, b8, b9⟩ := ten_at B9.out
    have fb := free_at B9.out
    cases hr : incS x0.data.toList with
    | error k =>
      rw [hr] at hout
      subst hout
      have HN := Lib.hid (show oneS s.data.toList = .error k by rw [HI.out, hr])
      clear hr g9 HI
      go_wp2
      refine bodyPost_ret (back_ten 46 Tryz.underlying46 sizeSp Tryz.results36 rfl rfl (set_ten B9.out _ _ _ _ _ _ _ _ _ _)) rfl ?_
      exact ⟨grown_ten G9.out HP.out _ _ _ _ _ _ _ _ _ _, by rw [HN.out]; rfl⟩
    | ok y =>
      rw [hr] at hout
      obtain ⟨x, hv, wv, rfl, hq, hsm, oh, ow⟩ := hout
      obtain ⟨ha, hc, rfl⟩ := oh.shape
      obtain ⟨wa, wc, rfl⟩ := ow.shape
      have HN := Lib.hid (show oneS s.data.toList = .ok y by rw [HI.out, hr])
      have HQ := Lib.hid hq; have HS := Lib.hid hsm
      have OH := Lib.hid (OwnRR.up oh HB9.out); have OW := Lib.hid (OwnRR.up ow HB9.out)
      clear hr g9 HI hq hsm oh ow
      go_wp2
      refine bodyPost_ret (back_ten 46 Tryz.underlying46 sizeSp Tryz.results36 rfl rfl (set_ten B9.out _ _ _ _ _ _ _ _ _ _)) rfl ?_
      refine ⟨grown_ten G9.out HP.out _ _ _ _ _ _ _ _ _ _, ?_⟩
      rw [HN.out]
      exact ⟨x, .slice ha x.hs.length hc, .slice wa x.ws.length wc, rfl, HQ.out, HS.out, OwnRR.setT OH.out B9.out (by decide) (by decide) _ _ _ _ _ _ _ _ _ _, OwnRR.setT OW.out B9.out (by decide) (by decide) _ _ _ _ _ _ _ _ _ _⟩
  · rw [decide_eq_false h60] at CP
    have CP1 := Lib.hid (show ∀ w, Calls Tryz.prog 65 #[.string s, .string ⟨#[60]⟩] w fun e w' => e = .returned (.tuple #[.string s, .bool false]) ∧ w = w' from fun w => (CP.out w).mono fun e w' ⟨h1, h2⟩ => ⟨by rw [h1]; simp, h2⟩)
    have HI0 := Lib.hid (show oneS s.data.toList = match fnQ sgS s.data.toList with | none => .error (nonS s.data.toList) | some k => if s.data.toList[k]? = some 61 then asgS (s.data.toList.take k) (s.data.toList.drop (k + 1)) else rulS (s.data.toList.take k) (s.data.toList.drop (k + 1)) by unfold oneS; rw [if_neg h60]; rfl)
    have CF := Lib.hid (fun w' (g : w.grownBy w' none) => (HE.out.grown g).find s ⟨#[58, 61]⟩ (by omega) (by decide))
    rw [of_sg, fn_zero] at CF
    clear h60 CP
    cases hf : fnQ sgS s.data.toList with
    | none =>
      rw [hf] at CF HI0
      have HN := Lib.hid (show oneS s.data.toList = .error (nonS s.data.toList) from HI0.out)
      have CU := Lib.hid (fun w' (g : w.grownBy w' none) => sUnsigned A s w' (HE.out.grown g) (by omega))
      clear hf HI0
      go_enter Tryz.func36, Tryz.ntmps36
      go_upto_region 1 with fail
      generalize w.alloc _ = w1 at B0 G0 ⊢
      obtain ⟨p, ep⟩ : ∃ p, w.heap.size = p := ⟨_, rfl⟩
      rw [ep] at B0 ⊢
      have HP := Lib.hid (show w.heap.size ≤ p by omega)
      clear ep
      go_upto_region 6 with (first
        | (go_at_call 67; (with_reducible refine (CF.out _ G0.out).mono ?_); rintro e w2 ⟨rfl, g2⟩; have G2 := Lib.hid (G0.out.trans g2); have B2 := Lib.hid (kept_at g2 B0.out); clear g2)
        | (go_at_call 65; (with_reducible refine (CP1.out _).mono ?_); rintro e w3 ⟨rfl, rfl⟩))
      have CU1 := Lib.hid (CU.out _ G2.out)
      go_wp2_with fail
      refine CU1.out.mono ?_
      rintro e w9 ⟨rfl, g9⟩
      have G9 := Lib.hid (G2.out.trans g9)
      have B9 := Lib.hid (kept_at g9 B2.out)
      obtain ⟨b0, b1, b2, b3, b4, b5, b6, b7, b8, b9⟩ := ten_at B9.out
      have fb := free_at B9.out
      clear g9 CU1 CU
      go_wp2
      refine bodyPost_ret (back_ten 46 Tryz.underlying46 sizeSp Tryz.results36 rfl rfl (set_ten B9.out _ _ _ _ _ _ _ _ _ _)) rfl ?_
      exact ⟨grown_ten G9.out HP.out _ _ _ _ _ _ _ _ _ _, by rw [HN.out]; rfl⟩
    | some k =>
      rw [hf] at CF HI0
      obtain ⟨b, hb, -, -⟩ := fnQ_lt _ (Nat.le_refl _) hf
      have hk : k < s.size := by have := (List.getElem?_eq_some_iff.1 hb).1; have := HLN.out; omega
      have e1 : ((k : Int) == -1) = false := by rw [beq_eq_false_iff_ne]; omega
      have hbk : s.data.toList[k]? = some s[k] := list_at hk
      have h1 : (s.extract k (k + 1)).toList = [s[k]] := one_byte_ex hk
      have hz1 : (s.extract 0 k).size ≤ 1000 := by simp; omega
      have hz2 : (s.extract (k + 1) s.size).size ≤ 1000 := by simp; omega
      by_cases h61 : s[k] = 61
      · have e2 : ((s.extract k (k + 1)).toList == [61]) = true := by rw [h1, h61]; rfl
        have HI := Lib.hid (show oneS s.data.toList = asgS (s.extract 0 k).data.toList (s.extract (k + 1) s.size).data.toList by rw [HI0.out, ex_take, ex_drop]; simp only; rw [if_pos (by rw [hbk, h61])])
        have CX0 := Lib.hid (fun w' (g : w.grownBy w' none) => sAssign A (s.extract 0 k) (s.extract (k + 1) s.size) w' (HE.out.grown g) hz1 hz2)
        clear hf HI0 hb hbk h1 h61
        go_enter Tryz.func36, Tryz.ntmps36
        go_upto_region 1 with fail
        generalize w.alloc _ = w1 at B0 G0 ⊢
        obtain ⟨p, ep⟩ : ∃ p, w.heap.size = p := ⟨_, rfl⟩
        rw [ep] at B0 ⊢
        have HP := Lib.hid (show w.heap.size ≤ p by omega)
        clear ep
        go_upto_region 7 with (first
          | (go_at_call 67; (with_reducible refine (CF.out _ G0.out).mono ?_); rintro e w2 ⟨rfl, g2⟩; have G2 := Lib.hid (G0.out.trans g2); have B2 := Lib.hid (kept_at g2 B0.out); clear g2)
          | (go_at_call 65; (with_reducible refine (CP1.out _).mono ?_); rintro e w3 ⟨rfl, rfl⟩))
        go_quiet (fail)
        have B4 := Lib.hid (show (w2.drewN nq).heap[p]? = _ from B2.out)
        have G4 := Lib.hid (grown_drewN G2.out nq)
        generalize w2.drewN nq = w4 at B4 G4 ⊢
        have CX := Lib.hid (CX0.out _ G4.out)
        clear CX0
        go_wp2_with fail
        refine CX.out.mono ?_
        rintro e w9 ⟨g9, hout⟩
        have G9 := Lib.hid (G4.out.trans g9)
        have B9 := Lib.hid (kept_at g9 B4.out)
        have HB9 := Lib.hid (show w.heap.size ≤ w4.heap.size from G4.out.size)
        obtain ⟨b0, b1, b2, b3, b4, b5, b6, b7, b8, b9⟩ := ten_at B9.out
        have fb := free_at B9.out
        cases hr : asgS (s.extract 0 k).data.toList (s.extract (k + 1) s.size).data.toList with
        | error k =>
          rw [hr] at hout
          subst hout
          have HN := Lib.hid (show oneS s.data.toList = .error k by rw [HI.out, hr])
          clear hr g9 HI
          go_wp2
          refine bodyPost_ret (back_ten 46 Tryz.underlying46 sizeSp Tryz.results36 rfl rfl (set_ten B9.out _ _ _ _ _ _ _ _ _ _)) rfl ?_
          exact ⟨grown_ten G9.out HP.out _ _ _ _ _ _ _ _ _ _, by rw [HN.out]; rfl⟩
        | ok y =>
          rw [hr] at hout
          obtain ⟨x, hv, wv, rfl, hq, hsm, oh, ow⟩ := hout
          obtain ⟨ha, hc, rfl⟩ := oh.shape
          obtain ⟨wa, wc, rfl⟩ := ow.shape
          have HN := Lib.hid (show oneS s.data.toList = .ok y by rw [HI.out, hr])
          have HQ := Lib.hid hq; have HS := Lib.hid hsm
          have OH := Lib.hid (OwnRR.up oh HB9.out); have OW := Lib.hid (OwnRR.up ow HB9.out)
          clear hr g9 HI hq hsm oh ow
          go_wp2
          refine bodyPost_ret (back_ten 46 Tryz.underlying46 sizeSp Tryz.results36 rfl rfl (set_ten B9.out _ _ _ _ _ _ _ _ _ _)) rfl ?_
          refine ⟨grown_ten G9.out HP.out _ _ _ _ _ _ _ _ _ _, ?_⟩
          rw [HN.out]
          exact ⟨x, .slice ha x.hs.length hc, .slice wa x.ws.length wc, rfl, HQ.out, HS.out, OwnRR.setT OH.out B9.out (by decide) (by decide) _ _ _ _ _ _ _ _ _ _, OwnRR.setT OW.out B9.out (by decide) (by decide) _ _ _ _ _ _ _ _ _ _⟩
      · have e2 : ((s.extract k (k + 1)).toList == [61]) = false := by rw [h1]; simpa using h61
        have HI := Lib.hid (show oneS s.data.toList = rulS (s.extract 0 k).data.toList (s.extract (k + 1) s.size).data.toList by rw [HI0.out, ex_take, ex_drop]; simp only; rw [if_neg (by rw [hbk]; simpa using h61)])
        have CX0 := Lib.hid (fun w' (g : w.grownBy w' none) => sRule A (s.extract 0 k) (s.extract (k + 1) s.size) w' (HE.out.grown g) hz1 hz2)
        clear hf HI0 hb hbk h1 h61
        go_enter Tryz.func36, Tryz.ntmps36
        go_upto_region 1 with fail
        generalize w.alloc _ = w1 at B0 G0 ⊢
        obtain ⟨p, ep⟩ : ∃ p, w.heap.size = p := ⟨_, rfl⟩
        rw [ep] at B0 ⊢
        have HP := Lib.hid (show w.heap.size ≤ p by omega)
        clear ep
        go_upto_region 7 with (first
          | (go_at_call 67; (with_reducible refine (CF.out _ G0.out).mono ?_); rintro e w2 ⟨rfl, g2⟩; have G2 := Lib.hid (G0.out.trans g2); have B2 := Lib.hid (kept_at g2 B0.out); clear g2)
          | (go_at_call 65; (with_reducible refine (CP1.out _).mono ?_); rintro e w3 ⟨rfl, rfl⟩))
        go_quiet (fail)
        have B4 := Lib.hid (show (w2.drewN nq).heap[p]? = _ from B2.out)
        have G4 := Lib.hid (grown_drewN G2.out nq)
        generalize w2.drewN nq = w4 at B4 G4 ⊢
        have CX := Lib.hid (CX0.out _ G4.out)
        clear CX0
        go_wp2_with fail
        refine CX.out.mono ?_
        rintro e w9 ⟨g9, hout⟩
        have G9 := Lib.hid (G4.out.trans g9)
        have B9 := Lib.hid (kept_at g9 B4.out)
        have HB9 := Lib.hid (show w.heap.size ≤ w4.heap.size from G4.out.size)
        obtain ⟨b0, b1, b2, b3, b4, b5, b6, b7, b8, b9⟩ := ten_at B9.out
        have fb := free_at B9.out
        cases hr : rulS (s.extract 0 k).data.toList (s.extract (k + 1) s.size).data.toList with
        | error k =>
          rw [hr] at hout
          subst hout
          have HN := Lib.hid (show oneS s.data.toList = .error k by rw [HI.out, hr])
          clear hr g9 HI
          go_wp2
          refine bodyPost_ret (back_ten 46 Tryz.underlying46 sizeSp Tryz.results36 rfl rfl (set_ten B9.out _ _ _ _ _ _ _ _ _ _)) rfl ?_
          exact ⟨grown_ten G9.out HP.out _ _ _ _ _ _ _ _ _ _, by rw [HN.out]; rfl⟩
        | ok y =>
          rw [hr] at hout
          obtain ⟨x, hv, wv, rfl, hq, hsm, oh, ow⟩ := hout
          obtain ⟨ha, hc, rfl⟩ := oh.shape
          obtain ⟨wa, wc, rfl⟩ := ow.shape
          have HN := Lib.hid (show oneS s.data.toList = .ok y by rw [HI.out, hr])
          have HQ := Lib.hid hq; have HS := Lib.hid hsm
          have OH := Lib.hid (OwnRR.up oh HB9.out); have OW := Lib.hid (OwnRR.up ow HB9.out)
          clear hr g9 HI hq hsm oh ow
          go_wp2
          refine bodyPost_ret (back_ten 46 Tryz.underlying46 sizeSp Tryz.results36 rfl rfl (set_ten B9.out _ _ _ _ _ _ _ _ _ _)) rfl ?_
          refine ⟨grown_ten G9.out HP.out _ _ _ _ _ _ _ _ _ _, ?_⟩
          rw [HN.out]
          exact ⟨x, .slice ha x.hs.length hc, .slice wa x.ws.length wc, rfl, HQ.out, HS.out, OwnRR.setT OH.out B9.out (by decide) (by decide) _ _ _ _ _ _ _ _ _ _, OwnRR.setT OW.out B9.out (by decide) (by decide) _ _ _ _ _ _ _ _ _ _⟩
end Go.Proofs.YtdganemgldocoaaGreatDoor

namespace Go.Proofs.YtdganemgldocoaaGreatDoor
open Go.RowKit

abbrev liA (x : Li) : Value := .agg #[.string x.t, .int .i64 x.n, .bool x.r]
def outS (x : Li) : Bool := if x.r then (trQ x.t.data.toList).isEmpty else x.t.data.toList.isEmpty
theorem emp_a {s : ByteArray} (h : s.size = 0) : s.data.toList.isEmpty = true := by rw [none_a (by omega)]; rfl
theorem emp_no {s : ByteArray} (h : s.size ≠ 0) : s.data.toList.isEmpty = false := by
  cases hq : s.data.toList.isEmpty
  · rfl
  · exact absurd (List.isEmpty_iff.1 hq) (full_a h).1
set_option maxRecDepth 100000 in
theorem sLeftOut (x : Li) (w : World) (hz : x.t.size ≤ 1000) : Calls Tryz.prog 19 #[liA x] w fun e w' => e = .returned (.bool (outS x)) ∧ w.grownBy w' none := by
  have BL := Lib.hid (heap_alloc_new w (.cells #[.string x.t, .int .i64 x.n, .bool x.r] 36))
  have G0 := Lib.hid (World.grownBy_alloc w (.cells #[.string x.t, .int .i64 x.n, .bool x.r] 36) none)
  have CT := Lib.hid (fun w => pTrimB x.t w (by omega))
  obtain ⟨t, n, r⟩ := x
  simp only at hz BL G0 CT ⊢
  cases r with
  | true =>
    go_enter Tryz.func19, Tryz.ntmps19
    go_upto_region 1 with fail
    generalize w.alloc _ = w1 at BL G0 ⊢
    obtain ⟨p, ep⟩ : ∃ p, w.heap.size = p := ⟨_, rfl⟩
    rw [ep] at BL ⊢
    clear ep
    obtain ⟨d0, d1, d2⟩ := three_li BL.out
    go_wp2_with fail
    refine (CT.out _).mono ?_
    rintro e w2 ⟨⟨u, rfl, hu, -⟩, g2⟩
    have G2 := Lib.hid (G0.out.trans g2)
    have HU := Lib.hid hu
    clear g2 hu
    by_cases h0 : u.size = 0
    · obtain rfl := nil_a h0
      have HN := Lib.hid (show outS ⟨t, n, true⟩ = true by unfold outS; rw [if_pos rfl, ← HU.out]; rfl)
      clear h0
      go_wp2
      go_ret
      exact ⟨ret_bool HN.out.symm, G2.out⟩
    · have HN := Lib.hid (show outS ⟨t, n, true⟩ = false by unfold outS; rw [if_pos rfl, ← HU.out]; exact emp_no h0)
      obtain ⟨-, q2, q3⟩ := full_a h0
      clear h0
      go_wp2
      go_ret
      exact ⟨ret_bool HN.out.symm, G2.out⟩
  | false =>
    by_cases h0 : t.size = 0
    · obtain rfl := nil_a h0
      have HN := Lib.hid (show outS ⟨⟨#[]⟩, n, false⟩ = true from rfl)
      clear h0
      go_enter Tryz.func19, Tryz.ntmps19
      go_upto_region 1 with fail
      generalize w.alloc _ = w1 at BL G0 ⊢
      obtain ⟨p, ep⟩ : ∃ p, w.heap.size = p := ⟨_, rfl⟩
      rw [ep] at BL ⊢
      clear ep
      obtain ⟨d0, d1, d2⟩ := three_li BL.out
      go_wp2
      go_ret
      exact ⟨ret_bool HN.out.symm, G0.out⟩
    · have HN := Lib.hid (show outS ⟨t, n, false⟩ = false by unfold outS; rw [if_neg (by simp)]; exact emp_no h0)
      obtain ⟨-, q2, q3⟩ := full_a h0
      clear h0
      go_enter Tryz.func19, Tryz.ntmps19
      go_upto_region 1 with fail
      generalize w.alloc _ = w1 at BL G0 ⊢
      obtain ⟨p, ep⟩ : ∃ p, w.heap.size = p := ⟨_, rfl⟩
      rw [ep] at BL ⊢
      clear ep
      obtain ⟨d0, d1, d2⟩ := three_li BL.out
      go_wp2
      go_ret
      exact ⟨ret_bool HN.out.symm, G0.out⟩
/-- the statement of a line, with its number, or an error -/
def PSn (A : Nat → Addr) (n : Int) (R : Except Nat Sm) (w : World) (e : Ending) (w' : World) : Prop :=
  w.grownBy w' none ∧ match R with
    | .ok y => ∃ (x : Sb) (ha : Option Addr) (hc : Nat) (wa : Option Addr) (wc : Nat), e = .returned (.tuple #[smA (.slice ha x.hs.length hc) (.slice wa x.ws.length wc) x, .nilIface]) ∧ x.q = { y with ln := n } ∧ (x.hs.length ≤ 5001 ∧ x.ws.length ≤ 5001 ∧ x.rc = ⟨#[]⟩) ∧
        OwnRR w' w.heap.size 105 102 (.slice ha x.hs.length hc) x.hs ∧ OwnRR w' w.heap.size 105 102 (.slice wa x.ws.length wc) x.ws
    | .error k => k ≠ 0 ∧ e = .returned (.tuple #[smZ, errV A k])
set_option maxRecDepth 100000 in
set_option maxHeartbeats 4000000 in
theorem sStatement (A : Nat → Addr) (x : Li) (w : World) (hE : SpE A w) (hz : x.t.size ≤ 1000) : Calls Tryz.prog 20 #[liA x] w (PSn A x.n (if x.r then .error 3 else oneS x.t.data.toList) w) := by
  obtain ⟨b1, b2, g⟩ := heap2 w (.cells #[.string x.t, .int .i64 x.n, .bool x.r] 36) (.cells #[.int .i64 0, .int .i64 0, .string ⟨#[]⟩, .slice none 0 0, .slice none 0 0, .int .i64 0, .string ⟨#[]⟩, .string ⟨#[]⟩, .bool false, .bool false] 46)
  have BL := Lib.hid b1; have B0 := Lib.hid b2; have G0 := Lib.hid g
  have HE := Lib.hid hE
  have hgr : 1 < w.heap.size := cell_block hE.t.form
  obtain ⟨t, n, r⟩ := x
  simp only at hz BL B0 G0 ⊢
  clear b1 b2 g hE
  have CL := Lib.hid (fun w' (g : w.grownBy w' none) => sLogical A t w' (HE.out.grown g) hz)
  cases r with
  | true =>
    clear CL
    go_enter Tryz.func20, Tryz.ntmps20
    go_upto_region 1 with fail
    generalize (w.alloc _).alloc _ = w1 at BL B0 G0 ⊢
    obtain ⟨p, ep⟩ : ∃ p, w.heap.size + 1 = p := ⟨_, rfl⟩
    rw [ep] at B0 ⊢
    obtain ⟨lb, el⟩ : ∃ lb, w.heap.size = lb := ⟨_, rfl⟩
    rw [el] at BL hgr ⊢
    have HP := Lib.hid (show w.heap.size ≤ p by omega)
    have q1 : ¬p = 1 := by omega
    have q2 : ¬1 = p := by omega
    clear ep el hgr
    obtain ⟨d0, d1, d2⟩ := three_li BL.out
    obtain ⟨b0, b1, b2, b3, b4, b5, b6, b7, b8, b9⟩ := ten_at B0.out
    have fb := free_at B0.out
    have e3 := (HE.out.grown G0.out).t.form
    go_wp2
    go_region
    obtain ⟨wF, eF, BF, GF⟩ := fin_zero B0.out G0.out HP.out
    rw [← eF]
    clear eF
    go_wp2
    refine bodyPost_ret (back_ten 46 Tryz.underlying46 sizeSp Tryz.results20 rfl rfl BF) rfl ?_
    exact ⟨GF, by decide, rfl⟩
  | false =>
    clear hgr
    go_enter Tryz.func20, Tryz.ntmps20
    go_upto_region 1 with fail
    generalize (w.alloc _).alloc _ = w1 at BL B0 G0 ⊢
    obtain ⟨p, ep⟩ : ∃ p, w.heap.size + 1 = p := ⟨_, rfl⟩
    rw [ep] at B0 ⊢
    obtain ⟨lb, el⟩ : ∃ lb, w.heap.size = lb := ⟨_, rfl⟩
    rw [el] at BL ⊢
    have HP := Lib.hid (show w.heap.size ≤ p ∧ w.heap.size ≤ lb ∧ lb ≠ p by omega)
    clear ep el
    have CL1 := Lib.hid (CL.out _ G0.out)
    obtain ⟨d0, d1, d2⟩ := three_li BL.out
    clear CL
    go_wp2_with fail
    refine CL1.out.mono ?_
    rintro e w2 ⟨g2, hout⟩
    have G2 := Lib.hid (G0.out.trans g2)
    have B2 := Lib.hid (kept_at g2 B0.out)
    have BL2 := Lib.hid (kept_at g2 BL.out)
    have HB2 := Lib.hid (show w.heap.size ≤ w1.heap.size from G0.out.size)
    clear d0 d1 d2 g2 CL1
    cases ho : oneS t.data.toList with
    | error k =>
      rw [ho] at hout
      subst hout
      have hk := (one_bad ho).1
      have HK := Lib.hid (errV_ne (A := A) hk)
      have HKK := Lib.hid hk
      rw [errV_ne hk]
      have g4 := World.grownBy_alloc w2 (.cells #[.int .i64 0, .int .i64 0, .string ⟨#[]⟩, .slice none 0 0, .slice none 0 0, .int .i64 0, .string ⟨#[]⟩, .string ⟨#[]⟩, .bool false, .bool false] 46) none
      have B4 := Lib.hid (kept_at g4 B2.out)
      have G4 := Lib.hid (G2.out.trans g4)
      have HO := Lib.hid ho
      clear ho hk g4
      go_upto_region 4 with fail
      generalize w2.alloc _ = w4 at B4 G4 ⊢
      obtain ⟨b0, b1, b2, b3, b4, b5, b6, b7, b8, b9⟩ := ten_at B4.out
      have fb := free_at B4.out
      go_wp2
      refine bodyPost_ret (back_ten 46 Tryz.underlying46 sizeSp Tryz.results20 rfl rfl (set_ten B4.out _ _ _ _ _ _ _ _ _ _)) rfl ?_
      refine ⟨grown_ten G4.out HP.out.1 _ _ _ _ _ _ _ _ _ _, ?_⟩
      have h := HO.out
      generalize oneS t.data.toList = R at h ⊢
      subst h
      exact ⟨HKK.out, by rw [HK.out]; rfl⟩
    | ok y =>
      rw [ho] at hout
      obtain ⟨z, hv, wv, rfl, hq, hs, oh, ow⟩ := hout
      obtain ⟨ha, hc, rfl⟩ := oh.shape
      obtain ⟨wa, wc, rfl⟩ := ow.shape
      have g4 := World.grownBy_alloc w2 (.cells #[.int .i64 z.k, .int .i64 z.ln, .string z.nm, .slice ha z.hs.length hc, .slice wa z.ws.length wc, .int .i64 z.fl, .string z.pr, .string z.rc, .bool z.hd, .bool z.cm] 46) none
      have BS4 := Lib.hid (heap_alloc_new w2 (.cells #[.int .i64 z.k, .int .i64 z.ln, .string z.nm, .slice ha z.hs.length hc, .slice wa z.ws.length wc, .int .i64 z.fl, .string z.pr, .string z.rc, .bool z.hd, .bool z.cm] 46))
      have B4 := Lib.hid (kept_at g4 B2.out)
      have BL4 := Lib.hid (kept_at g4 BL2.out)
      have G4 := Lib.hid (G2.out.trans g4)
      have OH4 := Lib.hid ((OwnRR.up oh HB2.out).keep g4)
      have OW4 := Lib.hid ((OwnRR.up ow HB2.out).keep g4)
      have HQ := Lib.hid hq; have HS := Lib.hid hs
      have HPL := Lib.hid (show p < w2.heap.size ∧ lb < w2.heap.size from ⟨(Array.getElem?_eq_some_iff.1 B2.out).1, (Array.getElem?_eq_some_iff.1 BL2.out).1⟩)
      have HO := Lib.hid ho
      clear ho g4 hq hs oh ow
      go_upto_region 4 with fail
      generalize w2.alloc _ = w4 at BS4 B4 BL4 G4 OH4 OW4 ⊢
      obtain ⟨sb, esb⟩ : ∃ sb, w2.heap.size = sb := ⟨_, rfl⟩
      rw [esb] at BS4 HPL ⊢
      have HSB := Lib.hid (show w.heap.size ≤ sb ∧ p ≠ sb by have := HPL.out; have := G2.out.size; omega)
      obtain ⟨d0, d1, d2⟩ := three_li BL4.out
      obtain ⟨a0, a1, a2, a3, a4, a5, a6, a7, a8, a9⟩ := ten_at BS4.out
      have fs := free_at BS4.out
      have BS5 := Lib.hid (set_t1 BS4.out (.int .i64 n))
      have B5 := Lib.hid (far_at B4.out HSB.out.2 1 (.int .i64 n))
      have G5 := Lib.hid (grown_at1 G4.out 1 (.int .i64 n) HSB.out.1)
      have OH5 := Lib.hid (OwnRR.set OH4.out BS4.out (by decide) (by decide) 1 (.int .i64 n))
      have OW5 := Lib.hid (OwnRR.set OW4.out BS4.out (by decide) (by decide) 1 (.int .i64 n))
      clear esb
      go_upto_region 7 with fail
      generalize w4.setCell _ _ = w5 at BS5 B5 G5 OH5 OW5 ⊢
      clear a0 a1 a2 a3 a4 a5 a6 a7 a8 a9 fs d0 d1 d2
      obtain ⟨a0, a1, a2, a3, a4, a5, a6, a7, a8, a9⟩ := ten_at BS5.out
      obtain ⟨b0, b1, b2, b3, b4, b5, b6, b7, b8, b9⟩ := ten_at B5.out
      have fb := free_at B5.out
      go_wp2
      refine bodyPost_ret (back_ten 46 Tryz.underlying46 sizeSp Tryz.results20 rfl rfl (set_ten B5.out _ _ _ _ _ _ _ _ _ _)) rfl ?_
      refine ⟨grown_ten G5.out HP.out.1 _ _ _ _ _ _ _ _ _ _, ?_⟩
      have hS := HS.out
      have h := HO.out
      generalize oneS t.data.toList = R at h ⊢
      subst h
      exact ⟨{ z with ln := n }, ha, hc, wa, wc, rfl, by rw [← HQ.out]; rfl, ⟨hS.1, hS.2.1, hS.2.2.2.2.2.1⟩, OwnRR.setT OH5.out B5.out (by decide) (by decide) _ _ _ _ _ _ _ _ _ _, OwnRR.setT OW5.out B5.out (by decide) (by decide) _ _ _ _ _ _ _ _ _ _⟩
theorem tw_le (l : List Li) : (rcpS (l.takeWhile (·.r))).length ≤ (rcpS l).length := by
  have e := congrArg rcpS (List.takeWhile_append_dropWhile (p := fun (z : Li) => z.r) (l := l))
  rw [rcp_app] at e
  rw [← e, List.length_append]; omega
theorem rcp_drop (O : List Li) (i : Nat) : (rcpS (O.drop i)).length ≤ (rcpS O).length := by
  have h4 := rcp_take O i (O.drop i).length
  rw [List.take_length] at h4
  exact h4
theorem rcp_cons (y : Li) (r : List Li) : rcpS (y :: r) = y.t.data.toList ++ [10] ++ rcpS r := by unfold rcpS; simp
set_option maxRecDepth 100000 in
set_option maxHeartbeats 4000000 in
theorem sRecipe (v : Value) (O : List Li) (i : Nat) (w : World) (hR : LiRow w v O) (hS : LiS O) (hi : i ≤ O.length) : Calls Tryz.prog 21 #[v, .int .i64 i] w fun e w' =>
    (∃ (t : ByteArray) (j : Nat), e = .returned (.tuple #[.string t, .int .i64 j]) ∧ t.data.toList = rcpS ((O.drop i).takeWhile (·.r)) ∧ (O.drop i).dropWhile (·.r) = O.drop j ∧ i ≤ j ∧ j ≤ O.length) ∧ w.grownBy w' none := by
  obtain ⟨va, vc, rfl, hm⟩ := hR.shape
  have HR := Lib.hid hR; have HS := Lib.hid hS
  have hn4 : O.length ≤ 4100 := hS.1
  have HT := Lib.hid (show (rcpS ((O.drop i).takeWhile (·.r))).length ≤ 10000000 from Nat.le_trans (tw_le _) (Nat.le_trans (rcp_drop O i) hS.2.2))
  have BD := Lib.hid (Lib.fresh_isBuilder 90 5 w)
  have BL := Lib.hid ((Below.refl w.heap.size w).alloc (Nat.le_refl _) (.cells #[.pointer none, .slice none 0 0] 90))
  clear hR hS hm
  go_enter Tryz.func21, Tryz.ntmps21
  go_wp2
  generalize w.alloc (.cells #[.pointer none, .slice none 0 0] 90) = wb at *
  obtain ⟨b, hb⟩ : ∃ b, w.heap.size = b := ⟨_, rfl⟩
  rw [hb] at BD BL ⊢
  have HB := Lib.hid hb
  clear hb
  have GR0 := Lib.hid (show ∀ W : World, Below b w W → w.grownBy W none from fun W h => grown_of_below (by rw [HB.out]; exact h))
  go_loopw [1] (fun at_ wr => ∃ (j : Nat) (W : List UInt8), at_ = .int .i64 j ∧ i ≤ j ∧ j ≤ O.length ∧ Hid (rcpS ((O.drop i).takeWhile (·.r)) = W ++ rcpS ((O.drop j).takeWhile (·.r))) ∧ Hid ((O.drop i).dropWhile (·.r) = (O.drop j).dropWhile (·.r)) ∧ Hid (BldQ b W wr) ∧ Hid (Below b w wr)) (fun at_ _ => O.length - (intOf at_).toNat)
  case atStart => exact ⟨i, [], rfl, Nat.le_refl _, hi, Lib.hid rfl, Lib.hid rfl, BD, BL⟩
  case round =>
    obtain ⟨j, W, rfl, hij, hj, hF, hD, hBD, hBL⟩ := hrel
    have GR := Lib.hid (GR0.out _ hBL.out)
    have hbs : b ≤ wr.heap.size := by have := hBL.out.size; have := HB.out; omega
    clear BD BL
    by_cases hlt : j < O.length
    · obtain ⟨rb, off, c, y, ev, hy, -, c0, -, c2⟩ := (HR.out.grown GR.out).at j hlt
      injection ev with ev1 ev2 ev3
      subst ev1 ev3
      have hyz : y.t.size ≤ 1000 := HS.out.2.1 y (List.mem_of_getElem? hy)
      have hdr := li_drop hy
      cases hr : y.r with
      | true =>
        rw [hr] at c2
        obtain ⟨t1, t2⟩ := tw_cons (r := O.drop (j + 1)) hr
        rw [← hdr] at t1 t2
        have HF := Lib.hid (show rcpS ((O.drop i).takeWhile (·.r)) = (W ++ y.t.data.toList ++ [10]) ++ rcpS ((O.drop (j + 1)).takeWhile (·.r)) by rw [hF.out, t1, rcp_cons]; simp)
        have HD := Lib.hid (show (O.drop i).dropWhile (·.r) = (O.drop (j + 1)).dropWhile (·.r) by rw [hD.out, t2])
        have hyl : y.t.data.toList.length = y.t.size := by simp
        have HWL := Lib.hid (show W.length + y.t.size + 1 ≤ 10000000 by
          have h1 := HT.out
          rw [HF.out] at h1
          simp only [List.length_append, List.length_singleton] at h1
          omega)
        have CW := Lib.hid (show Calls Tryz.prog 37 #[.pointer (some ⟨b, 0, none⟩), .string y.t] wr fun e w' => e = .returned (.tuple #[.int .i64 y.t.size, .nilIface]) ∧ BldQ b (W ++ y.t.data.toList) w' ∧ Below b w w' by
          have := HWL.out
          refine (bText b W y.t wr hBD.out (by omega) hbs).mono fun e w' ⟨h1, h2, h3⟩ => ⟨h1, h2, hBL.out.trans h3⟩)
        have CB := Lib.hid (fun (w6 : World) (b6 : BldQ b (W ++ y.t.data.toList) w6) (l6 : Below b w w6) => show Calls Tryz.prog 38 #[.pointer (some ⟨b, 0, none⟩), .int .u8 10] w6 fun e w' => e = .returned .nilIface ∧ BldQ b (W ++ y.t.data.toList ++ [10]) w' ∧ Below b w w' by
          have := HWL.out
          refine (bByte b (W ++ y.t.data.toList) 10 w6 b6 (by rw [List.length_append]; omega) (by have := l6.size; have := HB.out; omega)).mono fun e w' ⟨h1, h2, h3⟩ => ⟨h1, h2, l6.trans h3⟩)
        clear hr t1 t2 hdr hy hF hD hBD hBL hyl
        go_wp2_with (first
          | (go_at_call 38; (with_reducible refine (CB.out _ B6.out L6.out).mono ?_); rintro e w7 ⟨rfl, b7, l7⟩; have B7 := Lib.hid b7; have L7 := Lib.hid l7; clear b7 l7)
          | (go_at_call 37; (with_reducible refine CW.out.mono ?_); rintro e w6 ⟨rfl, b6, l6⟩; have B6 := Lib.hid b6; have L6 := Lib.hid l6; clear b6 l6))
        go_roundw
        case rel => exact ⟨j + 1, _, by go_num, by omega, hlt, HF, HD, B7, L7⟩
        case measure => simp [intOf]; omega
      | false =>
        rw [hr] at c2
        obtain ⟨t1, t2⟩ := tw_stop (r := O.drop (j + 1)) hr
        rw [← hdr] at t1 t2
        have HN := Lib.hid (show rcpS ((O.drop i).takeWhile (·.r)) = W by rw [hF.out, t1]; simp [rcpS])
        have HD := Lib.hid (show (O.drop i).dropWhile (·.r) = O.drop j by rw [hD.out, t2])
        obtain ⟨t, ht, hl1, -⟩ := txt_of W
        have CS := Lib.hid (show Calls Tryz.prog 39 #[.pointer (some ⟨b, 0, none⟩)] wr fun e w' => e = .returned (.string t) ∧ Below b w w' by
          refine (bSaid b W wr hBD.out hbs).mono fun e w' ⟨h1, h2⟩ => ⟨by rw [h1, ht], hBL.out.trans h2⟩)
        rw [← hl1] at HN
        clear hr t1 t2 hdr hy hF hD hBD hBL ht hl1
        go_wp2_with (go_at_call 39; (with_reducible refine CS.out.mono ?_); rintro e w3 ⟨rfl, l3⟩; have L3 := Lib.hid l3; clear l3)
        go_ret2
        exact ⟨⟨t, j, rfl, HN.out.symm, HD.out, hij, hj⟩, GR0.out _ L3.out⟩
    · have t0 : O.drop j = [] := List.drop_of_length_le (by omega)
      have HN := Lib.hid (show rcpS ((O.drop i).takeWhile (·.r)) = W by rw [hF.out, t0]; simp [rcpS])
      have HD := Lib.hid (show (O.drop i).dropWhile (·.r) = O.drop j by rw [hD.out, t0]; rfl)
      obtain ⟨t, ht, hl1, -⟩ := txt_of W
      have CS := Lib.hid (show Calls Tryz.prog 39 #[.pointer (some ⟨b, 0, none⟩)] wr fun e w' => e = .returned (.string t) ∧ Below b w w' by
        refine (bSaid b W wr hBD.out hbs).mono fun e w' ⟨h1, h2⟩ => ⟨by rw [h1, ht], hBL.out.trans h2⟩)
      rw [← hl1] at HN
      clear t0 hF hD hBD hBL ht hl1
      go_wp2_with (go_at_call 39; (with_reducible refine CS.out.mono ?_); rintro e w3 ⟨rfl, l3⟩; have L3 := Lib.hid l3; clear l3)
      go_ret2
      exact ⟨⟨t, j, rfl, HN.out.symm, HD.out, hij, hj⟩, GR0.out _ L3.out⟩
end Go.Proofs.YtdganemgldocoaaGreatDoor

namespace Go.Proofs.YtdganemgldocoaaGreatDoor
open Go.RowKit

theorem infoSp : (Tryz.prog.info? 46).map (fun i => (i.zero, i.size, i.bytes)) = some (some smZ, 10, 128) := by kernel_rfl
/-- what a line says that is not left out -/
def saysS (x : Li) : Except Nat Sm := if x.r then .error 3 else oneS x.t.data.toList
theorem par_out {S : List Sm} {x : Li} {r : List Li} (h : outS x = true) : parS S (x :: r) = parS S r := by
  unfold outS at h
  cases hr : x.r with
  | true => rw [hr, if_pos rfl] at h; exact par_skip hr h
  | false => rw [hr, if_neg (by simp)] at h; exact par_none hr h
theorem par_says {S : List Sm} {x : Li} {r : List Li} (h : outS x = false) : parS S (x :: r) = match saysS x with
    | .error k => .error (k, x.n)
    | .ok y => if y.k = 2 then parS (S ++ [{ y with ln := x.n, rc := rcpS (r.takeWhile (·.r)) }]) (r.dropWhile (·.r)) else parS (S ++ [{ y with ln := x.n }]) r := by
  unfold outS at h
  unfold saysS
  cases hr : x.r with
  | true =>
    rw [hr, if_pos rfl] at h
    rw [if_pos rfl]
    exact par_stray hr (by rw [h]; simp)
  | false =>
    rw [hr, if_neg (by simp)] at h
    rw [if_neg (by simp)]
    cases ho : oneS x.t.data.toList with
    | error k => exact par_err hr (by rw [h]; simp) ho
    | ok y => exact par_one hr (by rw [h]; simp) ho
set_option maxRecDepth 100000 in
set_option maxHeartbeats 8000000 in
theorem sParse (A : Nat → Addr) (v : Value) (O : List Li) (w : World) (hE : SpE A w) (hR : LiRow w v O) (hS : LiS O) : Calls Tryz.prog 9 #[v] w (PSmO (parS [] O) A w) := by
  obtain ⟨va, vc, rfl, hm⟩ := hR.shape
  obtain ⟨iu, hiu, hu0, hu1, hu2⟩ := info_parts infoSp
  have IU := Lib.hid hiu; have ZU0 := Lib.hid hu0; have ZU1 := Lib.hid hu1; have ZU2 := Lib.hid hu2
  have HR := Lib.hid hR; have HS := Lib.hid hS; have HE := Lib.hid hE
  have hn4 : O.length ≤ 4100 := hS.1
  obtain ⟨X, hX⟩ : ∃ X, parS [] O = X := ⟨_, rfl⟩
  rw [hX]
  obtain ⟨base, hbase⟩ : ∃ base, base = w.heap.size := ⟨_, rfl⟩
  have HBL := Lib.hid (show w.heap.size = base from hbase.symm)
  have HX := Lib.hid hX
  clear hiu hu0 hu1 hu2 hR hS hX hm hE hbase
  go_enter Tryz.func9, Tryz.ntmps9
  go_wp2
  go_loopw [4, 5, 6, 7, 8] (fun o_ i_ _ _ _ wr => ∃ (i : Nat) (L : List Sb) (ua : Option Addr) (uc : Nat), i ≤ O.length ∧ i_ = .int .i64 i ∧ o_ = .slice ua L.length uc ∧ L.length ≤ i ∧ Hid (parS (smQ L) (O.drop i) = X) ∧ Hid (OwnS wr base 46 105 102 (.slice ua L.length uc) L) ∧ Hid (w.grownBy wr none)) (fun _ i_ _ _ _ _ => O.length - (intOf i_).toNat)
  case atStart => exact ⟨0, [], none, 0, Nat.zero_le _, rfl, rfl, Nat.le_refl _, Lib.hid (by rw [List.drop_zero]; exact HX.out), Lib.hid (ownS_nil _ _ _ _ _), Lib.hid (World.grownBy.refl _ _)⟩
  case round =>
    obtain ⟨i, L, ua, uc, hi, rfl, rfl, hL, hF, hO, hG⟩ := hrel
    clear HX
    by_cases hlt : i < O.length
    · obtain ⟨lb, off, c, x, ev, hx, hb, c0, c1, c2⟩ := (HR.out.grown hG.out).at i hlt
      injection ev with ev1 ev2 ev3
      subst ev1 ev3
      have hxz : x.t.size ≤ 1000 := HS.out.2.1 x (List.mem_of_getElem? hx)
      have g4 := World.grownBy_alloc wr (.cells #[.string x.t, .int .i64 x.n, .bool x.r] 36) none
      have B4 := Lib.hid (heap_alloc_new wr (.cells #[.string x.t, .int .i64 x.n, .bool x.r] 36))
      have G4 := Lib.hid (hG.out.trans g4)
      have O4 := Lib.hid (hO.out.keep g4)
      have HF := Lib.hid (show parS (smQ L) (x :: O.drop (i + 1)) = X by rw [← li_drop hx]; exact hF.out)
      clear hx hb hG hO g4 hF
      go_upto_region 5 with fail
      generalize wr.alloc _ = w4 at B4 G4 O4 ⊢
      obtain ⟨xb, exb⟩ : ∃ xb, wr.heap.size = xb := ⟨_, rfl⟩
      rw [exb] at B4 ⊢
      clear c0 c1 c2 exb
      obtain ⟨d0, d1, d2⟩ := three_li B4.out
      have CL := Lib.hid (sLeftOut x w4 hxz)
      cases hout : outS x with
      | true =>
        rw [hout] at CL
        have HN := Lib.hid (show parS (smQ L) (O.drop (i + 1)) = X by rw [← par_out hout]; exact HF.out)
        clear hout HF
        go_wp2_with (go_at_call 19; (with_reducible refine CL.out.mono ?_); rintro e w5 ⟨rfl, g5⟩; have G5 := Lib.hid (G4.out.trans g5); have O5 := Lib.hid (O4.out.keep g5); clear g5)
        go_roundw
        case rel => exact ⟨i + 1, L, ua, uc, hlt, by go_num, rfl, by omega, HN, O5, G5⟩
        case measure => simp [intOf]; omega
      | false =>
        rw [hout] at CL
        have HF2 := Lib.hid (show (match saysS x with
          | .error k => .error (k, x.n)
          | .ok y => if y.k = 2 then parS (smQ L ++ [{ y with ln := x.n, rc := rcpS ((O.drop (i + 1)).takeWhile (·.r)) }]) ((O.drop (i + 1)).dropWhile (·.r)) else parS (smQ L ++ [{ y with ln := x.n }]) (O.drop (i + 1))) = X by rw [← par_says hout]; exact HF.out)
        clear hout HF
        go_upto_region 7 with (go_at_call 19; (with_reducible refine CL.out.mono ?_); rintro e w5 ⟨rfl, g5⟩; have G5 := Lib.hid (G4.out.trans g5); have O5 := Lib.hid (O4.out.keep g5); have B5 := Lib.hid (kept_at g5 B4.out); clear g5)
        clear d0 d1 d2
        obtain ⟨d0, d1, d2⟩ := three_li B5.out
        have CST := Lib.hid (sStatement A x w5 (HE.out.grown G5.out) hxz)
        go_wp2_with fail
        refine CST.out.mono ?_
        rintro e w6 ⟨g6, hout⟩
        have hout : match saysS x with
          | .ok y => ∃ (z : Sb) (ha : Option Addr) (hc : Nat) (wa : Option Addr) (wc : Nat), e = .returned (.tuple #[smA (.slice ha z.hs.length hc) (.slice wa z.ws.length wc) z, .nilIface]) ∧ z.q = { y with ln := x.n } ∧ (z.hs.length ≤ 5001 ∧ z.ws.length ≤ 5001 ∧ z.rc = ⟨#[]⟩) ∧
              OwnRR w6 w5.heap.size 105 102 (.slice ha z.hs.length hc) z.hs ∧ OwnRR w6 w5.heap.size 105 102 (.slice wa z.ws.length wc) z.ws
          | .error k => k ≠ 0 ∧ e = .returned (.tuple #[smZ, errV A k]) := hout
        have G6 := Lib.hid (G5.out.trans g6)
        have O6 := Lib.hid (O5.out.keep g6)
        have B6 := Lib.hid (kept_at g6 B5.out)
        have HB5 := Lib.hid (show base ≤ w5.heap.size by have := G5.out.size; have := HBL.out; omega)
        clear g6 CST CL d0 d1 d2
        cases hs : saysS x with
        | error k =>
          rw [hs] at hout HF2
          obtain ⟨hk, rfl⟩ := hout
          have HN := Lib.hid (show X = .error (k, x.n) from HF2.out.symm)
          have HK := Lib.hid (errV_ne (A := A) hk)
          rw [errV_ne hk]
          have g7 := World.grownBy_alloc w6 (.cells #[.int .i64 0, .int .i64 0, .string ⟨#[]⟩, .slice none 0 0, .slice none 0 0, .int .i64 0, .string ⟨#[]⟩, .string ⟨#[]⟩, .bool false, .bool false] 46) none
          have B7 := Lib.hid (kept_at g7 B6.out)
          have G7 := Lib.hid (G6.out.trans g7)
          clear hs HF2 hk g7
          go_upto_region 8 with fail
          generalize w6.alloc _ = w7 at B7 G7 ⊢
          obtain ⟨d0, d1, d2⟩ := three_li B7.out
          go_wp2
          go_region
          go_wp2
          go_ret2
          refine ⟨grown_drew (G7.out.trans (World.grownBy_alloc _ _ _)), ?_⟩
          rw [HN.out]
          exact ⟨none, 0, w7.heap.size, rfl, by rw [HK.out]; exact heap_alloc_new w7 _⟩
        | ok y =>
          rw [hs] at hout HF2
          obtain ⟨z, ha, hc, wa, wc, rfl, hq, ⟨hs1, hs2, hs3⟩, oh, ow⟩ := hout
          have hyk : z.k = y.k := congrArg Sm.k hq
          have HF3 := Lib.hid (show (if z.k = 2 then parS (smQ L ++ [{ z.q with rc := rcpS ((O.drop (i + 1)).takeWhile (·.r)) }]) ((O.drop (i + 1)).dropWhile (·.r)) else parS (smQ L ++ [z.q]) (O.drop (i + 1))) = X by rw [hyk, hq]; exact HF2.out)
          have HSZ := Lib.hid (show z.hs.length ≤ 9223372036854775807 ∧ z.ws.length ≤ 9223372036854775807 by omega)
          have g7 := World.grownBy_alloc w6 (.cells #[.int .i64 z.k, .int .i64 z.ln, .string z.nm, .slice ha z.hs.length hc, .slice wa z.ws.length wc, .int .i64 z.fl, .string z.pr, .string z.rc, .bool z.hd, .bool z.cm] 46) none
          have BS := Lib.hid (heap_alloc_new w6 (.cells #[.int .i64 z.k, .int .i64 z.ln, .string z.nm, .slice ha z.hs.length hc, .slice wa z.ws.length wc, .int .i64 z.fl, .string z.pr, .string z.rc, .bool z.hd, .bool z.cm] 46))
          have G7 := Lib.hid (G6.out.trans g7)
          have O7 := Lib.hid (O6.out.keep g7)
          have OH7 := Lib.hid ((OwnRR.up oh HB5.out).keep g7)
          have OW7 := Lib.hid ((OwnRR.up ow HB5.out).keep g7)
          clear hs HF2 g7 hq oh ow hyk hs1 hs2 hs3
          go_upto_region 8 with fail
          generalize w6.alloc _ = w7 at BS G7 O7 OH7 OW7 ⊢
          obtain ⟨sb, esb⟩ : ∃ sb, w6.heap.size = sb := ⟨_, rfl⟩
          rw [esb] at BS ⊢
          have HUB := Lib.hid (show ∀ k, (Value.slice ua L.length uc).ownBlock = some k → k < sb from fun k hk => by have := (OwnS.lt O6.out k hk).2; omega)
          have HSB := Lib.hid (show w.heap.size ≤ sb by have := G6.out.size; omega)
          clear esb O6 B6
          obtain ⟨a0, a1, a2, a3, a4, a5, a6, a7, a8, a9⟩ := ten_at BS.out
          by_cases hk2 : z.k = 2
          · have e2 : ((z.k : Int) == 2) = true := by rw [hk2]; rfl
            have HF4 := Lib.hid (show parS (smQ L ++ [{ z.q with rc := rcpS ((O.drop (i + 1)).takeWhile (·.r)) }]) ((O.drop (i + 1)).dropWhile (·.r)) = X by rw [← HF3.out, if_pos hk2])
            have CR := Lib.hid (sRecipe _ O (i + 1) w7 (HR.out.grown G7.out) HS.out hlt)
            have HK2 := Lib.hid hk2
            clear hk2 HF3
            clear a0 a1 a2 a3 a4 a5 a6 a7 a8 a9
            have a0 := (ten_at BS.out).1
            go_wp2_with fail
            refine CR.out.mono ?_
            rintro e w8 ⟨⟨t, j, rfl, ht, hd, hj1, hj2⟩, g8⟩
            have HEND := Lib.hid (show parS (smQ (L ++ [{ z with rc := t }])) (O.drop j) = X by
              rw [← HF4.out, ← ht, hd]; simp [Sb.q])
            have BS8 := Lib.hid (kept_at g8 BS.out)
            have G8 := Lib.hid (G7.out.trans g8)
            have O8 := Lib.hid (O7.out.keep g8)
            have OH8 := Lib.hid (OH7.out.keep g8)
            have OW8 := Lib.hid (OW7.out.keep g8)
            have BS9 := Lib.hid (set_t7 BS8.out (.string t))
            have G10 := Lib.hid (grown_at1 G8.out 7 (.string t) HSB.out)
            have O10 := Lib.hid (OwnS.set O8.out BS8.out (by decide) (by decide) HUB.out 7 (.string t))
            have OH10 := Lib.hid (OwnRR.set OH8.out BS8.out (by decide) (by decide) 7 (.string t))
            have OW10 := Lib.hid (OwnRR.set OW8.out BS8.out (by decide) (by decide) 7 (.string t))
            clear a0 g8 ht hd CR HF4
            have a7 := (ten_at BS8.out).2.2.2.2.2.2.2.1
            have fs := free_at BS8.out
            go_upto_region 12 with fail
            generalize w8.setCell _ _ = w10 at BS9 G10 O10 OH10 OW10 ⊢
            clear a7 fs
            obtain ⟨a0, a1, a2, a3, a4, a5, a6, a7, a8, a9⟩ := ten_at BS9.out
            have HL2 := Lib.hid (show (L ++ [{ z with rc := t }]).length = L.length + 1 by simp)
            obtain ⟨us, hus, hov, hoi⟩ := O10.out
            have HUS := Lib.hid hus; have HOI := Lib.hid hoi; have OV := Lib.hid hov
            have HONE := Lib.hid (sm_one OH10.out.one OW10.out.one { z with rc := t })
            have HBK := Lib.hid (fun k hk => own_cells hov k hk)
            clear hus hoi hov
            go_wp2_with (at_builtin; refine wpList_append_own _ rfl _ _ 23 rfl base 46 iu _ 10 128 Tryz.underlying23 IU.out ZU0.out ZU1.out ZU2.out rfl (by decide) _ _ _ rfl (OV.out.alloc _) ⟨_, 0, none⟩ 1 1 (smC (.slice ha z.hs.length hc) (.slice wa z.ws.length wc) { z with rc := t }) rfl rfl (sm_new _ (.slice ha z.hs.length hc) (.slice wa z.ws.length wc) { z with rc := t } _ _ (by first | rfl | simp)) HONE.out (by unfold maxLen; omega) (by omega) (by have := G10.out.size; have := HBL.out; first | omega | (simp; omega)) ?_; intro v9 w9 hown9 hgrow9 _; have O9 := Lib.hid (OwnS.snoc HUS.out (fun j u y h1 h2 => by obtain ⟨k1, k2, k3⟩ := HOI.out j u y h1 h2; exact ⟨k1.keep (World.grownBy_alloc _ _ _), k2.keep (World.grownBy_alloc _ _ _), k3⟩) (x := { z with rc := t }) (OwnRR.keep OH10.out (World.grownBy_alloc _ _ _)) (OwnRR.keep OW10.out (World.grownBy_alloc _ _ _)) HSZ.out hgrow9 (fun k hk => by obtain ⟨c, hc⟩ := HBK.out k hk; exact ⟨c, kept_at (World.grownBy_alloc _ _ _) hc⟩) (by decide) hown9); have G9 := Lib.hid ((G10.out.trans (World.grownBy_alloc _ _ _)).andThen hgrow9 (fun k hk => .inl (by have := (OV.out.lt k hk).1; have := HBL.out; omega))); clear hown9 hgrow9)
            obtain ⟨va9, vc9, rfl⟩ := OwnS.shape O9.out
            rw [HL2.out] at O9
            go_roundw
            case rel => exact ⟨j, L ++ [{ z with rc := t }], va9, vc9, by omega, by go_num, by rw [HL2.out], by rw [HL2.out]; omega, HEND, by rw [HL2.out]; exact O9, G9⟩
            case measure => simp [intOf]; omega
          · have e2 : ((z.k : Int) == 2) = false := by rw [beq_eq_false_iff_ne]; exact hk2
            have HEND := Lib.hid (show parS (smQ (L ++ [z])) (O.drop (i + 1)) = X by
              rw [← HF3.out, if_neg hk2]; simp)
            clear hk2 HF3
            have HL2 := Lib.hid (show (L ++ [z]).length = L.length + 1 by simp)
            obtain ⟨us, hus, hov, hoi⟩ := O7.out
            have HUS := Lib.hid hus; have HOI := Lib.hid hoi; have OV := Lib.hid hov
            have HONE := Lib.hid (sm_one OH7.out.one OW7.out.one z)
            have HBK := Lib.hid (fun k hk => own_cells hov k hk)
            clear hus hoi hov
            go_wp2_with (at_builtin; refine wpList_append_own _ rfl _ _ 23 rfl base 46 iu _ 10 128 Tryz.underlying23 IU.out ZU0.out ZU1.out ZU2.out rfl (by decide) _ _ _ rfl (OV.out.alloc _) ⟨_, 0, none⟩ 1 1 (smC (.slice ha z.hs.length hc) (.slice wa z.ws.length wc) z) rfl rfl (sm_new _ (.slice ha z.hs.length hc) (.slice wa z.ws.length wc) z _ _ (by first | rfl | simp)) HONE.out (by unfold maxLen; omega) (by omega) (by have := G7.out.size; have := HBL.out; first | omega | (simp; omega)) ?_; intro v9 w9 hown9 hgrow9 _; have O9 := Lib.hid (OwnS.snoc HUS.out (fun j u y h1 h2 => by obtain ⟨k1, k2, k3⟩ := HOI.out j u y h1 h2; exact ⟨k1.keep (World.grownBy_alloc _ _ _), k2.keep (World.grownBy_alloc _ _ _), k3⟩) (x := z) (OwnRR.keep OH7.out (World.grownBy_alloc _ _ _)) (OwnRR.keep OW7.out (World.grownBy_alloc _ _ _)) HSZ.out hgrow9 (fun k hk => by obtain ⟨c, hc⟩ := HBK.out k hk; exact ⟨c, kept_at (World.grownBy_alloc _ _ _) hc⟩) (by decide) hown9); have G9 := Lib.hid ((G7.out.trans (World.grownBy_alloc _ _ _)).andThen hgrow9 (fun k hk => .inl (by have := (OV.out.lt k hk).1; have := HBL.out; omega))); clear hown9 hgrow9)
            obtain ⟨va9, vc9, rfl⟩ := OwnS.shape O9.out
            rw [HL2.out] at O9
            go_roundw
            case rel => exact ⟨i + 1, L ++ [z], va9, vc9, by omega, by go_num, by rw [HL2.out], by rw [HL2.out]; omega, HEND, by rw [HL2.out]; exact O9, G9⟩
            case measure => simp [intOf]; omega
    · have HN := Lib.hid (show X = .ok (smQ L) by rw [← hF.out, List.drop_of_length_le (by omega), parS])
      go_wp2
      go_ret2
      refine ⟨hG.out, ?_⟩
      rw [HN.out]
      exact ⟨_, L, rfl, hO.out.row (by omega), rfl⟩
end Go.Proofs.YtdganemgldocoaaGreatDoor

namespace Go.Proofs.YtdganemgldocoaaGreatDoor
open Go.RowKit

/-- what package stmt and package lines read -/
structure SpL (A : Nat → Addr) (w : World) : Prop where
  s : SpE A w
  two : TwoE A w
theorem SpL.grown {A : Nat → Addr} {w w' : World} (h : SpL A w) (g : w.grownBy w' none) : SpL A w' := ⟨h.s.grown g, h.two.grown g⟩
theorem len_of {l : List UInt8} {O : List Lb} {L : List Lq} (h : spL l = .ok L) (hO : lnQ O = L) : O.length ≤ l.length := by
  have h1 := (spL_rise h).2.2
  have h2 := linQ_len l
  rw [← hO, List.length_map] at h1
  omega
set_option maxRecDepth 100000 in
set_option maxHeartbeats 4000000 in
theorem sOf (A : Nat → Addr) (s : ByteArray) (w : World) (hE : SpL A w) (hs : s.size ≤ 5000) : Calls Tryz.prog 6 #[.string s] w (PSmO (ofS s.data.toList) A w) := by
  have CS := Lib.hid (pSplitLn A s w ⟨hE.two, hE.s.m⟩ hs)
  have HE := Lib.hid hE
  clear hE
  go_enter Tryz.func6, Tryz.ntmps6
  go_wp2_with fail
  refine CS.out.mono ?_
  rintro e w1 ⟨g1, hout⟩
  have G1 := Lib.hid g1
  cases hsp : spL s.data.toList with
  | error x =>
    obtain ⟨bad, line⟩ := x
    rw [hsp] at hout
    obtain ⟨a, c, q, rfl, hf⟩ := hout
    have HN := Lib.hid (show ofS s.data.toList = .error (bad, (line : Int)) by unfold ofS; rw [hsp])
    have HF := Lib.hid hf
    clear hsp g1 CS hf
    go_wp2
    go_ret2
    refine ⟨G1.out, ?_⟩
    rw [HN.out]
    exact ⟨none, 0, q, rfl, HF.out⟩
  | ok L =>
    rw [hsp] at hout
    obtain ⟨v, O, rfl, ho, hO⟩ := hout
    have HN := Lib.hid (show ofS s.data.toList = parS [] (O.map Lb.i) by
      have hm : (lnQ O).map Lq.i = O.map Lb.i := by unfold lnQ; rw [List.map_map]; exact List.map_congr_left fun x _ => lb_qi x
      unfold ofS; rw [hsp, ← hO]
      show parS [] ((lnQ O).map Lq.i) = _
      rw [hm])
    have hlis := lis_of hsp hO (len_of hsp hO)
    have hR := li_of_ln ho
    obtain ⟨va, vc, hv, -⟩ := hR.shape
    rw [List.length_map] at hv
    subst hv
    have CP := Lib.hid (sParse A _ (O.map Lb.i) w1 (HE.out.s.grown g1) hR hlis)
    clear hsp CS ho hO hlis hR g1
    go_wp2_with fail
    refine CP.out.mono ?_
    rintro e w2 ⟨g2, hout⟩
    have G2 := Lib.hid (G1.out.trans g2)
    clear CP g2
    cases hp : parS [] (O.map Lb.i) with
    | error x =>
      rw [hp] at hout HN
      obtain ⟨a, c, q, rfl, hf⟩ := hout
      have HF := Lib.hid hf
      clear hp hf
      go_wp2
      go_ret2
      refine ⟨G2.out, ?_⟩
      rw [HN.out]
      exact ⟨a, c, q, rfl, HF.out⟩
    | ok S =>
      rw [hp] at hout HN
      obtain ⟨v, L2, rfl, hr, hq⟩ := hout
      have HR := Lib.hid hr; have HQ := Lib.hid hq
      clear hp hr hq
      go_wp2
      go_ret2
      refine ⟨G2.out, ?_⟩
      rw [HN.out]
      exact ⟨v, L2, rfl, HR.out, HQ.out⟩
theorem eqlAtP (f g : Int) (p q : ByteArray) (w : World) : (binOp .eql 44 (atV f p) (atV g q)).run Tryz.prog w = .ok (.bool (f == g && p.toList == q.toList)) w := by
  have hS : Tryz.prog.underlying 44 = some (.struct (Tryz.prog.fieldsOf 44)) := by kernel_rfl
  have hp : Tryz.prog.stoodInHeld 44 = false := by kernel_rfl
  have u3 := Tryz.underlying3
  have a3 := Tryz.isAgg3
  have z3 := Tryz.sizeOf3
  have u9 := Tryz.underlying9
  have a9 := Tryz.isAgg9
  have z9 := Tryz.sizeOf9
  rw [run_eql_struct, show (10000 : Nat) = 9999 + 1 from rfl, run_equalIn_agg w 9999 _ _ _ hS hp]
  simp only [Program.fieldsOf, Tryz.underlying44]
  go_simp
  by_cases h1 : (f == g) = true <;> by_cases h2 : (p.toList == q.toList) = true <;> simp_all
set_option maxRecDepth 100000 in
set_option maxHeartbeats 16000000 in
theorem sSame (x y : Sb) (hv wv hu wu : Value) (w : World) (h1 : RRow w hv x.hs) (h2 : RRow w wv x.ws) (h3 : RRow w hu y.hs) (h4 : RRow w wu y.ws) : Calls Tryz.prog 12 #[smA hv wv x, smA hu wu y] w fun e w' =>
    (∃ z, e = .returned (.bool z) ∧ (z = true ↔ x = y)) ∧ w.grownBy w' none := by
  obtain ⟨ha, hc, rfl, -⟩ := h1.shape
  obtain ⟨wa, wc, rfl, -⟩ := h2.shape
  obtain ⟨ka, kc, rfl, -⟩ := h3.shape
  obtain ⟨va, vc, rfl, -⟩ := h4.shape
  have CH := Lib.hid (fun W (g : w.grownBy W none) => xSame _ _ x.hs y.hs W (h1.grown g) (h3.grown g))
  have CW := Lib.hid (fun W (g : w.grownBy W none) => xSame _ _ x.ws y.ws W (h2.grown g) (h4.grown g))
  obtain ⟨b1, b2, b3, b4, b5, b6, b7, e1, e2, e3, e4, e5, e6, e7, hyes, hno⟩ := sm_cases x y
  have HY := Lib.hid hyes; have HN := Lib.hid hno
  obtain ⟨B1, B2, G2⟩ := heap2 w (.cells #[.int .i64 x.k, .int .i64 x.ln, .string x.nm, .slice ha x.hs.length hc, .slice wa x.ws.length wc, .int .i64 x.fl, .string x.pr, .string x.rc, .bool x.hd, .bool x.cm] 46) (.cells #[.int .i64 y.k, .int .i64 y.ln, .string y.nm, .slice ka y.hs.length kc, .slice va y.ws.length vc, .int .i64 y.fl, .string y.pr, .string y.rc, .bool y.hd, .bool y.cm] 46)
  have BX := Lib.hid B1; have BY := Lib.hid B2; have HG := Lib.hid G2
  clear B1 B2 G2 h1 h2 h3 h4 hyes hno
  go_enter Tryz.func12, Tryz.ntmps12
  go_upto_region 1 with fail
  generalize (w.alloc _).alloc _ = w2 at BX BY HG ⊢
  obtain ⟨q, eq⟩ : ∃ q, w.heap.size + 1 = q := ⟨_, rfl⟩
  rw [eq] at BY ⊢
  obtain ⟨p, ep⟩ : ∃ p, w.heap.size = p := ⟨_, rfl⟩
  rw [ep] at BX ⊢
  clear eq ep
  obtain ⟨p0, p1, p2, p3, p4, p5, p6, p7, p8, p9⟩ := ten_at BX.out
  obtain ⟨q0, q1, q2, q3, q4, q5, q6, q7, q8, q9⟩ := ten_at BY.out
  have QA := eqlAtP (x.fl : Int) (y.fl : Int) x.pr y.pr
  rw [e4] at QA
  clear e4
  cases b1 with
  | false =>
    go_wp2
    go_ret
    exact ⟨⟨false, rfl, ⟨fun h => (by cases h), fun h => by have := HN.out h; simp at this⟩⟩, HG.out⟩
  | true =>
    cases b2 with
    | false =>
      go_wp2
      go_ret
      exact ⟨⟨false, rfl, ⟨fun h => (by cases h), fun h => by have := HN.out h; simp at this⟩⟩, HG.out⟩
    | true =>
      cases b3 with
      | false =>
        go_wp2
        go_ret
        exact ⟨⟨false, rfl, ⟨fun h => (by cases h), fun h => by have := HN.out h; simp at this⟩⟩, HG.out⟩
      | true =>
        by_cases hh : x.hs = y.hs
        case neg =>
          have CH1 := Lib.hid (fun W g => (CH.out W g).mono (R' := fun e w' => e = .returned (.bool false) ∧ W.grownBy w' none) fun e w' ⟨⟨z, hz, hi⟩, g'⟩ => ⟨by rw [hz]; cases z; rfl; exact absurd (hi.1 rfl) hh, g'⟩)
          have HE := Lib.hid (show ¬ x = y from fun h => hh (by rw [h]))
          clear hh CH CW
          go_wp2_with (go_at_call 24; (with_reducible refine (CH1.out _ HG.out).mono ?_); rintro e w5 ⟨rfl, g5⟩; have G5 := Lib.hid (HG.out.trans g5); obtain ⟨c0, c1, c2, c3, c4, c5, c6, c7, c8, c9⟩ := ten_at (kept_at g5 BX.out); obtain ⟨d0, d1, d2, d3, d4, d5, d6, d7, d8, d9⟩ := ten_at (kept_at g5 BY.out); clear g5)
          go_ret
          exact ⟨⟨false, rfl, ⟨fun h => (by cases h), fun h => absurd h HE.out⟩⟩, G5.out⟩
        have CH1 := Lib.hid (fun W g => (CH.out W g).mono (R' := fun e w' => e = .returned (.bool true) ∧ W.grownBy w' none) fun e w' ⟨⟨z, hz, hi⟩, g'⟩ => ⟨by rw [hz, hi.2 hh], g'⟩)
        by_cases hw : x.ws = y.ws
        case neg =>
          have CW1 := Lib.hid (fun W g => (CW.out W g).mono (R' := fun e w' => e = .returned (.bool false) ∧ W.grownBy w' none) fun e w' ⟨⟨z, hz, hi⟩, g'⟩ => ⟨by rw [hz]; cases z; rfl; exact absurd (hi.1 rfl) hw, g'⟩)
          have HE := Lib.hid (show ¬ x = y from fun h => hw (by rw [h]))
          clear hh hw CH CW
          go_wp2_with (first
            | (go_at_call 24; (with_reducible refine (CW1.out _ G5.out).mono ?_); rintro e w6 ⟨rfl, g6⟩; have G6 := Lib.hid (G5.out.trans g6); clear g6)
            | (go_at_call 24; (with_reducible refine (CH1.out _ HG.out).mono ?_); rintro e w5 ⟨rfl, g5⟩; have G5 := Lib.hid (HG.out.trans g5); obtain ⟨c0, c1, c2, c3, c4, c5, c6, c7, c8, c9⟩ := ten_at (kept_at g5 BX.out); obtain ⟨d0, d1, d2, d3, d4, d5, d6, d7, d8, d9⟩ := ten_at (kept_at g5 BY.out); clear g5))
          go_ret
          exact ⟨⟨false, rfl, ⟨fun h => (by cases h), fun h => absurd h HE.out⟩⟩, G6.out⟩
        have CW1 := Lib.hid (fun W g => (CW.out W g).mono (R' := fun e w' => e = .returned (.bool true) ∧ W.grownBy w' none) fun e w' ⟨⟨z, hz, hi⟩, g'⟩ => ⟨by rw [hz, hi.2 hw], g'⟩)
        have HEQ := Lib.hid (fun h => HY.out h hh hw)
        clear hh hw CH CW HY
        cases b4 with
        | false =>
          go_wp2_with (first
            | (go_at_call 24; (with_reducible refine (CW1.out _ G5.out).mono ?_); rintro e w6 ⟨rfl, g6⟩; have G6 := Lib.hid (G5.out.trans g6); obtain ⟨f0, f1, f2, f3, f4, f5, f6, f7, f8, f9⟩ := ten_at (kept_at g6 BX5.out); obtain ⟨k0, k1, k2, k3, k4, k5, k6, k7, k8, k9⟩ := ten_at (kept_at g6 BY5.out); clear g6)
            | (go_at_call 24; (with_reducible refine (CH1.out _ HG.out).mono ?_); rintro e w5 ⟨rfl, g5⟩; have G5 := Lib.hid (HG.out.trans g5); have BX5 := Lib.hid (kept_at g5 BX.out); have BY5 := Lib.hid (kept_at g5 BY.out); obtain ⟨c0, c1, c2, c3, c4, c5, c6, c7, c8, c9⟩ := ten_at (kept_at g5 BX.out); obtain ⟨d0, d1, d2, d3, d4, d5, d6, d7, d8, d9⟩ := ten_at (kept_at g5 BY.out); clear g5))
          go_ret
          exact ⟨⟨false, rfl, ⟨fun h => (by cases h), fun h => by have := HN.out h; simp at this⟩⟩, G6.out⟩
        | true =>
          cases b5 with
          | false =>
            go_wp2_with (first
              | (go_at_call 24; (with_reducible refine (CW1.out _ G5.out).mono ?_); rintro e w6 ⟨rfl, g6⟩; have G6 := Lib.hid (G5.out.trans g6); obtain ⟨f0, f1, f2, f3, f4, f5, f6, f7, f8, f9⟩ := ten_at (kept_at g6 BX5.out); obtain ⟨k0, k1, k2, k3, k4, k5, k6, k7, k8, k9⟩ := ten_at (kept_at g6 BY5.out); clear g6)
              | (go_at_call 24; (with_reducible refine (CH1.out _ HG.out).mono ?_); rintro e w5 ⟨rfl, g5⟩; have G5 := Lib.hid (HG.out.trans g5); have BX5 := Lib.hid (kept_at g5 BX.out); have BY5 := Lib.hid (kept_at g5 BY.out); obtain ⟨c0, c1, c2, c3, c4, c5, c6, c7, c8, c9⟩ := ten_at (kept_at g5 BX.out); obtain ⟨d0, d1, d2, d3, d4, d5, d6, d7, d8, d9⟩ := ten_at (kept_at g5 BY.out); clear g5))
            go_ret
            exact ⟨⟨false, rfl, ⟨fun h => (by cases h), fun h => by have := HN.out h; simp at this⟩⟩, G6.out⟩
          | true =>
            cases b6 with
            | false =>
              go_wp2_with (first
                | (go_at_call 24; (with_reducible refine (CW1.out _ G5.out).mono ?_); rintro e w6 ⟨rfl, g6⟩; have G6 := Lib.hid (G5.out.trans g6); obtain ⟨f0, f1, f2, f3, f4, f5, f6, f7, f8, f9⟩ := ten_at (kept_at g6 BX5.out); obtain ⟨k0, k1, k2, k3, k4, k5, k6, k7, k8, k9⟩ := ten_at (kept_at g6 BY5.out); clear g6)
                | (go_at_call 24; (with_reducible refine (CH1.out _ HG.out).mono ?_); rintro e w5 ⟨rfl, g5⟩; have G5 := Lib.hid (HG.out.trans g5); have BX5 := Lib.hid (kept_at g5 BX.out); have BY5 := Lib.hid (kept_at g5 BY.out); obtain ⟨c0, c1, c2, c3, c4, c5, c6, c7, c8, c9⟩ := ten_at (kept_at g5 BX.out); obtain ⟨d0, d1, d2, d3, d4, d5, d6, d7, d8, d9⟩ := ten_at (kept_at g5 BY.out); clear g5))
              go_ret
              exact ⟨⟨false, rfl, ⟨fun h => (by cases h), fun h => by have := HN.out h; simp at this⟩⟩, G6.out⟩
            | true =>
              cases b7 with
              | false =>
                go_wp2_with (first
                  | (go_at_call 24; (with_reducible refine (CW1.out _ G5.out).mono ?_); rintro e w6 ⟨rfl, g6⟩; have G6 := Lib.hid (G5.out.trans g6); obtain ⟨f0, f1, f2, f3, f4, f5, f6, f7, f8, f9⟩ := ten_at (kept_at g6 BX5.out); obtain ⟨k0, k1, k2, k3, k4, k5, k6, k7, k8, k9⟩ := ten_at (kept_at g6 BY5.out); clear g6)
                  | (go_at_call 24; (with_reducible refine (CH1.out _ HG.out).mono ?_); rintro e w5 ⟨rfl, g5⟩; have G5 := Lib.hid (HG.out.trans g5); have BX5 := Lib.hid (kept_at g5 BX.out); have BY5 := Lib.hid (kept_at g5 BY.out); obtain ⟨c0, c1, c2, c3, c4, c5, c6, c7, c8, c9⟩ := ten_at (kept_at g5 BX.out); obtain ⟨d0, d1, d2, d3, d4, d5, d6, d7, d8, d9⟩ := ten_at (kept_at g5 BY.out); clear g5))
                go_ret
                exact ⟨⟨false, rfl, ⟨fun h => (by cases h), fun h => by have := HN.out h; simp at this⟩⟩, G6.out⟩
              | true =>
                go_wp2_with (first
                  | (go_at_call 24; (with_reducible refine (CW1.out _ G5.out).mono ?_); rintro e w6 ⟨rfl, g6⟩; have G6 := Lib.hid (G5.out.trans g6); obtain ⟨f0, f1, f2, f3, f4, f5, f6, f7, f8, f9⟩ := ten_at (kept_at g6 BX5.out); obtain ⟨k0, k1, k2, k3, k4, k5, k6, k7, k8, k9⟩ := ten_at (kept_at g6 BY5.out); clear g6)
                  | (go_at_call 24; (with_reducible refine (CH1.out _ HG.out).mono ?_); rintro e w5 ⟨rfl, g5⟩; have G5 := Lib.hid (HG.out.trans g5); have BX5 := Lib.hid (kept_at g5 BX.out); have BY5 := Lib.hid (kept_at g5 BY.out); obtain ⟨c0, c1, c2, c3, c4, c5, c6, c7, c8, c9⟩ := ten_at (kept_at g5 BX.out); obtain ⟨d0, d1, d2, d3, d4, d5, d6, d7, d8, d9⟩ := ten_at (kept_at g5 BY.out); clear g5))
                go_ret
                exact ⟨⟨true, rfl, ⟨fun _ => HEQ.out rfl, fun _ => rfl⟩⟩, G6.out⟩
theorem sWord (k : Int) (w : World) : Calls Tryz.prog 11 #[.int .i64 k] w fun e w' => e = .returned (.string (wordS k)) ∧ w.grownBy w' none := by
  rcases word_cases k with ⟨-, -, rfl | rfl | rfl⟩ | ⟨hk, hn⟩
  · go_enter Tryz.func11, Tryz.ntmps11
    go_wp2
    go_ret
    exact ⟨rfl, World.grownBy.refl _ _⟩
  · go_enter Tryz.func11, Tryz.ntmps11
    go_wp2
    go_ret
    exact ⟨rfl, World.grownBy.refl _ _⟩
  · go_enter Tryz.func11, Tryz.ntmps11
    go_wp2
    go_ret
    exact ⟨rfl, World.grownBy.refl _ _⟩
  · have e1 : (k == 1) = false := by rw [beq_eq_false_iff_ne]; omega
    have e2 : (k == 2) = false := by rw [beq_eq_false_iff_ne]; omega
    have e3 : (k == 3) = false := by rw [beq_eq_false_iff_ne]; omega
    have HN := Lib.hid hn
    clear hk hn
    go_enter Tryz.func11, Tryz.ntmps11
    go_wp2
    go_ret
    exact ⟨by rw [HN.out]; rfl, World.grownBy.refl _ _⟩
/-- what is proved of package stmt, where E holds -/
theorem smProg {A : Nat → Addr} {E : World → Prop} (hg : ∀ w w' : World, E w → w.grownBy w' none → E w') (hE : ∀ w, E w → SpL A w) : SmC A E where
  gr := hg
  of := fun s w h hs => sOf A s w (hE w h) hs
  same := fun x y hv wv hu wu w _ h1 h2 h3 h4 => sSame x y hv wv hu wu w h1 h2 h3 h4
end Go.Proofs.YtdganemgldocoaaGreatDoor

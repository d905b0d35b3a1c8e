/- The law StemFills, walked: every pattern with every stem. -/
import Derived.Test.YtjhoobomilpdlaaLawStM
namespace Go.Proofs.Ytjhoobomilpdlaa
open Go.RowKit

theorem TxRow.grownS {w w' : World} {v : Value} {l : List ByteArray} (h : TxRow w v l) (hg : w.grownBy w' none) : TxRow w' v l := h.later (below_of_grown hg)
theorem MarkT.grownS {w w' : World} {b : Nat} {v : Value} {l : List ByteArray} (h : MarkT w b v l) (hg : w.grownBy w' none) : MarkT w' b v l := h.later (below_of_grown hg)
set_option maxRecDepth 100000 in
set_option maxHeartbeats 4000000 in
theorem lStemFills (v : Value) (l : List ByteArray) (s : ByteArray) (w : World) (h : TxRow w v l) : Calls Try.prog 4 #[v, .string s] w fun e w' => e = .returned (.bool true) ∧ w.grownBy w' none := by
  have CA := Lib.hid (lAlive15 w)
  have HR := Lib.hid h
  obtain ⟨a, c, rfl, -, -⟩ := h
  have CL := Lib.hid (fun w' (g : w.grownBy w' none) => show Calls Try.prog 11 #[.slice a l.length c, .int .i64 20, .int .i64 60] w' fun e w'' => e = .returned (.bool (longQ 20 60 l)) ∧ w' = w'' from cLongT _ l 20 60 w' (HR.out.grownS g))
  cases hlong : longQ 20 60 l
  case true =>
    rw [hlong] at CL
    go_enter Try.func4, Try.ntmps4
    go_wp2_with (first
      | (go_at_call 6; (with_reducible refine CA.out.mono ?_); rintro e w1 ⟨rfl, g1⟩; have G1 := Lib.hid g1; clear g1)
      | (go_at_call 11; (with_reducible refine (CL.out _ G1.out).mono ?_); rintro e w2 ⟨rfl, rfl⟩))
    go_ret
    exact ⟨rfl, G1.out⟩
  rw [hlong] at CL
  by_cases hs : 60 < s.size
  · go_enter Try.func4, Try.ntmps4
    go_wp2_with (first
      | (go_at_call 6; (with_reducible refine CA.out.mono ?_); rintro e w1 ⟨rfl, g1⟩; have G1 := Lib.hid g1; clear g1)
      | (go_at_call 11; (with_reducible refine (CL.out _ G1.out).mono ?_); rintro e w2 ⟨rfl, rfl⟩))
    go_ret
    exact ⟨rfl, G1.out⟩
  obtain ⟨h20, h60'⟩ := longQ_short hlong
  have H60 := Lib.hid h60'
  clear hlong h60'
  have CT := Lib.hid (fun w' (g : w.grownBy w' none) => cTextsT _ l w' (HR.out.grownS g) (by omega))
  obtain ⟨iu, hiu, hu0, hu1, hu2⟩ := info_parts infoTx
  have IU := Lib.hid hiu; have ZU0 := Lib.hid hu0; have ZU1 := Lib.hid hu1; have ZU2 := Lib.hid hu2
  clear hiu hu0 hu1 hu2
  go_enter Try.func4, Try.ntmps4
  go_upto_region 6 with (first
      | (go_at_call 6; (with_reducible refine CA.out.mono ?_); rintro e w1 ⟨rfl, g1⟩; have G1 := Lib.hid g1; clear g1)
      | (go_at_call 11; (with_reducible refine (CL.out _ G1.out).mono ?_); rintro e w2 ⟨rfl, rfl⟩)
      | (go_at_call 12; (with_reducible refine (CT.out _ G1.out).mono ?_); rintro e w3 ⟨u, rfl, hm, hb⟩; have G3 := Lib.hid (G1.out.trans (grown_of_below hb)); have HM := Lib.hid hm; clear hm hb))
  generalize w1.heap.size = base0 at HM
  clear CA CL CT G1
  obtain ⟨base, hbase⟩ : ∃ base, base = w3.heap.size := ⟨_, rfl⟩
  have HBL := Lib.hid (show w3.heap.size = base from hbase.symm)
  have O0 := Lib.hid (show (w3.alloc (.cells #[] 9)).ownsRow base 9 1 (.slice (some ⟨w3.heap.size, 0, none⟩) 0 0) 0 (txV (filT (l.take 0) s.data.toList)) from tx_zero w3 _ base (by omega))
  have GA := Lib.hid (World.grownBy_alloc w3 (.cells #[] 9) none)
  clear hbase
  go_wp2
  generalize hv0 : Value.slice (some ⟨w3.heap.size, 0, none⟩) 0 0 = v0 at O0
  obtain ⟨va0, vc0, hva0⟩ := tx_shape O0.out
  obtain ⟨w4, hw4⟩ : ∃ w4, w4 = w3.alloc (.cells #[] 9) := ⟨_, rfl⟩
  rw [← hw4] at O0 GA ⊢
  clear hw4
  have O1 := Lib.hid (show w4.ownsRow base 9 1 (.slice va0 0 vc0) 0 (txV (filT (l.take 0) s.data.toList)) by rw [← hva0]; exact O0.out)
  go_loopw [6, 8, 9, 26] (fun o _ _ i wr => ∃ (j : Nat) (va : Option Addr) (vc : Nat), j ≤ l.length ∧ i = .int .i64 j ∧ o = .slice va j vc ∧ Hid (wr.ownsRow base 9 1 (.slice va j vc) j (txV (filT (l.take j) s.data.toList))) ∧ Hid (w3.grownBy wr none)) (fun _ _ _ i _ => l.length - (intOf i).toNat)
  case atStart => exact ⟨0, va0, vc0, Nat.zero_le _, rfl, by rw [← hva0, ← hv0], O1, GA⟩
  case round =>
    clear hv0 hva0 O0 O1 GA
    obtain ⟨j, va, vc, hj, rfl, rfl, hO, hG⟩ := hrel
    have G4 := Lib.hid (G3.out.trans hG.out)
    by_cases hlt : j < l.length
    · obtain ⟨x, hx⟩ := tx_get l j hlt
      obtain ⟨a', c', e, -, hr⟩ := HR.out.grownS G4.out
      injection e with e1 e2 e3
      subst e1 e3
      obtain ⟨b1, off1, rfl, hb1, hc1⟩ := hr (by intro e; rw [e] at hlt; simp at hlt)
      have hcell := hc1 j x hx
      have hx60 := H60.out x (List.mem_of_getElem? hx)
      have CD := Lib.hid (fun W => dFill x.size x s W (Nat.le_refl _) (by omega) (by omega))
      have CP := Lib.hid (fun W => pFill x s W (by omega) (by omega))
      have HX := Lib.hid hx
      obtain ⟨t, ht⟩ : ∃ t : ByteArray, t = ⟨(filS x.data.toList s.data.toList).toArray⟩ := ⟨_, rfl⟩
      rw [← ht] at CD CP
      have HT := Lib.hid ht
      clear hr hc1 hx ht
      go_wp2_with (first
        | (go_at_call 13; (with_reducible refine (CD.out _).mono ?_); rintro e w5 ⟨rfl, n5, rfl⟩)
        | (go_at_call 14; (with_reducible refine (CP.out _).mono ?_); rintro e w6 ⟨rfl, g6⟩; have G6 := Lib.hid ((grown_drewN (World.grownBy.refl wr none) n5).trans g6); have O6 := Lib.hid (hO.out.kept G6.out (by cases va with | none => exact .inl rfl | some g => exact .inr (by simp [Value.ownBlock]))); have G7 := Lib.hid (hG.out.trans G6.out); clear g6)
        | (at_builtin; refine wpList_append_own _ rfl _ _ 27 rfl base 9 iu _ 1 16 Try.underlying27 IU.out ZU0.out ZU1.out ZU2.out rfl (by decide) _ _ _ rfl (O6.out.alloc _) ⟨_, 0, none⟩ 1 1 [.string t] rfl rfl (tx_new _ _ _ _ (by simp)) (tx_one _) (by unfold maxLen; omega) (by omega) (by have := G7.out.size; have := HBL.out; simp; omega) ?_; intro v9 w9 hown9 hgrow9 _; have G9 := Lib.hid ((G7.out.trans (World.grownBy_alloc _ _ _)).andThen hgrow9 (fun k hk => .inl (by have := (O6.out.lt k hk).1; have := HBL.out; omega))); have O9 := Lib.hid hown9; clear hown9 hgrow9))
      obtain ⟨va9, vc9, rfl⟩ := tx_shape O9.out
      have OA := Lib.hid (show w9.ownsRow base 9 1 (.slice va9 (j + 1) vc9) (j + 1) (txV (filT (l.take (j + 1)) s.data.toList)) by rw [filT_take HX.out, ← HT.out, txV, List.map_append]; exact O9.out)
      go_wp2
      go_roundw
      case rel => exact ⟨j + 1, va9, vc9, by omega, by go_num, rfl, OA, G9⟩
      case measure => simp [intOf]; omega
    · obtain rfl : j = l.length := by omega
      have O2 := Lib.hid (tx_row (show wr.ownsRow base 9 1 (.slice va l.length vc) l.length (txV (filT l s.data.toList)) by have := hO.out; rwa [List.take_of_length_le (Nat.le_refl _)] at this) (by unfold filT; simp) (by omega))
      have HM2 := Lib.hid (HM.out.grownS hG.out)
      clear hO HBL
      go_wp2
      go_loop [10, 11] (fun n_ i => ∃ k : Nat, k ≤ s.size ∧ i = .int .i64 k ∧ n_ = .bool (nrwS (s.data.toList.take k))) (fun _ i => s.size - (intOf i).toNat)
      case atStart => exact ⟨0, Nat.zero_le _, rfl, rfl⟩
      case round =>
        obtain ⟨k, hk, rfl, rfl⟩ := hrel
        by_cases hlt : k < s.size
        · have HJ := Lib.hid (at_st hlt)
          obtain ⟨f1, h1⟩ : ∃ f, f = (s[k] == UInt8.ofNat 46) := ⟨_, rfl⟩
          obtain ⟨f2, h2⟩ : ∃ f, f = (s[k] == UInt8.ofNat 47) := ⟨_, rfl⟩
          have e1 : (((s[k]).toNat : Int) != 46) = !f1 := by rw [h1]; exact congrArg (!·) (byte_st (n := 46) (by decide))
          have e2 : (((s[k]).toNat : Int) != 47) = !f2 := by rw [h2]; exact congrArg (!·) (byte_st (n := 47) (by decide))
          have HB := Lib.hid (show nrwB s[k] = !(f1 || f2) by unfold nrwB; rw [h1, h2]; rfl)
          clear h1 h2
          have HN := Lib.hid (nrw_take HJ.out)
          generalize nrwS (s.data.toList.take k) = g at HN ⊢
          cases g <;> cases f1 <;> cases f2
          all_goals
            have HN2 := Lib.hid (HN.out.trans (by rw [HB.out]))
            go_wp2
            go_round
            case rel => exact ⟨k + 1, by omega, by go_num, by rw [HN2.out]; rfl⟩
            case measure => simp [intOf]; omega
        · obtain rfl : k = s.size := by omega
          rw [List.take_of_length_le (by simp)]
          have CF := Lib.hid (pFillAll u l s wr (HM2.out.row (by omega)) h20 H60.out (by omega))
          have CN := Lib.hid (fun w => pNarrow s w (by omega))
          generalize nrwS s.data.toList = g at CN ⊢
          have HT := Lib.hid (show ∀ W, w.grownBy W none → TxRow W (.slice a l.length c) l from fun W g => HR.out.grownS g)
          go_wp2_with (first
            | (go_at_call 16; (with_reducible refine CF.out.mono ?_); rintro e w5 ⟨g5, v5, rfl, h5⟩; have G5 := Lib.hid (G4.out.trans g5); have H5 := Lib.hid h5; have O5 := Lib.hid (O2.out.grownS g5); have M5 := Lib.hid (HM2.out.grownS g5); clear g5 h5)
            | (go_at_call 15; refine (cSameT _ _ _ _ H5.out O5.out).mono ?_; rintro e w6 ⟨rfl, n6, rfl⟩; have G6 := Lib.hid (grown_drewN G5.out n6); have M6 := Lib.hid (M5.out.grownS (grown_drewN (World.grownBy.refl w5 none) n6)))
            | (go_at_call 17; (with_reducible refine (CN.out _).mono ?_); rintro e w7 ⟨rfl, g7⟩; have G7 := Lib.hid (G6.out.trans g7); have M7 := Lib.hid (M6.out.grownS g7); clear g7)
            | (go_at_call 18; refine (cKeptT _ _ _ _ _ M7.out (HT.out _ G7.out) (by omega)).mono ?_; rintro e w8 ⟨rfl, n8, rfl⟩; have G8 := Lib.hid (grown_drewN G7.out n8)))
          go_ret
          exact ⟨by simp, G8.out⟩
end Go.Proofs.Ytjhoobomilpdlaa

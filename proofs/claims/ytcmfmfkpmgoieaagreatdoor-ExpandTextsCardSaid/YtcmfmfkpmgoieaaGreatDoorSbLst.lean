/- Walks of package subst: a pattern that many words are put into. Walks of package subst: a list of words that are put. -/
import Derived.Test.YtcmfmfkpmgoieaaGreatDoorSbPro
namespace Go.Proofs.YtcmfmfkpmgoieaaGreatDoor
open Go.RowKit

/-- a goal, as it lies: its pattern, and that without its signs -/
def barB (tu : ByteArray) : ByteArray := ⟨(filS tu.data.toList []).toArray⟩
def goalV (tu : ByteArray) : Value := .agg #[.string tu, .string (barB tu)]
theorem barB_st (tu : ByteArray) : (barB tu).data.toList = filS tu.data.toList [] := by unfold barB; simp
theorem sizeGo : (Tryz.prog.info? 141).map (·.size) = some 2 := by kernel_rfl
theorem two_go {w : World} {b : Nat} {a0 a1 : Value} {t : TypeId} (h : w.heap[b]? = some (.cells #[a0, a1] t (0, 0))) : w.cell? ⟨b, 0, none⟩ = some a0 ∧ w.cell? ⟨b, 1, none⟩ = some a1 := by
  refine ⟨?_, ?_⟩ <;> (unfold World.cell?; rw [h]; rfl)
theorem free_go {w : World} {b : Nat} {c : Array Value} {t : TypeId} (h : w.heap[b]? = some (.cells c t (0, 0))) (i : Nat) : w.frozen? ⟨b, i, none⟩ = false := frozen_of_row w b i c t h
theorem set_go {w : World} {b : Nat} {a0 a1 : Value} {t : TypeId} (h : w.heap[b]? = some (.cells #[a0, a1] t (0, 0))) (v0 v1 : Value) :
    ((w.setCell ⟨b, 0, none⟩ v0).setCell ⟨b, 1, none⟩ v1).heap[b]? = some (.cells #[v0, v1] t (0, 0)) := heap_setCell_same _ b 1 _ _ v1 (heap_setCell_same _ b 0 _ _ v0 h)
theorem grown_go {w w1 : World} (h : w.grownBy w1 none) {b : Nat} (v0 v1 : Value) (hb : w.heap.size ≤ b) : w.grownBy ((w1.setCell ⟨b, 0, none⟩ v0).setCell ⟨b, 1, none⟩ v1) none :=
  grown_of_below (((below_of_grown h).setCell hb v0).setCell hb v1)
theorem kept_go {w w' : World} (hg : w.grownBy w' none) {b : Nat} {o : Obj} (h : w.heap[b]? = some o) : w'.heap[b]? = some o :=
  (hg.block b (Array.getElem?_eq_some_iff.1 h).1 (by simp)).trans h
set_option maxRecDepth 100000 in
theorem gGoal (tu : ByteArray) (w : World) (ht : tu.size ≤ 200) : Calls Tryz.prog 76 #[.string tu] w fun e w' => e = .returned (goalV tu) ∧ w.grownBy w' none := by
  have CF := Lib.hid (fun w => show Calls Tryz.prog 93 #[.string tu, .string ⟨#[]⟩] w fun e w' => e = .returned (.string (barB tu)) ∧ w.grownBy w' none from pFill tu ⟨#[]⟩ w ht (by decide))
  unfold goalV
  generalize barB tu = bb at CF ⊢
  have B0 := Lib.hid (heap_alloc_new w (.cells #[.string ⟨#[]⟩, .string ⟨#[]⟩] 141))
  have G0 := Lib.hid (World.grownBy_alloc w (.cells #[.string ⟨#[]⟩, .string ⟨#[]⟩] 141) none)
  go_enter Tryz.func76, Tryz.ntmps76
  go_upto_region 1 with fail
  generalize w.alloc _ = w1 at B0 G0 ⊢
  obtain ⟨g, eg⟩ : ∃ g, w.heap.size = g := ⟨_, rfl⟩
  rw [eg] at B0 ⊢
  have hgs : w.heap.size ≤ g := by omega
  clear eg
  go_wp2_with (go_at_call 93; (with_reducible refine (CF.out _).mono ?_); rintro e w2 ⟨rfl, g2⟩; have G2 := Lib.hid (G0.out.trans g2); have B2 := Lib.hid (kept_go g2 B0.out); obtain ⟨c0, c1⟩ := two_go B2.out; have fr := free_go B2.out; clear g2)
  refine bodyPost_ret (results_cell_row Tryz.results76 _ _ _ _ _ _ _ rfl (set_go B2.out _ _) Tryz.underlying141 rfl sizeGo) rfl ?_
  exact ⟨rfl, grown_go G2.out _ _ hgs⟩
theorem sum_go {b d s m : Nat} (h : b + d * s = m) (hm : m ≤ 100000) (hd : d ≤ 200) : wrap64 ((b : Int) + wrap64 (wrap64 ((b : Int) + d - b) * s)) = m := by
  have e : wrap64 ((b : Int) + d - b) * s = ((d * s : Nat) : Int) := by rw [show wrap64 ((b : Int) + d - b) = d by unfold wrap64; omega]; exact (Int.natCast_mul d s).symm
  rw [e]
  generalize d * s = q at h
  unfold wrap64
  omega
set_option maxRecDepth 100000 in
theorem gSize (tu : ByteArray) (t : ByteArray) (w : World) (ht : tu.size ≤ 200) (hs : t.size ≤ 200) : Calls Tryz.prog 78 #[goalV tu, .string t] w fun e w' => e = .returned (.int .i64 (filS tu.data.toList t.data.toList).length) ∧ w.grownBy w' none := by
  obtain ⟨h1, h2⟩ := fil_bare tu.data.toList t.data.toList
  have hm := fil_small (l := tu.data.toList) (s := t.data.toList) (by rw [← Lib.size_eq]; exact ht) (by rw [← Lib.size_eq]; exact hs)
  rw [← barB_st, ← Lib.size_eq, ← Lib.size_eq, ← Lib.size_eq] at h1
  rw [← barB_st, ← Lib.size_eq, ← Lib.size_eq] at h2
  unfold goalV
  generalize (filS tu.data.toList t.data.toList).length = m at h1 hm ⊢
  generalize barB tu = bb at h1 h2 ⊢
  obtain ⟨d, hd⟩ : ∃ d, tu.size = bb.size + d := ⟨tu.size - bb.size, by omega⟩
  rw [show tu.size - bb.size = d by omega] at h1
  have HS := Lib.hid (sum_go h1 (by omega) (by omega))
  clear h1 h2 ht hs hm
  go_enter Tryz.func78, Tryz.ntmps78
  go_wp2
  go_ret
  exact ⟨congrArg (fun x : Int => Ending.returned (Value.int .i64 x)) HS.out, World.grownBy_alloc _ _ _⟩
set_option maxRecDepth 100000 in
theorem gWith (tu t : ByteArray) (w : World) (ht : tu.size ≤ 200) (hs : t.size ≤ 200) : Calls Tryz.prog 79 #[goalV tu, .string t] w fun e w' => e = .returned (.string ⟨(filS tu.data.toList t.data.toList).toArray⟩) ∧ w.grownBy w' none := by
  have CF := Lib.hid (fun w => pFill tu t w ht hs)
  unfold goalV
  by_cases h0 : t.size = 0
  · have e0 : t.data.toList = [] := List.eq_nil_of_length_eq_zero (by rw [← Lib.size_eq]; exact h0)
    have HB := Lib.hid (show (⟨(filS tu.data.toList t.data.toList).toArray⟩ : ByteArray) = barB tu by unfold barB; rw [e0])
    have e1 : t.toList.isEmpty = true := by rw [Lib.toList_data, e0]; rfl
    rw [HB.out]
    generalize barB tu = bb
    clear CF HB e0
    go_enter Tryz.func79, Tryz.ntmps79
    go_wp2
    go_ret
    exact ⟨rfl, World.grownBy_alloc _ _ _⟩
  · have e1 : t.toList.isEmpty = false := by
      rw [Lib.toList_data]
      cases h : t.data.toList with
      | nil => exact (h0 (by rw [Lib.size_eq, h]; rfl)).elim
      | cons _ _ => rfl
    generalize filS tu.data.toList t.data.toList = F at CF ⊢
    generalize barB tu = bb
    go_enter Tryz.func79, Tryz.ntmps79
    go_wp2_with (go_at_call 93; (with_reducible refine (CF.out _).mono ?_); rintro e w1 ⟨rfl, g1⟩; have G1 := Lib.hid g1; clear g1)
    go_ret
    exact ⟨rfl, (World.grownBy_alloc _ _ _).trans G1.out⟩
end Go.Proofs.YtcmfmfkpmgoieaaGreatDoor

namespace Go.Proofs.YtcmfmfkpmgoieaaGreatDoor
open Go.RowKit

abbrev lngE (A : Nat → Addr) : Value := .iface 194 (.pointer (some (A 2)))
/-- a list of words that are put: the row, or an error -/
def LstOut (A : Nat → Addr) (fr tu : List UInt8) (l : List ByteArray) (w : World) (e : Ending) (w' : World) : Prop :=
  w.grownBy w' none ∧ ((l.any (ovrB fr tu) = true ∧ e = .returned (.tuple #[.slice none 0 0, lngE A])) ∨
    (l.any (ovrB fr tu) = false ∧ ∃ v, e = .returned (.tuple #[v, .nilIface]) ∧ TxRow w' v (putT fr tu l)))
/-- the same, in a row that the call has made -/
def LstOutF (A : Nat → Addr) (fr tu : List UInt8) (l : List ByteArray) (w : World) (e : Ending) (w' : World) : Prop :=
  w.grownBy w' none ∧ ((l.any (ovrB fr tu) = true ∧ e = .returned (.tuple #[.slice none 0 0, lngE A])) ∨
    (l.any (ovrB fr tu) = false ∧ ∃ v, e = .returned (.tuple #[v, .nilIface]) ∧ TxRow w' v (putT fr tu l) ∧ ∀ b, v.ownBlock = some b → w.heap.size ≤ b))
set_option maxRecDepth 100000 in
set_option maxHeartbeats 8000000 in
theorem sListF (A : Nat → Addr) (v : Value) (l : List ByteArray) (fr tu : ByteArray) (w : World) (h : TxRow w v l) (h100 : l.length ≤ 100) (hl : ∀ x ∈ l, x.size ≤ 200) (hf : fr.size ≤ 200) (ht : tu.size ≤ 200)
    (hE : w.cell? ⟨2, 0, none⟩ = some (lngE A)) : Calls Tryz.prog 63 #[v, .string fr, .string tu] w (LstOutF A fr.data.toList tu.data.toList l w) := by
  obtain ⟨iu, hiu, hu0, hu1, hu2⟩ := info_parts infoTx
  have IU := Lib.hid hiu; have ZU0 := Lib.hid hu0; have ZU1 := Lib.hid hu1; have ZU2 := Lib.hid hu2
  clear hiu hu0 hu1 hu2
  have HR := Lib.hid h
  have HS := Lib.hid hl
  have HE := Lib.hid hE
  obtain ⟨a, c, rfl, -, -⟩ := h
  clear hl hE
  have CG := Lib.hid (gGoal tu w ht)
  have CZ := Lib.hid (fun t w (hs : t.size ≤ 200) => gSize tu t w ht hs)
  have CW := Lib.hid (fun t w (hs : t.size ≤ 200) => gWith tu t w ht hs)
  unfold goalV at CG CZ CW
  generalize barB tu = bb at CG CZ CW
  unfold LstOutF
  go_enter Tryz.func63, Tryz.ntmps63
  go_upto_region 2 with (go_at_call 76; (with_reducible refine CG.out.mono ?_); rintro e w1 ⟨rfl, g1⟩; have G1 := Lib.hid g1; clear g1)
  have B3 := Lib.hid (heap_alloc_new w1 (.cells #[.string tu, .string bb] 141))
  have G3 := Lib.hid (G1.out.trans (World.grownBy_alloc w1 (.cells #[.string tu, .string bb] 141) none))
  obtain ⟨g, eg⟩ : ∃ g, w1.heap.size = g := ⟨_, rfl⟩
  rw [eg] at B3 ⊢
  generalize w1.alloc _ = w3 at B3 G3 ⊢
  clear eg G1 CG
  have HR3 := Lib.hid (HR.out.later (below_of_grown G3.out))
  have HE3 := Lib.hid (show w3.cell? ⟨2, 0, none⟩ = some (lngE A) from G3.out.cell HE.out (by simp))
  obtain ⟨base, hbase⟩ : ∃ base, base = w3.heap.size := ⟨_, rfl⟩
  have HBL := Lib.hid (show w3.heap.size = base from hbase.symm)
  clear hbase HR HE
  go_wp2
  go_loopw [9, 11, 12, 13, 18] (fun o _ _ _ i wr => ∃ (j : Nat) (va : Option Addr) (vc : Nat), j ≤ l.length ∧ i = .int .i64 j ∧ o = .slice va j vc ∧ Hid ((l.take j).any (ovrB fr.data.toList tu.data.toList) = false) ∧ Hid (wr.ownsRow base 9 1 (.slice va j vc) j (txV (putT fr.data.toList tu.data.toList (l.take j)))) ∧ Hid (w3.grownBy wr none)) (fun _ _ _ _ i _ => l.length - (intOf i).toNat)
  case atStart => exact ⟨0, _, _, Nat.zero_le _, rfl, rfl, Lib.hid rfl, Lib.hid (tx_nil _ _ _), Lib.hid (World.grownBy.refl _ _)⟩
  case round =>
    obtain ⟨j, va, vc, hj, rfl, rfl, hV, hO, hG⟩ := hrel
    by_cases hlt : j < l.length
    · obtain ⟨x, hx⟩ := tx_get l j hlt
      obtain ⟨a', c', e, -, hr⟩ := HR3.out.later (below_of_grown hG.out)
      injection e with e1 e2 e3
      subst e1 e3
      obtain ⟨b1, off1, rfl, hb1, hc1⟩ := hr (by intro e; rw [e] at hlt; simp at hlt)
      have hcell := hc1 j x hx
      have hx200 := HS.out x (List.mem_of_getElem? hx)
      have CM := fun W => sMatch x fr W (by omega) (by omega)
      unfold PMt at CM
      obtain ⟨y, hy⟩ : ∃ y, putB fr.data.toList tu.data.toList x = y := ⟨_, rfl⟩
      have HY := Lib.hid hy
      have HX := Lib.hid hx
      have HO := Lib.hid (ovr_take (fr := fr.data.toList) (tu := tu.data.toList) hx)
      clear hr hc1 hx
      cases hm : mtcS fr.data.toList x.data.toList with
      | none =>
        rw [hm] at CM
        simp only [Option.isSome] at CM
        have CM := Lib.hid CM
        have hyx : y = x := by rw [← hy]; unfold putB; rw [put_none hm, ba_self]
        subst hyx
        by_cases hov : 120 < y.size
        · have HW := Lib.hid (show l.any (ovrB fr.data.toList tu.data.toList) = true from ovr_hit HX.out (by unfold ovrB; rw [put_none hm, ← Lib.size_eq]; exact decide_eq_true hov))
          clear hm hy
          go_wp2_with (go_at_call 77; (with_reducible refine (CM.out _).mono ?_); rintro e w5 ⟨g5, t, rfl, ht⟩; have GX := Lib.hid (hG.out.trans g5); have hc5 := GX.out.cell HE3.out (by simp); clear g5 ht)
          go_quiet (fail)
          go_wp2
          go_ret2
          exact ⟨grown_drewN (G3.out.trans GX.out) _, .inl ⟨HW.out, rfl⟩⟩
        · have HN := Lib.hid (show (l.take (j + 1)).any (ovrB fr.data.toList tu.data.toList) = false by rw [HO.out, hV.out]; unfold ovrB; rw [put_none hm, ← Lib.size_eq]; exact decide_eq_false hov)
          clear hm hy
          go_wp2_with (first
            | (go_at_call 77; (with_reducible refine (CM.out _).mono ?_); rintro e w5 ⟨g5, t, rfl, ht⟩; have GX := Lib.hid (hG.out.trans g5); have OX := Lib.hid (hO.out.kept g5 (by cases va with | none => exact .inl rfl | some g => exact .inr (by simp [Value.ownBlock]))); clear g5 ht)
            | (at_builtin; refine wpList_append_own _ rfl _ _ 30 rfl base 9 iu _ 1 16 Tryz.underlying30 IU.out ZU0.out ZU1.out ZU2.out rfl (by decide) _ _ _ rfl (OX.out.alloc _) ⟨_, 0, none⟩ 1 1 [.string y] rfl rfl (tx_new _ _ _ _ (by simp)) (tx_one _) (by unfold maxLen; omega) (by omega) (by have := GX.out.size; have := HBL.out; simp; omega) ?_; intro v9 w9 hown9 hgrow9 _; have G9 := Lib.hid ((GX.out.trans (World.grownBy_alloc _ _ _)).andThen hgrow9 (fun k hk => .inl (by have := (OX.out.lt k hk).1; have := HBL.out; omega))); have O9 := Lib.hid hown9; clear hown9 hgrow9))
          obtain ⟨va9, vc9, rfl⟩ := tx_shape O9.out
          have OA := Lib.hid (show w9.ownsRow base 9 1 (.slice va9 (j + 1) vc9) (j + 1) (txV (putT fr.data.toList tu.data.toList (l.take (j + 1)))) by rw [putT_take HX.out, HY.out, txV, List.map_append]; exact O9.out)
          go_wp2
          go_roundw
          case rel => exact ⟨j + 1, va9, vc9, by omega, by go_num, rfl, HN, OA, G9⟩
          case measure => simp [intOf]; omega
      | some t =>
        rw [hm] at CM
        simp only [Option.isSome, Option.getD] at CM
        have CM := Lib.hid CM
        have hl := (mtc_len hm).2
        rw [← Lib.size_eq] at hl
        obtain ⟨F, hF⟩ : ∃ F, filS tu.data.toList t = F := ⟨_, rfl⟩
        have hyF : y = ⟨F.toArray⟩ := by rw [← hy]; unfold putB; rw [put_some hm, hF]
        have hov0 : ovrB fr.data.toList tu.data.toList x = decide (120 < F.length) := by unfold ovrB; rw [put_some hm, hF]
        have CZ2 := Lib.hid (fun (T : ByteArray) (W : World) (h : T.data.toList = t) => show Calls Tryz.prog 78 #[.agg #[.string tu, .string bb], .string T] W fun e W' => e = .returned (.int .i64 F.length) ∧ W.grownBy W' none from by
          have := CZ.out T W (by rw [Lib.size_eq, h]; omega)
          rw [h, hF] at this; exact this)
        have CW2 := Lib.hid (fun (T : ByteArray) (W : World) (h : T.data.toList = t) => show Calls Tryz.prog 79 #[.agg #[.string tu, .string bb], .string T] W fun e W' => e = .returned (.string y) ∧ W.grownBy W' none from by
          have := CW.out T W (by rw [Lib.size_eq, h]; omega)
          rw [h, hF, ← hyF] at this; exact this)
        generalize F.length = m at hov0 CZ2
        by_cases hov : 120 < m
        · have HW := Lib.hid (show l.any (ovrB fr.data.toList tu.data.toList) = true from ovr_hit HX.out (by rw [hov0]; exact decide_eq_true hov))
          clear hm hy hF hyF hov0
          go_wp2_with (first
            | (go_at_call 77; (with_reducible refine (CM.out _).mono ?_); rintro e w5 ⟨g5, T, rfl, ht⟩; have G5 := Lib.hid (hG.out.trans g5); have HT := Lib.hid ht; obtain ⟨c0, c1⟩ := two_go (kept_go G5.out B3.out); clear g5 ht)
            | (go_at_call 78; (with_reducible refine (CZ2.out _ _ HT.out).mono ?_); rintro e w6 ⟨rfl, g6⟩; have GX := Lib.hid (G5.out.trans g6); have hc5 := GX.out.cell HE3.out (by simp); clear g6))
          go_quiet (fail)
          go_wp2
          go_ret2
          exact ⟨grown_drewN (G3.out.trans GX.out) _, .inl ⟨HW.out, rfl⟩⟩
        · have HN := Lib.hid (show (l.take (j + 1)).any (ovrB fr.data.toList tu.data.toList) = false by rw [HO.out, hV.out, hov0]; exact decide_eq_false hov)
          clear hm hy hF hyF hov0
          go_wp2_with (first
            | (go_at_call 77; (with_reducible refine (CM.out _).mono ?_); rintro e w5 ⟨g5, T, rfl, ht⟩; have G5 := Lib.hid (hG.out.trans g5); have O5 := Lib.hid (hO.out.kept g5 (by cases va with | none => exact .inl rfl | some g => exact .inr (by simp [Value.ownBlock]))); have HT := Lib.hid ht; obtain ⟨c0, c1⟩ := two_go (kept_go G5.out B3.out); clear g5 ht)
            | (go_at_call 78; (with_reducible refine (CZ2.out _ _ HT.out).mono ?_); rintro e w6 ⟨rfl, g6⟩; have G6 := Lib.hid (G5.out.trans g6); have O6 := Lib.hid (O5.out.kept g6 (by cases va with | none => exact .inl rfl | some g => exact .inr (by simp [Value.ownBlock]))); obtain ⟨d0, d1⟩ := two_go (kept_go G6.out B3.out); clear g6)
            | (go_at_call 79; (with_reducible refine (CW2.out _ _ HT.out).mono ?_); rintro e w7 ⟨rfl, g7⟩; have GX := Lib.hid (G6.out.trans g7); have OX := Lib.hid (O6.out.kept g7 (by cases va with | none => exact .inl rfl | some g => exact .inr (by simp [Value.ownBlock]))); clear g7)
            | (at_builtin; refine wpList_append_own _ rfl _ _ 30 rfl base 9 iu _ 1 16 Tryz.underlying30 IU.out ZU0.out ZU1.out ZU2.out rfl (by decide) _ _ _ rfl (OX.out.alloc _) ⟨_, 0, none⟩ 1 1 [.string y] rfl rfl (tx_new _ _ _ _ (by simp)) (tx_one _) (by unfold maxLen; omega) (by omega) (by have := GX.out.size; have := HBL.out; simp; omega) ?_; intro v9 w9 hown9 hgrow9 _; have G9 := Lib.hid ((GX.out.trans (World.grownBy_alloc _ _ _)).andThen hgrow9 (fun k hk => .inl (by have := (OX.out.lt k hk).1; have := HBL.out; omega))); have O9 := Lib.hid hown9; clear hown9 hgrow9))
          obtain ⟨va9, vc9, rfl⟩ := tx_shape O9.out
          have OA := Lib.hid (show w9.ownsRow base 9 1 (.slice va9 (j + 1) vc9) (j + 1) (txV (putT fr.data.toList tu.data.toList (l.take (j + 1)))) by rw [putT_take HX.out, HY.out, txV, List.map_append]; exact O9.out)
          go_wp2
          go_roundw
          case rel => exact ⟨j + 1, va9, vc9, by omega, by go_num, rfl, HN, OA, G9⟩
          case measure => simp [intOf]; omega
    · obtain rfl : j = l.length := by omega
      have HW := Lib.hid (show l.any (ovrB fr.data.toList tu.data.toList) = false by have := hV.out; rwa [List.take_of_length_le (Nat.le_refl _)] at this)
      have hO2 := Lib.hid (show wr.ownsRow base 9 1 (.slice va l.length vc) l.length (txV (putT fr.data.toList tu.data.toList l)) by have := hO.out; rwa [List.take_of_length_le (Nat.le_refl _)] at this)
      go_wp2
      go_ret2
      exact ⟨G3.out.trans hG.out, .inr ⟨HW.out, _, rfl, tx_row hO2.out (by unfold putT; simp) (by omega), fun b hb => by have := hO2.out.lt b hb; have := HBL.out; have := G3.out.size; omega⟩⟩
theorem sList (A : Nat → Addr) (v : Value) (l : List ByteArray) (fr tu : ByteArray) (w : World) (h : TxRow w v l) (h100 : l.length ≤ 100) (hl : ∀ x ∈ l, x.size ≤ 200) (hf : fr.size ≤ 200) (ht : tu.size ≤ 200)
    (hE : w.cell? ⟨2, 0, none⟩ = some (lngE A)) : Calls Tryz.prog 63 #[v, .string fr, .string tu] w (LstOut A fr.data.toList tu.data.toList l w) :=
  (sListF A v l fr tu w h h100 hl hf ht hE).mono fun _ _ ⟨g, o⟩ => ⟨g, o.imp id fun ⟨a, u, he, hr, _⟩ => ⟨a, u, he, hr⟩⟩
end Go.Proofs.YtcmfmfkpmgoieaaGreatDoor

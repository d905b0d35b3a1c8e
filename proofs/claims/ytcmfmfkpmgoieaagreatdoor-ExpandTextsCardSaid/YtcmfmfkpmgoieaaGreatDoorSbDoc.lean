/- The document's own answers of layer 16: a word that is put, a list of them. -/
import Derived.Test.YtcmfmfkpmgoieaaGreatDoorSbPro
namespace Go.Proofs.YtcmfmfkpmgoieaaGreatDoor
open Go.RowKit

set_option maxRecDepth 100000 in
theorem dWord (x fr tu : ByteArray) (w : World) (hx : x.size ≤ 5000) (hf : fr.size ≤ 5000) (ht : tu.size ≤ 5000) : Calls Tryz.prog 66 #[.string x, .string fr, .string tu] w fun e w' =>
    e = .returned (.string (putB fr.data.toList tu.data.toList x)) ∧ w.grownBy w' none := by
  have CM := dMatch fr x w hf hx
  unfold PMt at CM
  unfold putB
  cases hm : mtcS fr.data.toList x.data.toList with
  | none =>
    rw [hm] at CM
    simp only [Option.isSome] at CM
    have CM := Lib.hid CM
    rw [put_none hm, ba_self]
    clear hm
    go_enter Tryz.func66, Tryz.ntmps66
    go_wp2_with (go_at_call 82; (with_reducible refine CM.out.mono ?_); rintro e w1 ⟨g1, t, rfl, ht⟩; have G1 := Lib.hid g1; clear g1 ht)
    go_ret
    exact ⟨rfl, G1.out⟩
  | some t =>
    rw [hm] at CM
    simp only [Option.isSome, Option.getD] at CM
    have CM := Lib.hid CM
    have hl := (mtc_len hm).2
    rw [← Lib.size_eq] at hl
    rw [put_some hm]
    have CF := Lib.hid (fun (T : ByteArray) (w : World) (h : T.data.toList = t) => show Calls Tryz.prog 83 #[.string tu, .string T] w fun e w' => e = .returned (.string ⟨(filS tu.data.toList t).toArray⟩) ∧ ∃ n, w' = w.drewN n from by
      have := dFill tu.size tu T w (Nat.le_refl _) ht (by rw [Lib.size_eq, h]; omega)
      rw [h] at this; exact this)
    clear hm
    generalize filS tu.data.toList t = F at CF ⊢
    go_enter Tryz.func66, Tryz.ntmps66
    go_wp2_with (first
      | (go_at_call 82; (with_reducible refine CM.out.mono ?_); rintro e w1 ⟨g1, T, rfl, hT⟩; have G1 := Lib.hid g1; have HT := Lib.hid hT; clear g1 hT)
      | (go_at_call 83; (with_reducible refine (CF.out _ _ HT.out).mono ?_); rintro e w2 ⟨rfl, n2, rfl⟩))
    go_ret
    exact ⟨rfl, grown_drewN G1.out _⟩
/-- the document's list: the row and an error's number -/
def LstDoc (fr tu : List UInt8) (l : List ByteArray) (w : World) (e : Ending) (w' : World) : Prop :=
  w.grownBy w' none ∧ ((l.any (ovrB fr tu) = true ∧ e = .returned (.tuple #[.slice none 0 0, .int .i64 2])) ∨
    (l.any (ovrB fr tu) = false ∧ ∃ v, e = .returned (.tuple #[v, .int .i64 0]) ∧ TxRow w' v (putT fr tu l)))
/-- the same, in a row that the call has made -/
def LstDocF (fr tu : List UInt8) (l : List ByteArray) (w : World) (e : Ending) (w' : World) : Prop :=
  w.grownBy w' none ∧ ((l.any (ovrB fr tu) = true ∧ e = .returned (.tuple #[.slice none 0 0, .int .i64 2])) ∨
    (l.any (ovrB fr tu) = false ∧ ∃ v, e = .returned (.tuple #[v, .int .i64 0]) ∧ TxRow w' v (putT fr tu l) ∧ ∀ b, v.ownBlock = some b → w.heap.size ≤ b))
set_option maxRecDepth 100000 in
set_option maxHeartbeats 8000000 in
theorem dListF (v : Value) (l : List ByteArray) (fr tu : ByteArray) (w : World) (h : TxRow w v l) (h100 : l.length ≤ 100) (hl : ∀ x ∈ l, x.size ≤ 200) (hf : fr.size ≤ 200) (ht : tu.size ≤ 200) :
    Calls Tryz.prog 53 #[v, .string fr, .string tu] w (LstDocF fr.data.toList tu.data.toList l w) := by
  obtain ⟨iu, hiu, hu0, hu1, hu2⟩ := info_parts infoTx
  have IU := Lib.hid hiu; have ZU0 := Lib.hid hu0; have ZU1 := Lib.hid hu1; have ZU2 := Lib.hid hu2
  clear hiu hu0 hu1 hu2
  have HR := Lib.hid h
  have HS := Lib.hid hl
  obtain ⟨base, hbase⟩ : ∃ base, base = w.heap.size := ⟨_, rfl⟩
  have HBL := Lib.hid (show w.heap.size = base from hbase.symm)
  have O0 := Lib.hid (show (w.alloc (.cells #[] 9)).ownsRow base 9 1 (.slice (some ⟨w.heap.size, 0, none⟩) 0 0) 0 (txV (putT fr.data.toList tu.data.toList (l.take 0))) from tx_zero w _ base (by omega))
  have GA := Lib.hid (World.grownBy_alloc w (.cells #[] 9) none)
  obtain ⟨a, c, rfl, -, -⟩ := h
  clear hl hbase
  unfold LstDocF
  go_enter Tryz.func53, Tryz.ntmps53
  go_wp2
  generalize hv0 : Value.slice (some ⟨w.heap.size, 0, none⟩) 0 0 = v0 at O0
  obtain ⟨va0, vc0, hva0⟩ := tx_shape O0.out
  obtain ⟨w4, hw4⟩ : ∃ w4, w4 = w.alloc (.cells #[] 9) := ⟨_, rfl⟩
  rw [← hw4] at O0 GA ⊢
  clear hw4
  have O1 := Lib.hid (show w4.ownsRow base 9 1 (.slice va0 0 vc0) 0 (txV (putT fr.data.toList tu.data.toList (l.take 0))) by rw [← hva0]; exact O0.out)
  go_loopw [8, 10, 11, 15] (fun o _ _ i wr => ∃ (j : Nat) (va : Option Addr) (vc : Nat), j ≤ l.length ∧ i = .int .i64 j ∧ o = .slice va j vc ∧ Hid ((l.take j).any (ovrB fr.data.toList tu.data.toList) = false) ∧ Hid (wr.ownsRow base 9 1 (.slice va j vc) j (txV (putT fr.data.toList tu.data.toList (l.take j)))) ∧ Hid (w.grownBy wr none)) (fun _ _ _ i _ => l.length - (intOf i).toNat)
  case atStart => exact ⟨0, va0, vc0, Nat.zero_le _, rfl, by rw [← hva0, ← hv0], Lib.hid rfl, O1, GA⟩
  case round =>
    clear hv0 hva0 O0 O1 GA
    obtain ⟨j, va, vc, hj, rfl, rfl, hV, hO, hG⟩ := hrel
    by_cases hlt : j < l.length
    · obtain ⟨x, hx⟩ := tx_get l j hlt
      obtain ⟨a', c', e, -, hr⟩ := HR.out.later (below_of_grown hG.out)
      injection e with e1 e2 e3
      subst e1 e3
      obtain ⟨b1, off1, rfl, hb1, hc1⟩ := hr (by intro e; rw [e] at hlt; simp at hlt)
      have hcell := hc1 j x hx
      have hx200 := HS.out x (List.mem_of_getElem? hx)
      have CD := Lib.hid (fun W => dWord x fr tu W (by omega) (by omega) (by omega))
      obtain ⟨y, hy⟩ : ∃ y, putB fr.data.toList tu.data.toList x = y := ⟨_, rfl⟩
      rw [hy] at CD
      have HY := Lib.hid hy
      have HX := Lib.hid hx
      have HO := Lib.hid (ovr_take (fr := fr.data.toList) (tu := tu.data.toList) hx)
      have ho : ovrB fr.data.toList tu.data.toList x = decide (120 < y.size) := by unfold ovrB; rw [← putB_st, ← Lib.size_eq, hy]
      clear hr hc1 hx hy
      by_cases hov : 120 < y.size
      · have HW := Lib.hid (show l.any (ovrB fr.data.toList tu.data.toList) = true from ovr_hit HX.out (by rw [ho]; exact decide_eq_true hov))
        clear ho
        go_wp2_with (go_at_call 66; (with_reducible refine (CD.out _).mono ?_); rintro e w5 ⟨rfl, g5⟩; have GX := Lib.hid (hG.out.trans g5); clear g5)
        go_ret2
        exact ⟨GX.out, .inl ⟨HW.out, rfl⟩⟩
      · have HN := Lib.hid (show (l.take (j + 1)).any (ovrB fr.data.toList tu.data.toList) = false by rw [HO.out, hV.out, ho]; exact decide_eq_false hov)
        clear ho
        go_wp2_with (first
          | (go_at_call 66; (with_reducible refine (CD.out _).mono ?_); rintro e w5 ⟨rfl, g5⟩; have GX := Lib.hid (hG.out.trans g5); have OX := Lib.hid (hO.out.kept g5 (by cases va with | none => exact .inl rfl | some g => exact .inr (by simp [Value.ownBlock]))); clear g5)
          | (at_builtin; refine wpList_append_own _ rfl _ _ 30 rfl base 9 iu _ 1 16 Tryz.underlying30 IU.out ZU0.out ZU1.out ZU2.out rfl (by decide) _ _ _ rfl (OX.out.alloc _) ⟨_, 0, none⟩ 1 1 [.string y] rfl rfl (tx_new _ _ _ _ (by simp)) (tx_one _) (by unfold maxLen; omega) (by omega) (by have := GX.out.size; have := HBL.out; simp; omega) ?_; intro v9 w9 hown9 hgrow9 _; have G9 := Lib.hid ((GX.out.trans (World.grownBy_alloc _ _ _)).andThen hgrow9 (fun k hk => .inl (by have := (OX.out.lt k hk).1; have := HBL.out; omega))); have O9 := Lib.hid hown9; clear hown9 hgrow9))
        obtain ⟨va9, vc9, rfl⟩ := tx_shape O9.out
        have OA := Lib.hid (show w9.ownsRow base 9 1 (.slice va9 (j + 1) vc9) (j + 1) (txV (putT fr.data.toList tu.data.toList (l.take (j + 1)))) by rw [putT_take HX.out, HY.out, txV, List.map_append]; exact O9.out)
        go_wp2
        go_roundw
        case rel => exact ⟨j + 1, va9, vc9, by omega, by go_num, rfl, HN, OA, G9⟩
        case measure => simp [intOf]; omega
    · obtain rfl : j = l.length := by omega
      have HW := Lib.hid (show l.any (ovrB fr.data.toList tu.data.toList) = false by have := hV.out; rwa [List.take_of_length_le (Nat.le_refl _)] at this)
      have hO2 := Lib.hid (show wr.ownsRow base 9 1 (.slice va l.length vc) l.length (txV (putT fr.data.toList tu.data.toList l)) by have := hO.out; rwa [List.take_of_length_le (Nat.le_refl _)] at this)
      go_wp2
      go_ret2
      exact ⟨hG.out, .inr ⟨HW.out, _, rfl, tx_row hO2.out (by unfold putT; simp) (by omega), fun b hb => by have := hO2.out.lt b hb; have := HBL.out; omega⟩⟩
theorem dList (v : Value) (l : List ByteArray) (fr tu : ByteArray) (w : World) (h : TxRow w v l) (h100 : l.length ≤ 100) (hl : ∀ x ∈ l, x.size ≤ 200) (hf : fr.size ≤ 200) (ht : tu.size ≤ 200) :
    Calls Tryz.prog 53 #[v, .string fr, .string tu] w (LstDoc fr.data.toList tu.data.toList l w) :=
  (dListF v l fr tu w h h100 hl hf ht).mono fun _ _ ⟨g, o⟩ => ⟨g, o.imp id fun ⟨a, u, he, hr, _⟩ => ⟨a, u, he, hr⟩⟩
end Go.Proofs.YtcmfmfkpmgoieaaGreatDoor

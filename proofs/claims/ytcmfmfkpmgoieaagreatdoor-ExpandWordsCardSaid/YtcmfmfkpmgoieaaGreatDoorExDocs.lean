/- The document's words of words of pieces, and of a text. -/
import Derived.Test.YtcmfmfkpmgoieaaGreatDoorExDoc
import Derived.Test.YtcmfmfkpmgoieaaGreatDoorExLex
import Derived.Test.YtcmfmfkpmgoieaaGreatDoorExPlain
import Derived.Laws.AppendOwnNone
namespace Go.Proofs.YtcmfmfkpmgoieaaGreatDoor
open Go.RowKit

/-- an append of a row of texts, wherever it lies -/
theorem wpList_append_tx {P : Program} {w : World} {ops : Array Oper} {rest : List Oper} {o : Oper} {a : Act} {Q : Exit → Act → World → Prop} (hgd : o.guard = none) (s x : Operand) (t : TypeId)
    (ho : o.op = .call { callee := .builtin .append, args := #[s, x], argTypes := #[t, t] })
    (base : Nat) (e : TypeId) (i : TypeInfo) (z : Value) (ht : P.underlying t = some (.slice e)) (hi : P.info? e = some i) (hz : i.zero = some z)
    (hsize : i.size = 1) (hby : i.bytes = 16) (hzs : z.cells.size = 1)
    (v : Value) (n : Nat) (xs : List Value) (hs : a.eval s = v) (hown : w.ownsRow base e 1 v n xs)
    (u : Value) (L : List ByteArray) (hx : a.eval x = u) (hT : TxRow w u L) (h63 : n + L.length ≤ maxLen) (hbytes : (n + L.length) * 16 ≤ 140737488355328) (hbase : base ≤ w.heap.size)
    (h : ∀ v' w', w'.ownsRow base e 1 v' (n + L.length) (xs ++ txV L) → w.grownBy w' v.ownBlock → (∀ k, v'.ownBlock = some k → v.ownBlock = some k ∨ w.heap.size ≤ k) → wpList P ops Q rest (a.put o.dst v') w') : wpList P ops Q (o :: rest) a w := by
  obtain ⟨ad, c, rfl, ⟨hm, hc⟩, hr⟩ := hT
  cases ad with
  | none =>
    have hL : L = [] := by
      cases L with
      | nil => rfl
      | cons q r => obtain ⟨b, off, e, -⟩ := hr (by simp); cases e
    subst hL
    have hc0 := hc rfl
    subst hc0
    exact wpList_append_own_none hgd s x t ho base e i 1 ht hi v n xs hs hown (by simpa using hx) (h v w (by simpa using hown) (World.grownBy.refl _ _ ) (fun k hk => .inl hk))
  | some ad =>
    refine wpList_append_far hgd s x t ho base e i z 1 16 ht hi hz hsize hby hzs (by decide) v n xs hs hown ad L.length c (txV L) hx (by simp) (fun j y hy => ?_) (txV_one L) h63 hbytes hbase (fun v' w' h1 h2 h3 => h v' w' h1 h2 h3)
    obtain ⟨x', h1, rfl⟩ := txV_at hy
    obtain ⟨b, off, e, hb, hcell⟩ := hr (by rintro rfl; simp at h1)
    cases e
    rw [Addr.add_lit]
    exact hcell j x' h1
theorem txV_app (a b : List ByteArray) : txV (a ++ b) = txV a ++ txV b := by simp
set_option maxRecDepth 100000 in
set_option maxHeartbeats 8000000 in
theorem dWords17 (q : Nat) (uv : Value) (l : List Vz) (G : Nat → Prop) (ov : Value) (O : List Ot) (v : Value) (Ls : List (List Pb)) (w : World) (hD : DocW w q uv l G ov O) (hGb : ∀ k, G k → k < w.heap.size) (hz : SzV (vbL l)) (ho : SmT O)
    (hR : RRow w v Ls) (hs : ∀ ps ∈ Ls, ps.length ≤ 5000 ∧ ∀ p ∈ ps, SmP p) (hl : Ls.length ≤ 5000) :
    Calls Tryz.prog 19 #[v, .pointer (some ⟨q, 0, none⟩), ov] w (PRs G (wordsE (wsV (vbL l)) O Ls) w) := by
  obtain ⟨iu, hiu, hu0, hu1, hu2⟩ := info_parts infoTx
  have IU := Lib.hid hiu; have ZU0 := Lib.hid hu0; have ZU1 := Lib.hid hu1; have ZU2 := Lib.hid hu2
  have HD := Lib.hid hD; have HR := Lib.hid hR; have HS := Lib.hid hs
  have CW := Lib.hid (fun (u : Value) (ps : List Pb) (W : World) (g : w.grownBy W none) (hr : PRow W u ps) (hp : ps ∈ Ls) => dWord17 q uv l G ov O u ps W (HD.out.grown g) (fun k hk => Nat.lt_of_lt_of_le (hGb k hk) g.size) hz ho hr (hs ps hp).2 (hs ps hp).1)
  obtain ⟨va, vc, rfl, -⟩ := hR.shape
  obtain ⟨oa, oc, rfl, -⟩ := hD.o.shape
  obtain ⟨V, hV⟩ : ∃ V, wsV (vbL l) = V := ⟨_, rfl⟩
  rw [hV] at CW ⊢
  have O1 := Lib.hid (own_zero w 9 1 w.heap.size (Nat.le_refl _))
  have G1 := Lib.hid (World.grownBy_alloc w (.cells #[] 9) none)
  clear hiu hu0 hu1 hu2 hR hs hD hGb hV hz
  go_enter Tryz.func19, Tryz.ntmps19
  go_upto_region 2 with fail
  generalize w.alloc _ = w1 at O1 G1 ⊢
  obtain ⟨base, hbase⟩ : ∃ base, base = w.heap.size := ⟨_, rfl⟩
  rw [← hbase] at O1 ⊢
  have HBL := Lib.hid (show w.heap.size = base from hbase.symm)
  clear hbase
  go_wp2
  go_loopw [8, 10, 11, 12, 16] (fun d _ _ _ i wr => ∃ (j : Nat) (D : List ByteArray) (da : Option Addr) (dc : Nat), j ≤ Ls.length ∧ i = .int .i64 j ∧ d = .slice da D.length dc ∧ Hid (allE V O (Ls.take j) = .ok (txL D)) ∧ Hid (wr.ownsRow base 9 1 (.slice da D.length dc) D.length (txV D)) ∧ Hid (D.length ≤ 40 * j) ∧ Hid (w.grownBy wr none)) (fun _ _ _ _ i _ => Ls.length - (intOf i).toNat)
  case atStart => exact ⟨0, [], _, _, Nat.zero_le _, rfl, rfl, Lib.hid rfl, O1, Lib.hid (Nat.zero_le _), G1⟩
  case round =>
    obtain ⟨j, D, da, dc, hj, rfl, rfl, hS, hO, hB, hG⟩ := hrel
    by_cases hlt : j < Ls.length
    · obtain ⟨b, off, c, ps, u, ev, hx, hb, c0, hp⟩ := (HR.out.grown hG.out).at j hlt
      injection ev with ev1 ev2 ev3
      subst ev1 ev3
      obtain ⟨pa, pc, rfl, -⟩ := hp.shape
      have CP := Lib.hid (CW.out _ ps wr hG.out hp (List.mem_of_getElem? hx))
      have HX := Lib.hid hx
      obtain ⟨x, hpx⟩ : ∃ x, wordE V O ps = x := ⟨_, rfl⟩
      rw [hpx] at CP
      clear hx hb hp
      cases x with
      | error k =>
        have hk0 := wordE_num hpx
        have hkne : ((k : Int) != 0) = true := by simp; omega
        have HN := Lib.hid (show wordsE V O Ls = .error k from allE_bad HX.out hS.out hpx)
        clear hpx
        go_wp2_with fail
        refine CP.out.mono ?_
        rintro e w5 ⟨g5, v5, L5, he, t5, -⟩
        rw [show exN (.error k) = k from rfl] at he
        subst he
        obtain ⟨a5, c5, rfl, -⟩ := t5.shape
        have G5 := Lib.hid (hG.out.trans g5)
        clear g5 t5 CP c0
        go_wp2
        go_ret2
        rw [HN.out]
        exact ⟨G5.out, _, [], rfl, tx_nilV _ _, rfl⟩
      | ok L =>
        have HN := Lib.hid (allE_go HX.out hS.out hpx)
        have h40 := (word_le hpx).1
        clear hpx
        go_wp2_with fail
        refine CP.out.mono ?_
        rintro e w5 ⟨g5, v5, L5, he, t5, hL5⟩
        rw [show ((exN (.ok L) : Nat) : Int) = 0 from rfl] at he
        subst he
        have e5 : txL L5 = L := hL5
        clear hL5
        subst e5
        obtain ⟨a5, c5, rfl, -⟩ := t5.shape
        have G5 := Lib.hid (hG.out.trans g5)
        have R5 := Lib.hid (own_kept hO.out g5)
        have T5 := Lib.hid t5.1
        have h41 : L5.length ≤ 40 := by simpa using h40
        have hbD := hB.out
        clear g5 t5 CP c0 h40 hO
        go_wp2_with (at_builtin; refine wpList_append_tx rfl _ _ 30 rfl base 9 iu _ Tryz.underlying30 IU.out ZU0.out ZU1.out ZU2.out rfl _ _ _ rfl R5.out _ L5 rfl T5.out (by unfold maxLen; omega) (by omega) (by have := G5.out.size; have := HBL.out; omega) ?_; intro v9 w9 hown9 hgrow9 _; have G9 := Lib.hid (G5.out.andThen hgrow9 (fun k hk => .inl (by have := (R5.out.lt k hk).1; have := HBL.out; omega))); have O9 := Lib.hid hown9; clear hown9 hgrow9)
        obtain ⟨va9, vc9, rfl⟩ := tx_shape O9.out
        have HL2 := Lib.hid (show (D ++ L5).length = D.length + L5.length by simp)
        have OA := Lib.hid (show w9.ownsRow base 9 1 (.slice va9 (D ++ L5).length vc9) (D ++ L5).length (txV (D ++ L5)) by rw [HL2.out, txV_app]; exact O9.out)
        have HN2 := Lib.hid (show allE V O (Ls.take (j + 1)) = .ok (txL (D ++ L5)) by rw [HN.out]; simp)
        go_wp2
        go_roundw
        case rel => exact ⟨j + 1, D ++ L5, va9, vc9, hlt, by go_num, by rw [HL2.out], HN2, OA, Lib.hid (by rw [HL2.out]; omega), G9⟩
        case measure => simp [intOf]; omega
    · have HN := Lib.hid (show wordsE V O Ls = if 40 < D.length then .error 10 else .ok (txL D) by
        have := hS.out
        rw [List.take_of_length_le (by omega)] at this
        unfold wordsE; rw [this]; simp)
      have hbD := hB.out
      by_cases h40 : 40 < D.length
      · rw [if_pos h40] at HN
        go_wp2
        go_ret2
        rw [HN.out]
        exact ⟨hG.out, _, [], rfl, tx_nilV _ _, rfl⟩
      · rw [if_neg h40] at HN
        have TR := Lib.hid (show TxG wr (fun k => G k ∨ w.heap.size ≤ k) (.slice da D.length dc) D from txg_of (tx_row hO.out rfl (by omega)) (fun k hk => by have := (hO.out.lt k hk).1; have := HBL.out; omega))
        go_wp2
        go_ret2
        rw [HN.out]
        exact ⟨hG.out, _, D, rfl, by have := TR.out; exact this, rfl⟩
/-- what a text's pieces are like -/
theorem lex_small {s : ByteArray} (hs : s.size ≤ 200) {L : List (List Pq)} (h : wdQ [] [] s.data.toList = .ok L) {LB : List (List Pb)} (hB : pcLL LB = L) : LB.length ≤ 200 ∧ ∀ ps ∈ LB, ps.length ≤ 200 ∧ ∀ p ∈ ps, SmP p := by
  obtain ⟨h1, h2⟩ := wd_great h
  have h0 : s.data.toList.length = s.size := by simp
  rw [h0] at h1 h2
  subst hB
  refine ⟨by rw [List.length_map] at h1; omega, fun ps hps => ?_⟩
  obtain ⟨h3, h4⟩ := h2 (pcL ps) (List.mem_map_of_mem hps)
  refine ⟨by rw [List.length_map] at h3; omega, fun p hp => ?_⟩
  obtain ⟨h5, h6, h7⟩ := h4 p.q (List.mem_map_of_mem hp)
  unfold Pb.q at h5 h6 h7
  simp at h5 h6 h7
  exact ⟨by omega, by omega, by omega⟩
/-- what a text gives -/
def textE (V : ByteArray → List ByteArray) (O : List Ot) (s : List UInt8) (x : Rs) : Prop :=
  match wdQ [] [] s with
  | .error k => x = .error k
  | .ok L => ∃ LB, pcLL LB = L ∧ x = wordsE V O LB
theorem textE_one {V : ByteArray → List ByteArray} {O : List Ot} {s : List UInt8} {x y : Rs} (h1 : textE V O s x) (h2 : textE V O s y) : x = y := by
  unfold textE at h1 h2
  cases hw : wdQ [] [] s with
  | error k => rw [hw] at h1 h2; exact h1.trans h2.symm
  | ok L =>
    rw [hw] at h1 h2
    obtain ⟨a, ha, rfl⟩ := h1
    obtain ⟨b, hb, rfl⟩ := h2
    rw [pcLL_inj (ha.trans hb.symm)]
set_option maxRecDepth 100000 in
set_option maxHeartbeats 8000000 in
theorem dText17 (q : Nat) (uv : Value) (l : List Vz) (G : Nat → Prop) (ov : Value) (O : List Ot) (s : ByteArray) (w : World) (hD : DocW w q uv l G ov O) (hGb : ∀ k, G k → k < w.heap.size) (hz : SzV (vbL l)) (ho : SmT O) (hs : s.size ≤ 200) :
    Calls Tryz.prog 10 #[.string s, .pointer (some ⟨q, 0, none⟩), ov] w (fun e w' => ∃ x, textE (wsV (vbL l)) O s.data.toList x ∧ PRs G x w e w') := by
  have CL := Lib.hid (dWords13 s w (by omega))
  have CW := Lib.hid (fun (v : Value) (LB : List (List Pb)) (W : World) (g : w.grownBy W none) (hr : RRow W v LB) (h : LB.length ≤ 200 ∧ ∀ ps ∈ LB, ps.length ≤ 200 ∧ ∀ p ∈ ps, SmP p) => dWords17 q uv l G ov O v LB W (hD.grown g) (fun k hk => Nat.lt_of_lt_of_le (hGb k hk) g.size) hz ho hr (fun ps hp => ⟨by have := (h.2 ps hp).1; omega, (h.2 ps hp).2⟩) (by omega))
  have HSM := Lib.hid (fun (L : List (List Pq)) (h : wdQ [] [] s.data.toList = .ok L) (LB : List (List Pb)) (hB : pcLL LB = L) => lex_small hs h hB)
  obtain ⟨oa, oc, rfl, -⟩ := hD.o.shape
  obtain ⟨V, hV⟩ : ∃ V, wsV (vbL l) = V := ⟨_, rfl⟩
  rw [hV] at CW ⊢
  unfold PWd17 at CL
  unfold textE
  clear hD hGb hz ho hV
  cases hw : wdQ [] [] s.data.toList with
  | error k =>
    rw [hw] at CL
    have hk0 := wd_bad s.data.toList.length s.data.toList [] [] k (Nat.le_refl _) hw
    have hkne : ((k : Int) != 0) = true := by simp; omega
    clear hw
    go_enter Tryz.func10, Tryz.ntmps10
    go_wp2_with fail
    refine CL.out.mono ?_
    rintro e w3 ⟨g3, he⟩
    have he' : e = .returned (.tuple #[.slice none 0 0, .int .i64 k]) := he
    clear he
    subst he'
    go_wp2
    go_ret2
    exact ⟨.error k, rfl, g3, _, [], rfl, tx_nilV _ _, rfl⟩
  | ok L =>
    rw [hw] at CL
    have HW := Lib.hid hw
    clear hw
    go_enter Tryz.func10, Tryz.ntmps10
    go_wp2_with fail
    refine CL.out.mono ?_
    rintro e w3 ⟨g3, he⟩
    have he' : ∃ v LB, e = .returned (.tuple #[v, .int .i64 0]) ∧ RRow w3 v LB ∧ pcLL LB = L := he
    clear he
    obtain ⟨v, LB, rfl, hr, hB⟩ := he'
    obtain ⟨ra, rc, rfl, -⟩ := hr.shape
    have CW2 := Lib.hid (CW.out _ LB w3 g3 hr (HSM.out L HW.out LB hB))
    have G3 := Lib.hid g3
    have HB := Lib.hid hB
    clear g3 hr hB CL
    go_wp2_with fail
    refine CW2.out.mono ?_
    rintro e w4 ⟨g4, v4, L4, rfl, t4, h4⟩
    have T4 := Lib.hid (show TxG w4 (fun k => G k ∨ w.heap.size ≤ k) v4 L4 from t4.more fun k hk _ => hk.imp id fun h => Nat.le_trans G3.out.size h)
    have G4 := Lib.hid (G3.out.trans g4)
    have H4 := Lib.hid h4
    clear t4 h4 g4 CW2
    go_wp2
    go_ret2
    exact ⟨_, ⟨LB, HB.out, rfl⟩, G4.out, v4, L4, rfl, T4.out, H4.out⟩
end Go.Proofs.YtcmfmfkpmgoieaaGreatDoor

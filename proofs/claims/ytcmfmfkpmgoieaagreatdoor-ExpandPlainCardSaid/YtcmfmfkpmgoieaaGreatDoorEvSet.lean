/- The document's Set and Unset of layer 14. -/
import Derived.Test.YtcmfmfkpmgoieaaGreatDoorEvRef
namespace Go.Proofs.YtcmfmfkpmgoieaaGreatDoor
open Go.RowKit

@[go_sem] theorem binOp_string_gtrV (t : TypeId) (a b : ByteArray) : binOp .gtr t (.string a) (.string b) = pure (.bool (!(Op.bytesLess a.toList b.toList || a.toList == b.toList))) := by simp [binOp, Op.stringOp]
theorem infoVz : (Tryz.prog.info? 78).map (fun i => (i.zero, i.size, i.bytes)) = some (some (.agg #[.string ⟨#[]⟩, .slice none 0 0, .int .i64 0, .bool false]), 4, 56) := by kernel_rfl
theorem find_some_of {l : List Vz} {s : ByteArray} {j : Nat} {x : Vz} (h : ∀ (m : Nat) (y : Vz), m < j → l[m]? = some y → y.n ≠ s) (hx : l[j]? = some x) (hn : x.n = s) : l.find? (fun y => decide (y.n = s)) = some x := by
  rw [List.find?_eq_some_iff_getElem]
  obtain ⟨hj, e⟩ := List.getElem?_eq_some_iff.1 hx
  refine ⟨by simp [hn], j, hj, e, fun m hm => ?_⟩
  have := h m l[m] hm (List.getElem?_eq_getElem (by omega))
  simpa using this
theorem idx_find {l : List Vz} {s : ByteArray} : (idxZ l s = none ∧ l.find? (fun y => decide (y.n = s)) = none) ∨ ∃ k x, idxZ l s = some k ∧ l[k]? = some x ∧ x.n = s ∧ l.find? (fun y => decide (y.n = s)) = some x := by
  cases h : idxZ l s with
  | none =>
    left
    refine ⟨rfl, ?_⟩
    unfold idxZ at h
    rw [List.findIdx?_eq_none_iff] at h
    rw [List.find?_eq_none]
    intro x hx
    simpa using h x hx
  | some k =>
    right
    obtain ⟨x, hx, hn⟩ := idx_is h
    refine ⟨k, x, rfl, hx, hn, find_some_of (j := k) (fun m y hm hy => ?_) hx hn⟩
    unfold idxZ at h
    rw [List.findIdx?_eq_some_iff_getElem] at h
    obtain ⟨hk, h1, h2⟩ := h
    have := h2 m hm
    obtain ⟨hml, e⟩ := List.getElem?_eq_some_iff.1 hy
    rw [e] at this
    simpa using this
theorem ownV_kept {w w' : World} {base s n : Nat} {e : TypeId} {v : Value} {xs : List Value} (h : w.ownsRow base e s v n xs) (hg : w.grownBy w' none) : w'.ownsRow base e s v n xs :=
  h.kept hg (by rcases h.2 with ⟨rfl, _⟩ | ⟨g, cap, cur, rfl, _⟩ <;> simp [Value.ownBlock])
theorem ownV_zero (w : World) (T : TypeId) (base : Nat) (hb : base ≤ w.heap.size) : (w.alloc (.cells #[] T)).ownsRow base T 4 (.slice (some ⟨w.heap.size, 0, none⟩) 0 0) 0 (vzV []) :=
  ⟨rfl, .inr ⟨w.heap.size, 0, _, rfl, hb, heap_alloc_new w _, Nat.le_refl _, by decide, rfl, rfl⟩⟩
theorem grown_setCellV (w : World) (b : Nat) (v : Value) : w.grownBy (w.setCell ⟨b, 0, none⟩ v) (some b) :=
  ⟨rfl, rfl, rfl, by simp [World.setCell], fun k _ hk => Below.heap_setCell _ _ _ _ (fun e => hk (by simp [e]))⟩
theorem grown_anyV {w w' : World} (g : w.grownBy w' none) (q : Nat) : w.grownBy w' (some q) := ⟨g.1, g.2, g.3, g.size, fun k hk _ => g.block k hk (by simp)⟩
def PSetV (q : Nat) (l : List Vz) (x : Vz) (G : Nat → Prop) (w : World) (e : Ending) (w' : World) : Prop :=
  e = .returned (.int .i64 (putZ l x).1) ∧ w.grownBy w' (some q) ∧ ∃ uv, w'.heap[q]? = some (.cells #[uv] 72 (0, 0)) ∧ VRow w' (fun b => G b ∨ w.heap.size ≤ b) uv (putZ l x).2
theorem set_same {q : Nat} {l : List Vz} {x : Vz} {G : Nat → Prop} {w w' : World} {uv : Value} {k : Nat} (hp : putZ l x = (k, l)) (hQ : w.heap[q]? = some (.cells #[uv] 72 (0, 0))) (hR : VRow w G uv l) (g : w.grownBy w' none) : PSetV q l x G w (.returned (.int .i64 k)) w' := by
  unfold PSetV
  rw [hp]
  exact ⟨rfl, ⟨g.1, g.2, g.3, g.size, fun k hk _ => g.block k hk (by simp)⟩, uv, heap_grown g hQ, (hR.keep (KeepG.grown g)).more fun b hb _ => .inl hb⟩
set_option maxRecDepth 100000 in
set_option maxHeartbeats 4000000 in
theorem dSetV (q : Nat) (uv : Value) (l : List Vz) (x : Vz) (G : Nat → Prop) (w : World) (hQ : w.heap[q]? = some (.cells #[uv] 72 (0, 0))) (hR : VRow w G uv l) (hGq : ¬G q) (hx : TxG w G x.u x.ws) (hn : x.n.size ≤ 100) (hl : l.length ≤ 24) :
    Calls Tryz.prog 30 #[.pointer (some ⟨q, 0, none⟩), vzA x] w (PSetV q l x G w) := by
  obtain ⟨n, ws, lv, hd, u⟩ := x
  obtain ⟨a, c, hu, -⟩ := hx.shape
  simp only at hu hn
  subst hu
  obtain ⟨va, vc, rfl, hm⟩ := hR.shape
  have HQ := Lib.hid hQ; have HR := Lib.hid hR; have HX := Lib.hid hx
  have G0 := Lib.hid (World.grownBy_alloc w (.cells #[.string n, .slice a ws.length c, .int .i64 lv, .bool hd] 78) none)
  have B0 := Lib.hid (heap_alloc_new w (.cells #[.string n, .slice a ws.length c, .int .i64 lv, .bool hd] 78))
  clear hQ hR hx
  obtain ⟨iu, hiu, hu0, hu1, hu2⟩ := info_parts infoVz
  have IU := Lib.hid hiu; have ZU0 := Lib.hid hu0; have ZU1 := Lib.hid hu1; have ZU2 := Lib.hid hu2
  clear hiu hu0 hu1 hu2
  unfold vzA
  go_enter Tryz.func30, Tryz.ntmps30
  go_upto_region 1 with fail
  generalize w.alloc _ = w1 at B0 G0 ⊢
  obtain ⟨bx, hbx⟩ : ∃ bx, w.heap.size = bx := ⟨_, rfl⟩
  rw [hbx] at B0 ⊢
  have HBX := Lib.hid hbx
  clear hbx
  obtain ⟨d0, d1, d2, d3⟩ := four_vz B0.out
  go_wp2_with fail
  refine (dCheckV ⟨n, ws, lv, hd, .slice a ws.length c⟩ w1 hn (HX.out.keep (KeepG.grown G0.out)).1).mono ?_
  rintro e w2 ⟨rfl, g2⟩
  have B2 := Lib.hid (heap_grown g2 B0.out)
  have G2 := Lib.hid (G0.out.trans g2)
  clear d0 d1 d2 d3 g2 B0
  obtain ⟨d0, d1, d2, d3⟩ := four_vz B2.out
  obtain ⟨k, hk⟩ : ∃ k, chkV (⟨n, ws, lv, hd, .slice a ws.length c⟩ : Vz).b = k := ⟨_, rfl⟩
  rw [hk]
  by_cases hk0 : k = 0
  case neg =>
    have e0 : ((k : Int) != 0) = true := by simp; omega
    have HP := Lib.hid (show putZ l ⟨n, ws, lv, hd, .slice a ws.length c⟩ = (k, l) by unfold putZ; rw [hk, if_pos hk0])
    clear hk
    go_wp2
    go_ret
    exact set_same HP.out HQ.out HR.out G2.out
  subst hk0
  have HPN := Lib.hid (show l.find? (fun y => decide (y.n = n)) = none → putZ l ⟨n, ws, lv, hd, .slice a ws.length c⟩ = if 24 ≤ l.length then (10, l) else (0, setZ l ⟨n, ws, lv, hd, .slice a ws.length c⟩) from fun h => by
    have h' : l.find? (fun y => decide (y.n = (⟨n, ws, lv, hd, .slice a ws.length c⟩ : Vz).n)) = none := h
    unfold putZ; rw [hk, if_neg (by simp), h'])
  have HPS := Lib.hid (show ∀ y : Vz, l.find? (fun y => decide (y.n = n)) = some y → putZ l ⟨n, ws, lv, hd, .slice a ws.length c⟩ = if lv < y.lv then (0, l) else (0, setZ l ⟨n, ws, lv, hd, .slice a ws.length c⟩) from fun y h => by
    have h' : l.find? (fun y => decide (y.n = (⟨n, ws, lv, hd, .slice a ws.length c⟩ : Vz).n)) = some y := h
    unfold putZ; rw [hk, if_neg (by simp), h'])
  clear hk
  have hq2 := G2.out.cell (show w.cell? ⟨q, 0, none⟩ = some (.slice va l.length vc) by unfold World.cell?; rw [HQ.out]; rfl) (by simp)
  have CA := Lib.hid (dAtV q _ l n G w2 hq2 (HR.out.keep (KeepG.grown G2.out)))
  go_upto_region 5 with (go_at_call 43; (with_reducible refine CA.out.mono ?_); rintro e w3 ⟨rfl, g3⟩; have G3 := Lib.hid g3; clear g3)
  -- WHAT IS BEHIND BOTH QUESTIONS: THE NEW ROW
  have B3 := Lib.hid (heap_grown G3.out B2.out)
  have G4 := Lib.hid (G2.out.trans G3.out)
  have hq3 := G3.out.cell hq2 (by simp)
  clear d0 d1 d2 d3 hq2 CA B2
  obtain ⟨d0, d1, d2, d3⟩ := four_vz B3.out
  rcases idx_find (l := l) (s := n) with ⟨hi, hf⟩ | ⟨k, y, hi, hy, hyn, hf⟩
  case' inl =>
    have ha : atZ l n = -1 := by unfold atZ; rw [hi]
    rw [ha]
    by_cases h24 : 24 ≤ l.length
    · have HP := Lib.hid (show putZ l ⟨n, ws, lv, hd, .slice a ws.length c⟩ = (10, l) by rw [HPN.out hf, if_pos h24])
      have e1 : decide ((24 : Int) ≤ l.length) = true := by simp; omega
      clear hi hf ha HPN HPS
      go_quiet (fail)
      go_wp2
      go_ret
      exact set_same HP.out HQ.out HR.out (grown_drewN G4.out _)
    have HP := Lib.hid (show putZ l ⟨n, ws, lv, hd, .slice a ws.length c⟩ = (0, setZ l ⟨n, ws, lv, hd, .slice a ws.length c⟩) by rw [HPN.out hf, if_neg h24])
    have e1 : decide ((24 : Int) ≤ l.length) = false := by simp; omega
    clear hi hf ha HPN HPS
    go_quiet (fail)
    go_upto_region 9 with fail
  case' inr =>
    have ha : atZ l n = (k : Int) := by unfold atZ; rw [hi]
    rw [ha]
    have hkl := (List.getElem?_eq_some_iff.1 hy).1
    obtain ⟨b, off, c', y', ev, hy', hGb, ht, c0, c1, c2, c3⟩ := (HR.out.keep (KeepG.grown G4.out)).at k hkl
    obtain rfl : y = y' := Option.some.inj (hy.symm.trans hy')
    injection ev with ev1 ev2 ev3
    subst ev1 ev3
    by_cases hlv : lv < y.lv
    · have HP := Lib.hid (show putZ l ⟨n, ws, lv, hd, .slice a ws.length c⟩ = (0, l) by rw [HPS.out y hf, if_pos hlv])
      have e1 : decide (y.lv > lv) = true := by simpa using hlv
      clear hi hf ha HPN HPS hy' hGb ht
      go_quiet (fail)
      go_wp2
      go_ret
      exact set_same HP.out HQ.out HR.out (grown_drewN G4.out _)
    have HP := Lib.hid (show putZ l ⟨n, ws, lv, hd, .slice a ws.length c⟩ = (0, setZ l ⟨n, ws, lv, hd, .slice a ws.length c⟩) by rw [HPS.out y hf, if_neg hlv])
    have e1 : decide (y.lv > lv) = false := by simpa using hlv
    clear hi hf ha HPN HPS hy' hGb ht
    go_quiet (fail)
    go_upto_region 9 with fail
    clear c0 c1 c2 c3
    obtain ⟨va, hva⟩ : ∃ va, some (⟨b, off, none⟩ : Addr) = va := ⟨_, rfl⟩
    rw [hva] at HQ HR hq3 ⊢
    clear hva
  all_goals
    have GN := Lib.hid (grown_drewN G4.out nq)
    have BN := Lib.hid (show (w3.drewN nq).heap[bx]? = some (.cells #[.string n, .slice a ws.length c, .int .i64 lv, .bool hd] 78 (0, 0)) from B3.out)
    have QN := Lib.hid (heap_grown GN.out HQ.out)
    generalize w3.drewN nq = w4 at GN BN QN ⊢
    have O5 := Lib.hid (ownV_zero w4 78 w4.heap.size (Nat.le_refl _))
    have G5 := Lib.hid (World.grownBy_alloc w4 (.cells #[] 78) none)
    clear d0 d1 d2 d3 hq3 B3 G4
    go_upto_region 10 with fail
    generalize w4.alloc _ = w5 at O5 G5 ⊢
    obtain ⟨base, hbase⟩ : ∃ base, w4.heap.size = base := ⟨_, rfl⟩
    rw [hbase] at O5 ⊢
    have HBS := Lib.hid hbase
    clear hbase
    have HQC := Lib.hid (show w4.cell? ⟨q, 0, none⟩ = some (.slice va l.length vc) by unfold World.cell?; rw [QN.out]; rfl)
    have hq5 := G5.out.cell (show w4.cell? ⟨q, 0, none⟩ = some (.slice va l.length vc) by unfold World.cell?; rw [QN.out]; rfl) (by simp)
    go_wp2
    clear hq5
    go_loopw [7, 52] (fun o i wr => ∃ (j : Nat) (O : List Vz) (ua : Option Addr) (uc : Nat), j ≤ l.length ∧ i = .int .i64 j ∧ o = .slice ua O.length uc ∧ Hid (O = (l.take j).filter (fun y => Go.Op.bytesLess y.n.toList n.toList)) ∧ Hid (wr.ownsRow base 78 4 (.slice ua O.length uc) O.length (vzV O)) ∧ Hid (w4.grownBy wr none)) (fun _ i _ => l.length - (intOf i).toNat)
    case atStart => exact ⟨0, [], _, _, Nat.zero_le _, rfl, rfl, Lib.hid rfl, O5, G5⟩
    case round =>
      obtain ⟨j, O, ua, uc, hj, rfl, rfl, hO, hR, hG⟩ := hrel
      by_cases hlt : j < l.length
      · obtain ⟨b2, off2, cp2, y2, ev, hy2, hGb, ht, c0, c1, c2, c3⟩ := (HR.out.keep (KeepG.grown (GN.out.trans hG.out))).at j hlt
        injection ev with ev1 ev2 ev3
        subst ev1 ev3
        obtain ⟨n2, ws2, lv2, hd2, u2⟩ := y2
        obtain ⟨a2, cc2, hu2, -⟩ := ht.shape
        simp only at hu2 c0 c1 c2 c3
        subst hu2
        have hol : O.length ≤ j := by
          rw [hO.out]
          exact Nat.le_trans (List.length_filter_le _ _) (List.length_take_le _ _)
        have HT := Lib.hid (show (l.take (j + 1)) = l.take j ++ [⟨n2, ws2, lv2, hd2, .slice a2 ws2.length cc2⟩] by rw [List.take_add_one, hy2]; rfl)
        have g6 := World.grownBy_alloc wr (.cells #[.string n2, .slice a2 ws2.length cc2, .int .i64 lv2, .bool hd2] 78) none
        have B6 := Lib.hid (heap_alloc_new wr (.cells #[.string n2, .slice a2 ws2.length cc2, .int .i64 lv2, .bool hd2] 78))
        have G6 := Lib.hid (hG.out.trans g6)
        have R6 := Lib.hid (ownV_kept hR.out g6)
        have X6 := Lib.hid (heap_grown g6 (heap_grown hG.out BN.out))
        clear hy2 hGb ht hG hR g6
        go_upto_region 13 with fail
        generalize wr.alloc _ = w6 at B6 G6 R6 X6 ⊢
        obtain ⟨d0, d1, d2, d3⟩ := four_vz X6.out
        obtain ⟨f0, f1, f2, f3⟩ := four_vz B6.out
        clear c0 c1 c2 c3
        cases hb : Go.Op.bytesLess n2.toList n.toList
        · have HN := Lib.hid (show O = (l.take (j + 1)).filter (fun y => Go.Op.bytesLess y.n.toList n.toList) by rw [HT.out, List.filter_append, ← hO.out]; simp [hb])
          clear hO
          go_wp2
          go_roundw
          case rel => exact ⟨j + 1, O, ua, uc, hlt, by go_num, rfl, HN, R6, G6⟩
          case measure => simp [intOf]; omega
        · have HN := Lib.hid (show O ++ [⟨n2, ws2, lv2, hd2, .slice a2 ws2.length cc2⟩] = (l.take (j + 1)).filter (fun y => Go.Op.bytesLess y.n.toList n.toList) by rw [HT.out, List.filter_append, ← hO.out]; simp [hb])
          clear hO
          go_wp2_with (at_builtin; refine wpList_append_own _ rfl _ _ 70 rfl base 78 iu _ 4 56 Tryz.underlying70 IU.out ZU0.out ZU1.out ZU2.out rfl (by decide) _ _ _ rfl (R6.out.alloc _) ⟨_, 0, none⟩ 1 1 [.string n2, .slice a2 ws2.length cc2, .int .i64 lv2, .bool hd2] rfl rfl (vz_new _ ⟨n2, ws2, lv2, hd2, .slice a2 ws2.length cc2⟩ _ _ (by simp)) (vz_one ⟨n2, ws2, lv2, hd2, .slice a2 ws2.length cc2⟩ rfl) (by unfold maxLen; omega) (by omega) (by have := G6.out.size; have := HBS.out; simp; omega) ?_; intro v9 w9 hown9 hgrow9 _; have G9 := Lib.hid ((G6.out.trans (World.grownBy_alloc _ _ _)).andThen hgrow9 (fun k hk => .inl (by have := (R6.out.lt k hk).1; have := HBS.out; omega))); have O9 := Lib.hid hown9; clear hown9 hgrow9)
          obtain ⟨va9, vc9, rfl⟩ := tx_shape O9.out
          have HL2 := Lib.hid (show (O ++ [(⟨n2, ws2, lv2, hd2, .slice a2 ws2.length cc2⟩ : Vz)]).length = O.length + 1 by simp)
          have OA := Lib.hid (show w9.ownsRow base 78 4 (.slice va9 (O ++ [(⟨n2, ws2, lv2, hd2, .slice a2 ws2.length cc2⟩ : Vz)]).length vc9) (O ++ [(⟨n2, ws2, lv2, hd2, .slice a2 ws2.length cc2⟩ : Vz)]).length (vzV (O ++ [⟨n2, ws2, lv2, hd2, .slice a2 ws2.length cc2⟩])) by rw [HL2.out, vzV_snoc]; exact O9.out)
          go_wp2
          go_roundw
          case rel => exact ⟨j + 1, _, va9, vc9, hlt, by go_num, by rw [HL2.out], HN, OA, G9⟩
          case measure => simp [intOf]; omega
      · obtain rfl : j = l.length := by omega
        have hol : O.length ≤ l.length := by
          rw [hO.out]
          exact Nat.le_trans (List.length_filter_le _ _) (List.length_take_le _ _)
        have HO := Lib.hid (show O = l.filter (fun y => Go.Op.bytesLess y.n.toList n.toList) by rw [hO.out, List.take_length])
        have XN := Lib.hid (heap_grown hG.out BN.out)
        obtain ⟨d0, d1, d2, d3⟩ := four_vz XN.out
        clear hO
        go_wp2_with (at_builtin; refine wpList_append_own _ rfl _ _ 70 rfl base 78 iu _ 4 56 Tryz.underlying70 IU.out ZU0.out ZU1.out ZU2.out rfl (by decide) _ _ _ rfl (hR.out.alloc _) ⟨_, 0, none⟩ 1 1 [.string n, .slice a ws.length c, .int .i64 lv, .bool hd] rfl rfl (vz_new _ ⟨n, ws, lv, hd, .slice a ws.length c⟩ _ _ (by simp)) (vz_one ⟨n, ws, lv, hd, .slice a ws.length c⟩ rfl) (by unfold maxLen; omega) (by omega) (by have := hG.out.size; have := HBS.out; simp; omega) ?_; intro v9 w9 hown9 hgrow9 _; have G9 := Lib.hid ((hG.out.trans (World.grownBy_alloc _ _ _)).andThen hgrow9 (fun k hk => .inl (by have := (hR.out.lt k hk).1; have := HBS.out; omega))); have O9 := Lib.hid hown9; have hq9 := G9.out.cell HQC.out (by simp); clear hown9 hgrow9)
        obtain ⟨va9, vc9, rfl⟩ := tx_shape O9.out
        obtain ⟨O1, hO1⟩ : ∃ O1, O ++ [(⟨n, ws, lv, hd, .slice a ws.length c⟩ : Vz)] = O1 := ⟨_, rfl⟩
        have HO1 := Lib.hid hO1
        have HL1 := Lib.hid (show O1.length = O.length + 1 by rw [← hO1]; simp)
        have OA := Lib.hid (show w9.ownsRow base 78 4 (.slice va9 O1.length vc9) O1.length (vzV O1) by rw [HL1.out, ← hO1, vzV_snoc]; exact O9.out)
        rw [show O.length + 1 = O1.length from HL1.out.symm]
        clear hO1 d0 d1 d2 d3
        go_wp2
        clear hq9
        go_loopw [7, 75] (fun o i wr => ∃ (j : Nat) (R : List Vz) (ua : Option Addr) (uc : Nat), j ≤ l.length ∧ i = .int .i64 j ∧ o = .slice ua R.length uc ∧ R.length ≤ 26 + j ∧ Hid (R = O1 ++ (l.take j).filter (fun y => !(Go.Op.bytesLess y.n.toList n.toList || y.n.toList == n.toList))) ∧ Hid (wr.ownsRow base 78 4 (.slice ua R.length uc) R.length (vzV R)) ∧ Hid (w4.grownBy wr none)) (fun _ i _ => l.length - (intOf i).toNat)
        case atStart => exact ⟨0, O1, _, _, Nat.zero_le _, rfl, rfl, by have := HL1.out; omega, Lib.hid (by simp), OA, G9⟩
        case round =>
          obtain ⟨j, R, ua, uc, hj, rfl, rfl, hol, hO, hR, hG⟩ := hrel
          by_cases hlt : j < l.length
          · obtain ⟨b2, off2, cp2, y2, ev, hy2, hGb, ht, c0, c1, c2, c3⟩ := (HR.out.keep (KeepG.grown (GN.out.trans hG.out))).at j hlt
            injection ev with ev1 ev2 ev3
            subst ev1 ev3
            obtain ⟨n2, ws2, lv2, hd2, u2⟩ := y2
            obtain ⟨a2, cc2, hu2, -⟩ := ht.shape
            simp only at hu2 c0 c1 c2 c3
            subst hu2
            have HT := Lib.hid (show (l.take (j + 1)) = l.take j ++ [⟨n2, ws2, lv2, hd2, .slice a2 ws2.length cc2⟩] by rw [List.take_add_one, hy2]; rfl)
            have g6 := World.grownBy_alloc wr (.cells #[.string n2, .slice a2 ws2.length cc2, .int .i64 lv2, .bool hd2] 78) none
            have B6 := Lib.hid (heap_alloc_new wr (.cells #[.string n2, .slice a2 ws2.length cc2, .int .i64 lv2, .bool hd2] 78))
            have G6 := Lib.hid (hG.out.trans g6)
            have R6 := Lib.hid (ownV_kept hR.out g6)
            have X6 := Lib.hid (heap_grown g6 (heap_grown hG.out BN.out))
            clear hy2 hGb ht hG hR g6
            go_upto_region 20 with fail
            generalize wr.alloc _ = w6 at B6 G6 R6 X6 ⊢
            obtain ⟨d0, d1, d2, d3⟩ := four_vz X6.out
            obtain ⟨f0, f1, f2, f3⟩ := four_vz B6.out
            clear c0 c1 c2 c3
            cases hb : Go.Op.bytesLess n2.toList n.toList
            case true =>
              have HN := Lib.hid (show R = O1 ++ (l.take (j + 1)).filter (fun y => !(Go.Op.bytesLess y.n.toList n.toList || y.n.toList == n.toList)) by rw [HT.out, List.filter_append, hO.out]; simp [hb])
              clear hO
              go_wp2
              go_roundw
              case rel => exact ⟨j + 1, R, ua, uc, hlt, by go_num, rfl, by omega, HN, R6, G6⟩
              case measure => simp [intOf]; omega
            cases hb2 : (n2.toList == n.toList)
            case true =>
              have HN := Lib.hid (show R = O1 ++ (l.take (j + 1)).filter (fun y => !(Go.Op.bytesLess y.n.toList n.toList || y.n.toList == n.toList)) by rw [HT.out, List.filter_append, hO.out]; simp [hb, hb2])
              clear hO
              go_wp2
              go_roundw
              case rel => exact ⟨j + 1, R, ua, uc, hlt, by go_num, rfl, by omega, HN, R6, G6⟩
              case measure => simp [intOf]; omega
            case false =>
              have HN := Lib.hid (show R ++ [⟨n2, ws2, lv2, hd2, .slice a2 ws2.length cc2⟩] = O1 ++ (l.take (j + 1)).filter (fun y => !(Go.Op.bytesLess y.n.toList n.toList || y.n.toList == n.toList)) by rw [HT.out, List.filter_append, hO.out]; simp [hb, hb2])
              clear hO
              go_wp2_with (at_builtin; refine wpList_append_own _ rfl _ _ 70 rfl base 78 iu _ 4 56 Tryz.underlying70 IU.out ZU0.out ZU1.out ZU2.out rfl (by decide) _ _ _ rfl (R6.out.alloc _) ⟨_, 0, none⟩ 1 1 [.string n2, .slice a2 ws2.length cc2, .int .i64 lv2, .bool hd2] rfl rfl (vz_new _ ⟨n2, ws2, lv2, hd2, .slice a2 ws2.length cc2⟩ _ _ (by simp)) (vz_one ⟨n2, ws2, lv2, hd2, .slice a2 ws2.length cc2⟩ rfl) (by unfold maxLen; omega) (by omega) (by have := G6.out.size; have := HBS.out; simp; omega) ?_; intro v9 w9 hown9 hgrow9 _; have G9 := Lib.hid ((G6.out.trans (World.grownBy_alloc _ _ _)).andThen hgrow9 (fun k hk => .inl (by have := (R6.out.lt k hk).1; have := HBS.out; omega))); have O9 := Lib.hid hown9; clear hown9 hgrow9)
              obtain ⟨va9, vc9, rfl⟩ := tx_shape O9.out
              have HL2 := Lib.hid (show (R ++ [(⟨n2, ws2, lv2, hd2, .slice a2 ws2.length cc2⟩ : Vz)]).length = R.length + 1 by simp)
              have OA := Lib.hid (show w9.ownsRow base 78 4 (.slice va9 (R ++ [(⟨n2, ws2, lv2, hd2, .slice a2 ws2.length cc2⟩ : Vz)]).length vc9) (R ++ [(⟨n2, ws2, lv2, hd2, .slice a2 ws2.length cc2⟩ : Vz)]).length (vzV (R ++ [⟨n2, ws2, lv2, hd2, .slice a2 ws2.length cc2⟩])) by rw [HL2.out, vzV_snoc]; exact O9.out)
              go_wp2
              go_roundw
              case rel => exact ⟨j + 1, _, va9, vc9, hlt, by go_num, by rw [HL2.out], by rw [HL2.out]; omega, HN, OA, G9⟩
              case measure => simp [intOf]; omega
          · obtain rfl : j = l.length := by omega
            have HSZ := Lib.hid (show R = setZ l ⟨n, ws, lv, hd, .slice a ws.length c⟩ by
              rw [hO.out, ← HO1.out, HO.out, List.take_length]; unfold setZ; simp)
            have QR := Lib.hid (heap_grown hG.out QN.out)
            have hqr : wr.cell? ⟨q, 0, none⟩ = some (.slice va l.length vc) := hG.out.cell HQC.out (by simp)
            have fq := four_free QR.out
            have hqw : q < w.heap.size := (Array.getElem?_eq_some_iff.1 HQ.out).1
            have VR := Lib.hid (show VRow wr (fun b => G b ∨ w.heap.size ≤ b) (.slice ua R.length uc) R from vz_row hR.out rfl (by omega) (fun b hb _ => .inr (by have := HBS.out; have := GN.out.size; omega)) (fun y hy => by
              have hk : KeepG G w wr := KeepG.grown (GN.out.trans hG.out)
              rw [HSZ.out] at hy
              unfold setZ at hy
              rcases List.mem_append.1 hy with h1 | h1
              · obtain ⟨a1, b1, c1, d1, e1, -⟩ := HR.out
                exact ((e1 y (List.mem_filter.1 h1).1).keep hk).more fun b hb _ => .inl hb
              · rcases List.mem_cons.1 h1 with rfl | h1
                · exact (HX.out.keep hk).more fun b hb _ => .inl hb
                · obtain ⟨a1, b1, c1, d1, e1, -⟩ := HR.out
                  exact ((e1 y (List.mem_filter.1 h1).1).keep hk).more fun b hb _ => .inl hb))
            have gq := grown_setCellV wr q (.slice ua R.length uc)
            have HF := Lib.hid (show PSetV q l ⟨n, ws, lv, hd, .slice a ws.length c⟩ G w (.returned (.int .i64 0)) (wr.setCell ⟨q, 0, none⟩ (.slice ua R.length uc)) by
              unfold PSetV
              rw [HP.out]
              refine ⟨rfl, (grown_anyV (GN.out.trans hG.out) q).trans gq, _, heap_setCell_same _ q 0 _ _ _ QR.out, ?_⟩
              have := VR.out.keep (KeepG.but gq (by rintro (h | h); exact hGq h; omega))
              rw [HSZ.out] at this ⊢
              exact this)
            clear hR hO
            go_wp2
            go_ret
            exact HF.out
end Go.Proofs.YtcmfmfkpmgoieaaGreatDoor

/- Walks of package expand: which commands words ask for; millwrightnum.Has. The law ExpandWords, walked: every word's list, right or not, and all commands. -/
import Derived.Test.YtcmfmfkpmgoieaaGreatDoorExDocs
import Derived.Test.YtcmfmfkpmgoieaaGreatDoorExBy
import Derived.Test.YtcmfmfkpmgoieaaGreatDoorLawExT
namespace Go.Proofs.YtcmfmfkpmgoieaaGreatDoor
open Go.RowKit

/-- one more piece: its command, if it is one, and a new one -/
def hasC (C : List ByteArray) (s : ByteArray) : Bool := C.any fun x => decide (x = s)
def stC (C : List ByteArray) (p : Pb) : List ByteArray := if (decide (p.k = 4) && !hasC C p.t) = true then C ++ [p.t] else C
def cmdW (C : List ByteArray) (w : List Pb) : List ByteArray := w.foldl stC C
def cmdE (L : List (List Pb)) : List ByteArray := L.foldl cmdW []
theorem cmdW_take {C : List ByteArray} {w : List Pb} {j : Nat} {p : Pb} (h : w[j]? = some p) : cmdW C (w.take (j + 1)) = stC (cmdW C (w.take j)) p := by
  unfold cmdW
  rw [List.take_add_one, h, Option.toList_some, List.foldl_append]; rfl
theorem cmdE_take {L : List (List Pb)} {j : Nat} {w : List Pb} (h : L[j]? = some w) : cmdE (L.take (j + 1)) = cmdW (cmdE (L.take j)) w := by
  unfold cmdE
  rw [List.take_add_one, h, Option.toList_some, List.foldl_append]; rfl
theorem stC_yes {C : List ByteArray} {p : Pb} (h : p.k = 4) (h2 : hasC C p.t = false) : stC C p = C ++ [p.t] := by unfold stC; rw [if_pos (by simp [h, h2])]
theorem stC_no {C : List ByteArray} {p : Pb} (h : p.k ≠ 4 ∨ hasC C p.t = true) : stC C p = C := by
  unfold stC
  rw [if_neg]
  rcases h with h | h <;> simp [h]
/-- which commands have been seen -/
def seenF (C : List ByteArray) : ByteArray → Option Value := fun s => if hasC C s then some (.bool true) else none
theorem seen_snoc (C : List ByteArray) (x : ByteArray) (s : ByteArray) : putF (seenF C) x (.bool true) s = seenF (C ++ [x]) s := by
  unfold putF seenF
  have e : hasC (C ++ [x]) s = (hasC C s || decide (x = s)) := by unfold hasC; simp
  rw [e]
  by_cases h : s = x
  · subst h; simp
  · rw [if_neg h, decide_eq_false (fun e => h e.symm), Bool.or_false]
theorem zeroBool (w : World) : (zeroValue 4).run Tryz.prog w = .ok (.bool false) w := by kernel_rfl
set_option maxRecDepth 100000 in
set_option maxHeartbeats 8000000 in
theorem pCommands (v : Value) (Ls : List (List Pb)) (w : World) (hR : RRow w v Ls) (hl : Ls.length ≤ 12) (hs : ∀ ps ∈ Ls, ps.length ≤ 12 ∧ ∀ p ∈ ps, p.t.size ≤ 5000) :
    Calls Tryz.prog 24 #[v] w fun e w' => w.grownBy w' none ∧ ∃ u, e = .returned u ∧ TxRow w' u (cmdE Ls) := by
  obtain ⟨iu, hiu, hu0, hu1, hu2⟩ := info_parts infoTx
  have IU := Lib.hid hiu; have ZU0 := Lib.hid hu0; have ZU1 := Lib.hid hu1; have ZU2 := Lib.hid hu2
  obtain ⟨va, vc, rfl, -⟩ := hR.shape
  have HR := Lib.hid hR; have HS := Lib.hid hs
  have M0 := Lib.hid (mpS_new w)
  have G0 := Lib.hid (World.grownBy_alloc w (.map #[] 0) none)
  have hmm := @run_makeMap Tryz.prog
  clear hiu hu0 hu1 hu2 hR hs
  go_enter Tryz.func24, Tryz.ntmps24
  go_upto_region 3 with fail
  obtain ⟨M, hM⟩ : ∃ M, w.heap.size = M := ⟨_, rfl⟩
  rw [hM] at M0 ⊢
  have HM := Lib.hid hM
  generalize w.alloc _ = w1 at M0 G0 ⊢
  clear hM
  go_wp2
  go_loopw [3, 6, 12] (fun o _ i wr => ∃ (j : Nat) (oa : Option Addr) (oc : Nat) (n : Nat) (C : List ByteArray), j ≤ Ls.length ∧ i = .int .i64 j ∧ o = .slice oa C.length oc ∧ Hid (C = cmdE (Ls.take j)) ∧ Hid (wr.ownsRow M 9 1 (.slice oa C.length oc) C.length (txV C)) ∧ Hid (MpS wr M n (seenF C)) ∧ Hid (C.length ≤ 12 * j ∧ n ≤ 12 * j) ∧ Hid (w.grownBy wr none)) (fun _ _ i _ => Ls.length - (intOf i).toNat)
  case atStart => exact ⟨0, none, 0, 0, [], Nat.zero_le _, rfl, rfl, Lib.hid rfl, Lib.hid (World.ownsRow_nil _ _ _ _), Lib.hid (M0.out.same (fun s => by unfold seenF hasC; simp)), Lib.hid ⟨Nat.zero_le _, Nat.zero_le _⟩, G0⟩
  case round =>
    obtain ⟨j, oa, oc, n, C, hj, rfl, rfl, hC, hO, hMp, hB, hG⟩ := hrel
    by_cases hlt : j < Ls.length
    · obtain ⟨b, off, c, ps, u, ev, hx, hb, c0w, hp⟩ := HR.out.at j hlt
      injection ev with ev1 ev2 ev3
      subst ev1 ev3
      have c0 := hG.out.cell c0w (by simp)
      obtain ⟨pa, pc, rfl, -⟩ := hp.shape
      have h12 := (HS.out ps (List.mem_of_getElem? hx)).1
      have HP5 := Lib.hid ((HS.out ps (List.mem_of_getElem? hx)).2)
      have HX := Lib.hid hx
      have PP := Lib.hid hp
      clear hx hb hp c0w
      go_wp2
      clear c0
      go_loopw [3, 18] (fun o m wi => ∃ (k : Nat) (oa' : Option Addr) (oc' : Nat) (n' : Nat) (C' : List ByteArray), k ≤ ps.length ∧ m = .int .i64 k ∧ o = .slice oa' C'.length oc' ∧ Hid (C' = cmdW C (ps.take k)) ∧ Hid (wi.ownsRow M 9 1 (.slice oa' C'.length oc') C'.length (txV C')) ∧ Hid (MpS wi M n' (seenF C')) ∧ Hid (C'.length ≤ 12 * j + k ∧ n' ≤ 12 * j + k) ∧ Hid (w.grownBy wi none)) (fun _ m _ => ps.length - (intOf m).toNat)
      case atStart => exact ⟨0, oa, oc, n, C, Nat.zero_le _, rfl, rfl, Lib.hid rfl, hO, hMp, hB, hG⟩
      case round =>
        obtain ⟨k, oa', oc', n', C', hk, rfl, rfl, hC', hO', hMp', hB', hG'⟩ := hrel
        have hb1 := hB'.out.1
        have hb2 := hB'.out.2
        by_cases hlt' : k < ps.length
        · obtain ⟨b1, off1, c1, p, ev, hy, hbb, c0, c1', c2, c3⟩ := (PP.out.grown hG'.out).at k hlt'
          injection ev with ev1 ev2 ev3
          subst ev1 ev3
          have hp5 := HP5.out p (List.mem_of_getElem? hy)
          have g4 := World.grownBy_alloc wr (.cells #[.int .i64 p.k, .string p.t, .string p.f, .string p.o] 57) none
          have B4 := Lib.hid (heap_alloc_new wr (.cells #[.int .i64 p.k, .string p.t, .string p.f, .string p.o] 57))
          have G4 := Lib.hid (hG'.out.trans g4)
          have R4 := Lib.hid (own_kept hO'.out g4)
          have M4 := Lib.hid (hMp'.out.grown g4)
          have HT := Lib.hid (cmdW_take (C := C) hy)
          clear hy hbb g4
          go_upto_region 9 with fail
          generalize wr.alloc _ = w4 at B4 G4 R4 M4 ⊢
          obtain ⟨d0, d1, d2, d3⟩ := four_px B4.out
          clear c0 c1' c2 c3
          by_cases h4 : p.k = 4
          · have e4 : (p.k == 4) = true := by rw [h4]; rfl
            have hlk := M4.out.look (t := 93) Tryz.underlying93 (zeroBool w4) (s := p.t) (by unfold maxLen; omega)
            cases hsn : hasC C' p.t with
            | true =>
              rw [show seenF C' p.t = some (.bool true) by unfold seenF; rw [hsn]; rfl] at hlk
              have HC2 := Lib.hid (show C' = cmdW C (ps.take (k + 1)) by rw [HT.out, ← hC'.out]; exact (stC_no (.inr hsn)).symm)
              go_wp2
              go_roundw
              case rel => exact ⟨k + 1, oa', oc', n', C', hlt', by go_num, rfl, HC2, R4, M4, Lib.hid ⟨by omega, by omega⟩, G4⟩
              case measure => simp [intOf]; omega
            | false =>
              rw [show seenF C' p.t = none by unfold seenF; rw [hsn]; rfl] at hlk
              have HC2 := Lib.hid (show C' ++ [p.t] = cmdW C (ps.take (k + 1)) by rw [HT.out, ← hC'.out]; exact (stC_yes h4 hsn).symm)
              obtain ⟨w6, hrun, hm6, hg6⟩ := M4.out.store (t := 93) Tryz.underlying93 (by unfold maxLen; omega) (s := p.t) (by unfold maxLen; omega) (.bool true)
              have hMl := M4.out.lt
              have hpbM : wr.heap.size ≠ M := fun e => by
                have := hMp'.out.lt; omega
              have B6 := Lib.hid ((hg6.block wr.heap.size (Array.getElem?_eq_some_iff.1 B4.out).1 (fun e => hpbM (Option.some.inj e))).trans B4.out)
              have G6 := Lib.hid (G4.out.andThen hg6 (fun q hq => .inl (by have := Option.some.inj hq; have := HM.out; omega)))
              have R6 := Lib.hid (R4.out.kept hg6 (by
                rcases hob : (Value.slice oa' C'.length oc').ownBlock with _ | q
                · exact .inl rfl
                · right
                  intro e
                  obtain ⟨cc, hcc⟩ := own_cells R4.out q hob
                  obtain ⟨D, ⟨es, cl, hbm, -⟩, -⟩ := M4.out
                  rw [show q = M from Option.some.inj e] at hcc
                  rw [hcc] at hbm; cases hbm))
              have M6 := Lib.hid (hm6.same (seen_snoc C' p.t))
              obtain ⟨f0, f1, f2, f3⟩ := four_px B6.out
              have hMw : M ≤ w6.heap.size := by have := hg6.size; omega
              clear hm6 hg6
              go_upto_region 12 with (at_builtin; refine wpList_append_own _ rfl _ _ 30 rfl M 9 iu _ 1 16 Tryz.underlying30 IU.out ZU0.out ZU1.out ZU2.out rfl (by decide) _ _ _ rfl (R6.out.alloc _) ⟨_, 0, none⟩ 1 1 [.string p.t] rfl rfl (tx_new _ _ _ _ (by simp)) (tx_one _) (by unfold maxLen; omega) (by omega) (by simp; omega) ?_; intro v9 w9 hown9 hgrow9 _; have G9 := Lib.hid ((G6.out.trans (World.grownBy_alloc _ _ _)).andThen hgrow9 (fun q hq => .inl (by have := (R6.out.lt q hq).1; have := HM.out; omega))); have O9 := Lib.hid hown9; have M9 := Lib.hid ((M6.out.grown (World.grownBy_alloc _ _ none)).kept hgrow9 (fun e => by
                obtain ⟨cc, hcc⟩ := own_cells R6.out M e.symm
                obtain ⟨D, ⟨es, cl, hbm, -⟩, -⟩ := M6.out
                rw [hcc] at hbm; cases hbm)); clear hown9 hgrow9)
              obtain ⟨va9, vc9, rfl⟩ := tx_shape O9.out
              have HL2 := Lib.hid (show (C' ++ [p.t]).length = C'.length + 1 by simp)
              have OA := Lib.hid (show w9.ownsRow M 9 1 (.slice va9 (C' ++ [p.t]).length vc9) (C' ++ [p.t]).length (txV (C' ++ [p.t])) by rw [HL2.out, txV_app]; exact O9.out)
              clear f0 f1 f2 f3
              go_wp2
              go_roundw
              case rel => exact ⟨k + 1, va9, vc9, n' + 1, C' ++ [p.t], hlt', by go_num, by rw [HL2.out], HC2, OA, M9, Lib.hid ⟨by rw [HL2.out]; omega, by omega⟩, G9⟩
              case measure => simp [intOf]; omega
          · have e4 : (p.k == 4) = false := by simpa using h4
            have HC2 := Lib.hid (show C' = cmdW C (ps.take (k + 1)) by rw [HT.out, ← hC'.out]; exact (stC_no (.inl h4)).symm)
            go_wp2
            go_roundw
            case rel => exact ⟨k + 1, oa', oc', n', C', hlt', by go_num, rfl, HC2, R4, M4, Lib.hid ⟨by omega, by omega⟩, G4⟩
            case measure => simp [intOf]; omega
        · have hkk : k = ps.length := by omega
          have HC2 := Lib.hid (show C' = cmdE (Ls.take (j + 1)) by
            have := hC'.out
            rw [List.take_of_length_le (by omega), hC.out] at this
            rw [this, cmdE_take HX.out])
          go_wp2
          go_roundw
          case rel => exact ⟨j + 1, oa', oc', n', C', hlt, by go_num, rfl, HC2, hO', hMp', Lib.hid ⟨by omega, by omega⟩, hG'⟩
          case measure => simp [intOf]; omega
    · have HC2 := Lib.hid (show C = cmdE Ls by have := hC.out; rwa [List.take_of_length_le (by omega)] at this)
      have hb1 := hB.out.1
      go_wp2
      go_ret
      refine ⟨hG.out, _, rfl, ?_⟩
      rw [← HC2.out]
      exact tx_row hO.out rfl (by omega)
set_option maxRecDepth 100000 in
theorem cHasC (v : Value) (C : List ByteArray) (s : ByteArray) (w : World) (h : TxRow w v C) : Calls Tryz.prog 23 #[v, .string s] w fun e w' => e = .returned (.bool (hasC C s)) ∧ w = w' := by
  obtain ⟨a, c, rfl, ⟨hm, -⟩, hr⟩ := h
  obtain ⟨z, hz⟩ : ∃ z, hasC C s = z := ⟨_, rfl⟩
  rw [hz]
  have HZ := Lib.hid hz
  have HR := Lib.hid hr
  clear hz hr
  go_enter Tryz.func23, Tryz.ntmps23
  go_wp2
  go_loop [6, 9] (fun _ i => ∃ j : Nat, j ≤ C.length ∧ i = .int .i64 j ∧ Hid (∀ m y, m < j → C[m]? = some y → y ≠ s)) (fun _ i => C.length - (intOf i).toNat)
  case atStart => exact ⟨0, Nat.zero_le _, rfl, Lib.hid (fun m y hm => by omega)⟩
  case round =>
    obtain ⟨j, hj, rfl, hI⟩ := hrel
    by_cases hlt : j < C.length
    · obtain ⟨x, hx⟩ := tx_get C j hlt
      obtain ⟨b1, off1, rfl, -, hc1⟩ := HR.out (by intro e; rw [e] at hlt; simp at hlt)
      have hcell := hc1 j x hx
      have HX := Lib.hid hx
      clear hc1 hx
      by_cases hn : x = s
      · have e1 := strV_eq hn
        have HV := Lib.hid (show true = z by
          rw [← HZ.out]; unfold hasC
          exact (List.any_eq_true.2 ⟨x, List.mem_of_getElem? HX.out, decide_eq_true hn⟩).symm)
        clear hn
        go_wp2
        go_ret
        exact ⟨ret_bool HV.out, rfl⟩
      · have e1 := str_ne hn
        have HN := Lib.hid (show ∀ m y, m < j + 1 → C[m]? = some y → y ≠ s from fun m y hm hy => by
          rcases Nat.lt_succ_iff_lt_or_eq.1 hm with h1 | rfl
          · exact hI.out m y h1 hy
          · rw [HX.out] at hy; cases hy; exact hn)
        clear hn
        go_wp2
        go_round
        case rel => exact ⟨j + 1, hlt, by go_num, HN⟩
        case measure => simp [intOf]; omega
    · have HV := Lib.hid (show false = z by
        rw [← HZ.out]; unfold hasC
        symm
        rw [List.any_eq_false]
        intro x hx
        obtain ⟨m, hm⟩ := List.getElem?_of_mem hx
        simpa using hI.out m x (by have := (List.getElem?_eq_some_iff.1 hm).1; omega) hm)
      go_wp2
      go_ret
      exact ⟨ret_bool HV.out, rfl⟩
end Go.Proofs.YtcmfmfkpmgoieaaGreatDoor

namespace Go.Proofs.YtcmfmfkpmgoieaaGreatDoor
open Go.RowKit

theorem shp_sm {p : Pb} (h : Shp p) : SmP p := ⟨by have := h.1; omega, by have := h.2.1; omega, by have := h.2.2; omega⟩
theorem rrow_up {w W : World} {v : Value} {L : List (List Pb)} (h : RRow w v L) (g : w.grownBy W none) : RRow W v L := h.grown g
set_option maxRecDepth 100000 in
set_option maxHeartbeats 8000000 in
theorem lExpandWords (A : Nat → Addr) (wv : Value) (Ls : List (List Pb)) (v : Value) (L : List Vz) (ov : Value) (O : List Ot) (w : World) (hE : LwE A w) (hW : RRow w wv Ls) (hR : VRow w (fun b => b < w.heap.size) v L) (hl : L.length ≤ 2513169435000) (hO : ORow w ov O) :
    Calls Tryz.prog 4 #[wv, v, ov] w fun e w' => e = .returned (.bool true) ∧ w.grownBy w' none := by
  obtain ⟨iu, hiu, hu0, hu1, hu2⟩ := info_parts infoTx
  have IU := Lib.hid hiu; have ZU0 := Lib.hid hu0; have ZU1 := Lib.hid hu1; have ZU2 := Lib.hid hu2
  obtain ⟨wa, wc, rfl, -⟩ := hW.shape
  obtain ⟨va, vc, rfl, -⟩ := hR.shape
  obtain ⟨oa, oc, rfl, -⟩ := hO.shape
  have CA := Lib.hid (lAlive17 A w hE.x)
  have HE := Lib.hid hE; have HR := Lib.hid hR; have HO := Lib.hid hO; have HW := Lib.hid hW
  have CLx := Lib.hid (fun (W : World) (g : w.grownBy W none) => lLongX _ Ls W (HW.out.grown g))
  have CLo := Lib.hid (fun (W : World) (g : w.grownBy W none) => lLongO _ O 10 W (HO.out.grown g))
  clear hE hR hO hW hiu hu0 hu1 hu2
  go_enter Tryz.func4, Tryz.ntmps4
  go_wp2_with (go_at_call 6; (with_reducible refine CA.out.mono ?_); rintro e w1 ⟨rfl, g1⟩; have G1 := Lib.hid g1; clear g1)
  refine (CLx.out _ G1.out).mono ?_
  rintro e w2 ⟨⟨z, rfl, hz⟩, g2⟩
  have G2 := Lib.hid (G1.out.trans g2)
  clear g2 CLx CA G1
  cases z with
  | true =>
    clear hz
    go_wp2
    go_ret
    exact ⟨rfl, G2.out⟩
  | false =>
  obtain ⟨h12, hsh⟩ := hz rfl
  have SH := Lib.hid hsh
  clear hz hsh
  go_wp2_with fail
  refine (CLo.out _ G2.out).mono ?_
  rintro e w3 ⟨⟨z, rfl, hz⟩, g3⟩
  have G3 := Lib.hid (G2.out.trans g3)
  clear g3 CLo G2
  cases z with
  | true =>
    clear hz
    go_wp2
    go_ret
    exact ⟨rfl, G3.out⟩
  | false =>
  have SO := Lib.hid (hz rfl)
  clear hz
  have CV := Lib.hid (lVars A _ L w3 (vrow_up HR.out G3.out) (HE.out.grown G3.out).x.lv17 hl)
  go_wp2_with fail
  refine CV.out.mono ?_
  rintro e w4 ⟨g4, rfl | ⟨p, q, b, F, Z, uv, l, G, rfl, T4⟩⟩
  · have G4 := Lib.hid (G3.out.trans g4)
    clear g4 CV
    go_wp2
    go_ret
    exact ⟨rfl, G4.out⟩
  have G4 := Lib.hid (G3.out.trans g4)
  have T := Lib.hid T4
  clear g4 T4 CV G3
  have hps : ∀ ps ∈ Ls, ps.length ≤ 12 := fun ps h => (SH.out ps h).1
  have hsm : ∀ ps ∈ Ls, ∀ p ∈ ps, SmP p := fun ps h p hp => shp_sm ((SH.out ps h).2 p hp)
  have HPS := Lib.hid hps; have HSM := Lib.hid hsm
  have CO := Lib.hid (fun (W : World) (g : w.grownBy W none) => lOutputs _ O W (HO.out.grown g) (by have := SO.out.1; omega))
  have COf := Lib.hid (lOfX _ Ls w4 (HW.out.grown G4.out) h12 hps)
  clear hps hsm
  go_wp2_with fail
  refine COf.out.mono ?_
  rintro e w5 ⟨⟨u5, rfl, o5⟩, g5⟩
  have G5 := Lib.hid (G4.out.trans g5)
  have T5 := Lib.hid (T.out.grown g5)
  have hrr := rr_row o5 (by omega)
  obtain ⟨a5, c5, rfl, -⟩ := hrr.shape
  have RR := Lib.hid hrr
  have CW := Lib.hid (pWordsA _ Ls w5 (T5.out.ex (HE.out.grown G5.out).x (HO.out.grown G5.out) SO.out.all) (HW.out.grown G5.out) (fun ps h => ⟨by have := HPS.out ps h; omega, HSM.out ps h⟩) (by omega))
  clear o5 g5 hrr COf T
  go_wp2_with fail
  refine CW.out.mono ?_
  rintro e w6 ⟨g6, v6, L6, rfl, t6, h6⟩
  obtain ⟨a6, c6, rfl, -⟩ := id t6
  have G6 := Lib.hid (G5.out.trans g6)
  have T6 := Lib.hid (T5.out.grown g6)
  have R6 := Lib.hid t6
  have H6 := Lib.hid h6
  have RR6 := Lib.hid (RR.out.grown g6)
  clear t6 h6 g6 CW T5 RR
  go_wp2_with fail
  refine (CO.out _ G6.out).mono ?_
  rintro e w7 ⟨⟨ou, rfl, o7⟩, g7⟩
  obtain ⟨a7, c7, rfl, -⟩ := o7.shape
  have G7 := Lib.hid (G6.out.trans g7)
  have T7 := Lib.hid (T6.out.grown g7)
  have R7 := Lib.hid (txrow_up R6.out g7)
  have CD := Lib.hid (dWords17 q uv l G _ O _ Ls w7 (T7.out.doc o7) (fun k hk => (T7.out.g k hk).1) T7.out.z SO.out.all.2.2 (RR6.out.grown g7) (fun ps h => ⟨by have := HPS.out ps h; omega, HSM.out ps h⟩) (by omega))
  rw [← T7.out.s] at CD
  clear o7 g7 T6 R6 RR6
  go_wp2_with fail
  refine CD.out.mono ?_
  rintro e w8 ⟨g8, v8, L8, rfl, t8, h8⟩
  obtain rfl : L8 = L6 := txL_inj (h8.trans H6.out.symm)
  obtain ⟨a8, c8, rfl, -⟩ := t8.1
  have G8 := Lib.hid (G7.out.trans g8)
  have T8 := Lib.hid (T7.out.grown g8)
  have R8 := Lib.hid (txrow_up R7.out g8)
  have S8 := Lib.hid t8.1
  have CN := Lib.hid (lNumV A (exN (wordsE (wsV (vbL Z)) O Ls)) wordsE_le w8 (HE.out.grown G8.out).1)
  have CS := Lib.hid (fun (W : World) (g : w8.grownBy W none) => cSameT _ _ L8 W (txrow_up R8.out g) (txrow_up S8.out g))
  clear t8 h8 g8 CD T7 R7 H6
  generalize exN (wordsE (wsV (vbL Z)) O Ls) = ek at CN ⊢
  have hek : ((ek : Int) != (ek : Int)) = false := by simp
  go_upto_region 13 with (first
    | (go_at_call 14; (with_reducible refine CN.out.mono ?_); rintro e w9 ⟨rfl, g9⟩; have G9 := Lib.hid g9; clear g9)
    | (go_at_call 15; (with_reducible refine (CS.out _ G9.out).mono ?_); rintro e w10 ⟨rfl, n10, rfl⟩; have G10 := Lib.hid (grown_drewN G9.out n10)))
  have G11 := Lib.hid (G8.out.trans G10.out)
  have T11 := Lib.hid (T8.out.grown G10.out)
  clear T8 R8 S8 CN CS
  generalize (World.drewN _ _) = w11 at G11 T11 G10 ⊢
  clear G10 G9
  obtain ⟨base, hbase⟩ : ∃ base, w11.heap.size = base := ⟨_, rfl⟩
  have O12 := Lib.hid (show (w11.alloc (.cells #[] 9)).ownsRow base 9 1 (.slice (some ⟨base, 0, none⟩) 0 0) 0 (txV []) by rw [← hbase]; exact own_zero w11 9 1 w11.heap.size (Nat.le_refl _))
  have Y12 := Lib.hid (World.grownBy_alloc w11 (.cells #[] 9) none)
  have HB := Lib.hid hbase
  go_upto_region 14 with fail
  generalize w11.alloc _ = w12 at O12 Y12 ⊢
  clear hbase
  go_wp2
  go_loopw [15, 17, 18, 19, 20, 21, 70] (fun cm _ _ _ _ _ i wr => ∃ (j : Nat) (ca : Option Addr) (cc : Nat) (C : List ByteArray), j ≤ Ls.length ∧ i = .int .i64 j ∧ cm = .slice ca C.length cc ∧ Hid (C = cmdE (Ls.take j)) ∧ Hid (wr.ownsRow base 9 1 (.slice ca C.length cc) C.length (txV C)) ∧ Hid (C.length ≤ 12 * j) ∧ Hid (w11.grownBy wr none)) (fun _ _ _ _ _ _ i _ => Ls.length - (intOf i).toNat)
  case atStart => exact ⟨0, _, _, [], Nat.zero_le _, rfl, rfl, Lib.hid rfl, O12, Lib.hid (Nat.zero_le _), Y12⟩
  case round =>
    obtain ⟨j, ca, cc, C, hj, rfl, rfl, hC, hOc, hBc, hY⟩ := hrel
    have GW := Lib.hid (G11.out.trans hY.out)
    by_cases hlt : j < Ls.length
    · obtain ⟨bb, off, c, ps, u, ev, hx, hb, c0w, hpw⟩ := HW.out.at j hlt
      injection ev with ev1 ev2 ev3
      subst ev1 ev3
      have c0 := GW.out.cell c0w (by simp)
      have PW := Lib.hid hpw
      have hp := hpw.grown GW.out
      clear hpw c0w
      obtain ⟨pa, pc, rfl, -⟩ := hp.shape
      have hmem := List.mem_of_getElem? hx
      have h12p := HPS.out ps hmem
      have TW := Lib.hid (T11.out.grown hY.out)
      have CP := Lib.hid (pWord17 _ ps wr (TW.out.ex (HE.out.grown GW.out).x (HO.out.grown GW.out) SO.out.all) hp (HSM.out ps hmem) (by omega))
      have HX := Lib.hid hx
      have HMM := Lib.hid hmem
      have PP := Lib.hid hp
      clear hx hb hp hmem
      go_wp2_with fail
      refine CP.out.mono ?_
      rintro e w13 ⟨g13, v13, L13, rfl, t13, h13⟩
      obtain ⟨a13, c13, rfl, -⟩ := id t13
      have Y13 := Lib.hid (hY.out.trans g13)
      have R13 := Lib.hid t13
      have H13 := Lib.hid h13
      have O13 := Lib.hid (own_kept hOc.out g13)
      have P13 := Lib.hid (PP.out.grown g13)
      have T13 := Lib.hid (TW.out.grown g13)
      have CX := Lib.hid (lWordX _ ps w13 P13.out h12p)
      clear t13 h13 g13 CP TW PP hY hOc c0 GW
      go_wp2_with fail
      refine CX.out.mono ?_
      rintro e w14 ⟨⟨u14, rfl, o14⟩, g14⟩
      obtain ⟨a14, c14, rfl⟩ := tx_shape o14
      have Y14 := Lib.hid (Y13.out.trans g14)
      have R14 := Lib.hid (txrow_up R13.out g14)
      have O14 := Lib.hid (own_kept O13.out g14)
      have P14 := Lib.hid (P13.out.grown g14)
      have T14 := Lib.hid (T13.out.grown g14)
      have D14 := Lib.hid (pc_row o14 rfl (by omega))
      clear o14 g14 CX R13 O13 P13 T13
      go_wp2_with fail
      refine (CO.out _ (G11.out.trans Y14.out)).mono ?_
      rintro e w15 ⟨⟨ou15, rfl, o15⟩, g15⟩
      obtain ⟨a15, c15, rfl, -⟩ := o15.shape
      have Y15 := Lib.hid (Y14.out.trans g15)
      have R15 := Lib.hid (txrow_up R14.out g15)
      have O15 := Lib.hid (own_kept O14.out g15)
      have P15 := Lib.hid (P14.out.grown g15)
      have T15 := Lib.hid (T14.out.grown g15)
      have CD := Lib.hid (dWord17 q uv l G _ O _ ps w15 (T15.out.doc o15) (fun k hk => (T15.out.g k hk).1) T15.out.z SO.out.all.2.2 (D14.out.grown g15) (HSM.out ps HMM.out) (by omega))
      rw [← T15.out.s] at CD
      clear o15 g15 R14 O14 P14 T14 D14 Y14 Y13
      go_wp2_with fail
      refine CD.out.mono ?_
      rintro e w16 ⟨g16, v16, L16, rfl, t16, h16⟩
      obtain rfl : L16 = L13 := txL_inj (h16.trans H13.out.symm)
      obtain ⟨a16, c16, rfl, -⟩ := t16.1
      have Y16 := Lib.hid (Y15.out.trans g16)
      have R16 := Lib.hid (txrow_up R15.out g16)
      have S16 := Lib.hid t16.1
      have O16 := Lib.hid (own_kept O15.out g16)
      have P16 := Lib.hid (P15.out.grown g16)
      have CN := Lib.hid (lNumV A (exN (wordE (wsV (vbL Z)) O ps)) wordE_le w16 (HE.out.grown (G11.out.trans Y16.out)).1)
      have CS := Lib.hid (fun (W : World) (g : w16.grownBy W none) => cSameT _ _ L16 W (txrow_up R16.out g) (txrow_up S16.out g))
      clear t16 h16 g16 CD R15 O15 P15 T15 Y15 H13
      generalize exN (wordE (wsV (vbL Z)) O ps) = ek2 at CN ⊢
      have hek2 : ((ek2 : Int) != (ek2 : Int)) = false := by simp
      go_upto_region 21 with (first
        | (go_at_call 14; (with_reducible refine CN.out.mono ?_); rintro e w17 ⟨rfl, g17⟩; have G17 := Lib.hid g17; clear g17)
        | (go_at_call 15; (with_reducible refine (CS.out _ G17.out).mono ?_); rintro e w18 ⟨rfl, n18, rfl⟩; have G18 := Lib.hid (grown_drewN G17.out n18)))
      have Y18 := Lib.hid (Y16.out.trans G18.out)
      have O18 := Lib.hid (own_kept O16.out G18.out)
      have P18 := Lib.hid (P16.out.grown G18.out)
      clear R16 S16 CN CS O16 P16 Y16
      generalize (World.drewN _ _) = w18 at Y18 O18 P18 G18 ⊢
      clear G18 G17
      have hbc := hBc.out
      go_wp2
      go_loopw [15, 102] (fun cm i wr => ∃ (k : Nat) (ca' : Option Addr) (cc' : Nat) (C' : List ByteArray), k ≤ ps.length ∧ i = .int .i64 k ∧ cm = .slice ca' C'.length cc' ∧ Hid (C' = cmdW C (ps.take k)) ∧ Hid (wr.ownsRow base 9 1 (.slice ca' C'.length cc') C'.length (txV C')) ∧ Hid (C'.length ≤ 12 * j + k) ∧ Hid (w11.grownBy wr none)) (fun _ i _ => ps.length - (intOf i).toNat)
      case atStart => exact ⟨0, ca, cc, C, Nat.zero_le _, rfl, rfl, Lib.hid rfl, O18, hBc, Y18⟩
      case round =>
        obtain ⟨k, ca', cc', C', hk, rfl, rfl, hC', hO', hB', hY'⟩ := hrel
        have hb1 := hB'.out
        by_cases hlt' : k < ps.length
        · obtain ⟨b1, off1, c1, pp, ev, hy, hbb, c0, c1', c2, c3⟩ := (PW.out.grown (G11.out.trans hY'.out)).at k hlt'
          injection ev with ev1 ev2 ev3
          subst ev1 ev3
          have g4 := World.grownBy_alloc wr (.cells #[.int .i64 pp.k, .string pp.t, .string pp.f, .string pp.o] 57) none
          have B4 := Lib.hid (heap_alloc_new wr (.cells #[.int .i64 pp.k, .string pp.t, .string pp.f, .string pp.o] 57))
          have Y4 := Lib.hid (hY'.out.trans g4)
          have R4 := Lib.hid (own_kept hO'.out g4)
          have HT := Lib.hid (cmdW_take (C := C) hy)
          clear hy hbb g4
          go_upto_region 24 with fail
          generalize wr.alloc _ = w4 at B4 Y4 R4 ⊢
          obtain ⟨d0, d1, d2, d3⟩ := four_px B4.out
          clear c0 c1' c2 c3
          by_cases h4 : pp.k = 4
          · have e4 : (pp.k == 4) = true := by rw [h4]; rfl
            have CH := Lib.hid (cHasC _ C' pp.t w4 (tx_row R4.out rfl (by omega)))
            cases hsn : hasC C' pp.t with
            | true =>
              rw [hsn] at CH
              have HC2 := Lib.hid (show C' = cmdW C (ps.take (k + 1)) by rw [HT.out, ← hC'.out]; exact (stC_no (.inr hsn)).symm)
              go_wp2_with (go_at_call 23; (with_reducible refine CH.out.mono ?_); rintro e w19 ⟨rfl, rfl⟩)
              go_roundw
              case rel => exact ⟨k + 1, ca', cc', C', hlt', by go_num, rfl, HC2, R4, Lib.hid (by omega), Y4⟩
              case measure => simp [intOf]; omega
            | false =>
              rw [hsn] at CH
              have HC2 := Lib.hid (show C' ++ [pp.t] = cmdW C (ps.take (k + 1)) by rw [HT.out, ← hC'.out]; exact (stC_yes h4 hsn).symm)
              have hbz : base ≤ w4.heap.size := by have := Y4.out.size; have := HB.out; omega
              go_wp2_with (first
                | (go_at_call 23; (with_reducible refine CH.out.mono ?_); rintro e w19 ⟨rfl, rfl⟩)
                | (at_builtin; refine wpList_append_own _ rfl _ _ 30 rfl base 9 iu _ 1 16 Tryz.underlying30 IU.out ZU0.out ZU1.out ZU2.out rfl (by decide) _ _ _ rfl (R4.out.alloc _) ⟨_, 0, none⟩ 1 1 [.string pp.t] rfl rfl (tx_new _ _ _ _ (by simp)) (tx_one _) (by unfold maxLen; omega) (by omega) (by simp; omega) ?_; intro v9 w9 hown9 hgrow9 _; have Y9 := Lib.hid ((Y4.out.trans (World.grownBy_alloc _ _ _)).andThen hgrow9 (fun q hq => .inl (by have := (R4.out.lt q hq).1; have := HB.out; omega))); have O9 := Lib.hid hown9; clear hown9 hgrow9))
              obtain ⟨va9, vc9, rfl⟩ := tx_shape O9.out
              have HL2 := Lib.hid (show (C' ++ [pp.t]).length = C'.length + 1 by simp)
              have OA := Lib.hid (show w9.ownsRow base 9 1 (.slice va9 (C' ++ [pp.t]).length vc9) (C' ++ [pp.t]).length (txV (C' ++ [pp.t])) by rw [HL2.out, txV_app]; exact O9.out)
              go_wp2
              go_roundw
              case rel => exact ⟨k + 1, va9, vc9, C' ++ [pp.t], hlt', by go_num, by rw [HL2.out], HC2, OA, Lib.hid (by rw [HL2.out]; omega), Y9⟩
              case measure => simp [intOf]; omega
          · have e4 : (pp.k == 4) = false := by simpa using h4
            have HC2 := Lib.hid (show C' = cmdW C (ps.take (k + 1)) by rw [HT.out, ← hC'.out]; exact (stC_no (.inl h4)).symm)
            go_wp2
            go_roundw
            case rel => exact ⟨k + 1, ca', cc', C', hlt', by go_num, rfl, HC2, R4, Lib.hid (by omega), Y4⟩
            case measure => simp [intOf]; omega
        · have HC2 := Lib.hid (show C' = cmdE (Ls.take (j + 1)) by
            have := hC'.out
            rw [List.take_of_length_le (by omega), hC.out] at this
            rw [this, cmdE_take HX.out])
          go_wp2
          go_roundw
          case rel => exact ⟨j + 1, ca', cc', C', hlt, by go_num, rfl, HC2, hO', Lib.hid (by omega), hY'⟩
          case measure => simp [intOf]; omega
    · have HC2 := Lib.hid (show C = cmdE Ls by have := hC.out; rwa [List.take_of_length_le (by omega)] at this)
      have hbc := hBc.out
      have CC := Lib.hid (pCommands _ Ls wr (HW.out.grown GW.out) h12 (fun ps h => ⟨HPS.out ps h, fun p hp => (HSM.out ps h p hp).1⟩))
      go_wp2_with fail
      refine CC.out.mono ?_
      rintro e w13 ⟨g13, u13, rfl, t13⟩
      rw [← HC2.out] at t13
      obtain ⟨a13, c13, rfl, -⟩ := id t13
      have G13 := Lib.hid (GW.out.trans g13)
      have CS := Lib.hid (cSameT _ _ C w13 t13 (tx_row (own_kept hOc.out g13) rfl (by omega)))
      clear t13 g13 CC
      go_wp2_with (go_at_call 15; (with_reducible refine CS.out.mono ?_); rintro e w14 ⟨rfl, n14, rfl⟩)
      go_ret
      exact ⟨rfl, grown_drewN G13.out _⟩
end Go.Proofs.YtcmfmfkpmgoieaaGreatDoor

/- What package quote's functions answer, as the laws are told of it. Walks of package quote: blanks, what stands behind them, the parts between blanks, where a quoted part ends. -/
import Derived.Test.YtcmfmfkpmgoieaaGreatDoorQtSplit
import Derived.Test.YtcmfmfkpmgoieaaGreatDoorQtRow
import Derived.Test.YtcmfmfkpmgoieaaGreatDoorQtPlain
namespace Go.Proofs.YtcmfmfkpmgoieaaGreatDoor
open Go.RowKit

/-- the library's variable of how long a text is that its processor looks for holds some number -/
def MaxI (w : World) : Prop := ∃ m, w.cell? ⟨18, 0, none⟩ = some (.int .i64 m)
theorem MaxI.grown {w w' : World} (h : MaxI w) (hg : w.grownBy w' none) : MaxI w' := by
  obtain ⟨m, hm⟩ := h
  exact ⟨m, ((below_of_grown hg).cell (p := ⟨18, 0, none⟩) (cell_block hm)).trans hm⟩
/-- the variable of a quote that has no end holds its error -/
def QErr (A : Nat → Addr) (w : World) : Prop := w.cell? ⟨5, 0, none⟩ = some (.iface 194 (.pointer (some (A 5)))) ∧ MaxI w
theorem QErr.grown {A : Nat → Addr} {w w' : World} (h : QErr A w) (hg : w.grownBy w' none) : QErr A w' := ⟨((below_of_grown hg).cell (p := ⟨5, 0, none⟩) (cell_block h.1)).trans h.1, h.2.grown hg⟩
theorem TxRow.grown {w w' : World} {v : Value} {l : List ByteArray} (h : TxRow w v l) (hg : w.grownBy w' none) : TxRow w' v l := h.later (below_of_grown hg)
/-- a text -/
def PTxt (L : List UInt8) (w : World) (e : Ending) (w' : World) : Prop := w.grownBy w' none ∧ ∃ t : ByteArray, e = .returned (.string t) ∧ t.data.toList = L
/-- a row of texts -/
def PTx (L : List (List UInt8)) (w : World) (e : Ending) (w' : World) : Prop := w.grownBy w' none ∧ ∃ v O, e = .returned v ∧ TxRow w' v O ∧ txL O = L
/-- words, or none and the error -/
def PSpl (l : List UInt8) (A : Nat → Addr) (w : World) (e : Ending) (w' : World) : Prop :=
  w.grownBy w' none ∧ ∃ v O ev, e = .returned (.tuple #[v, ev]) ∧ TxRow w' v O ∧
    ((splQ l = some (txL O) ∧ ev = .nilIface) ∨ (splQ l = none ∧ O = [] ∧ ev = .iface 194 (.pointer (some (A 5)))))
theorem fld_len (l : List UInt8) : (fldQ l).length ≤ l.length + 1 := by
  have key : ∀ (l : List UInt8) (q : List UInt8 × List (List UInt8)), (l.foldl fldS q).2.length ≤ q.2.length + l.length := by
    intro l
    induction l with
    | nil => intro q; simp
    | cons b l ih =>
      intro q
      have := ih (fldS q b)
      have h1 : (fldS q b).2.length ≤ q.2.length + 1 := by
        unfold fldS; split
        · split <;> simp
        · simp
      simp only [List.foldl_cons, List.length_cons]
      omega
  have := key l ([], [])
  unfold fldQ flushQ
  split
  · simp at this; omega
  · simp at this ⊢; omega
theorem spl_len {l : List UInt8} {L : List (List UInt8)} (h : splQ l = some L) : L.length ≤ l.length + 1 := by
  have key : ∀ (l : List UInt8) (q : Sq), (runQ q l).out.length ≤ q.out.length + l.length := by
    intro l
    induction l with
    | nil => intro q; simp [runQ]
    | cons b l ih =>
      intro q
      have := ih (stpQ q b)
      have h1 : (stpQ q b).out.length ≤ q.out.length + 1 := by
        unfold stpQ stpO; repeat' split
        all_goals simp
      simp only [runQ, List.foldl_cons, List.length_cons] at this ⊢
      omega
  have := key l ⟨0, [], []⟩
  unfold splQ endQ at h
  split at h
  · cases h
  · split at h
    · cases h; simp at this; omega
    · cases h; simp at this ⊢; omega
theorem tx_len {O : List ByteArray} {L : List (List UInt8)} (h : txL O = L) : O.length = L.length := by rw [← h]; simp
end Go.Proofs.YtcmfmfkpmgoieaaGreatDoor

namespace Go.Proofs.YtcmfmfkpmgoieaaGreatDoor
open Go.RowKit

set_option maxHeartbeats 1000000 in
theorem pBlank0 (b : UInt8) (w : World) : Calls Tryz.prog 44 #[.int .u8 b.toNat] w fun e w' => e = .returned (.bool (blkQ b)) ∧ w = w' := by
  have HB := Lib.hid (blk_nat b)
  generalize blkQ b = z at HB ⊢
  obtain ⟨x, hx⟩ : ∃ x, x = b.toNat := ⟨_, rfl⟩
  rw [← hx] at HB ⊢
  clear hx
  obtain ⟨f1, h1⟩ : ∃ f, f = (x == 32) := ⟨_, rfl⟩
  obtain ⟨f2, h2⟩ : ∃ f, f = (x == 9) := ⟨_, rfl⟩
  obtain ⟨f3, h3⟩ : ∃ f, f = (x == 10) := ⟨_, rfl⟩
  have e1 : ((x : Int) == 32) = f1 := by rw [h1, Bool.eq_iff_iff]; simp; omega
  have e2 : ((x : Int) == 9) = f2 := by rw [h2, Bool.eq_iff_iff]; simp; omega
  have e3 : ((x : Int) == 10) = f3 := by rw [h3, Bool.eq_iff_iff]; simp; omega
  rw [← h1, ← h2, ← h3] at HB
  clear h1 h2 h3
  go_enter Tryz.func44, Tryz.ntmps44
  cases f1 <;> cases f2
  all_goals
    go_wp2
    go_ret
    exact ⟨ret_bool HB.out.symm, rfl⟩
theorem pBlank (b : UInt8) (w : World) : Calls Tryz.prog 44 #[.int .u8 b.toNat] w fun e w' => e = .returned (.bool (blkQ b)) ∧ w.grownBy w' none :=
  (pBlank0 b w).mono fun _ _ ⟨h, g⟩ => ⟨h, g ▸ World.grownBy.refl _ _⟩

set_option maxRecDepth 100000 in
set_option maxHeartbeats 1000000 in
theorem pBeyond (s : ByteArray) (k : Nat) (t : Bool) (w : World) (hs : s.size ≤ 5000) (hk : k ≤ s.size) : Calls Tryz.prog 96 #[.string s, .int .i64 k, .bool t] w fun e w' => e = .returned (.int .i64 (skpQ t s.data.toList k)) ∧ w = w' := by
  obtain ⟨z, hz⟩ : ∃ z, skpQ t s.data.toList k = z := ⟨_, rfl⟩
  rw [hz]
  have HZ := Lib.hid hz
  clear hz
  go_enter Tryz.func96, Tryz.ntmps96
  go_wp2
  go_loop [1] (fun i => ∃ j : Nat, j ≤ s.size ∧ i = .int .i64 j ∧ Hid (skpQ t s.data.toList j = z)) (fun i => s.size - (intOf i).toNat)
  case atStart => exact ⟨k, hk, rfl, HZ⟩
  case round =>
    obtain ⟨j, hj, rfl, hE⟩ := hrel
    by_cases hlt : j < s.size
    · have HJ := Lib.hid (list_at hlt)
      have CB := Lib.hid (fun w => pBlank0 s[j] w)
      by_cases hb : blkQ s[j] = t
      · have HN := Lib.hid (show skpQ t s.data.toList (j + 1) = z by rw [← skp_on HJ.out hb]; exact hE.out)
        rw [hb] at CB
        clear hb hE
        cases t
        all_goals
          go_wp2_with (go_at_call 44; (with_reducible refine (CB.out _).mono ?_); rintro e w3 ⟨rfl, rfl⟩)
          go_round
          case rel => exact ⟨j + 1, by omega, by go_num, HN⟩
          case measure => simp [intOf]; omega
      · have hb2 : blkQ s[j] = !t := by cases t <;> simpa using hb
        have HN := Lib.hid (show j = z by rw [← skp_off HJ.out hb2]; exact hE.out)
        rw [hb2] at CB
        clear hb hb2 hE
        cases t
        all_goals
          go_wp2_with (go_at_call 44; (with_reducible refine (CB.out _).mono ?_); rintro e w3 ⟨rfl, rfl⟩)
          go_ret
          exact ⟨ret_int (by rw [HN.out]), rfl⟩
    · have HN := Lib.hid (show j = z by rw [← skp_end (t := t) (l := s.data.toList) (k := j) (by simp; omega)]; exact hE.out)
      go_wp2
      go_ret
      exact ⟨ret_int (by rw [HN.out]), rfl⟩

theorem toList_cut {s : ByteArray} (j e : Nat) : (s.extract j e).data.toList = (s.data.toList.take e).drop j := by
  have e1 : (s.extract j e).data.toList = (s.data.toList.drop j).take (e - j) := by simp
  rw [e1, List.drop_take]
/-- fields, in a row that the call has made -/
def PTxF (L : List (List UInt8)) (w : World) (e : Ending) (w' : World) : Prop := w.grownBy w' none ∧ ∃ v O, e = .returned v ∧ TxRow w' v O ∧ txL O = L ∧ ∀ b, v.ownBlock = some b → w.heap.size ≤ b
set_option maxRecDepth 100000 in
set_option maxHeartbeats 4000000 in
theorem pFieldsF (s : ByteArray) (w : World) (hs : s.size ≤ 5000) : Calls Tryz.prog 81 #[.string s] w (PTxF (fldQ s.data.toList) w) := by
  obtain ⟨iu, hiu, hu0, hu1, hu2⟩ := info_parts infoTx
  have IU := Lib.hid hiu; have ZU0 := Lib.hid hu0; have ZU1 := Lib.hid hu1; have ZU2 := Lib.hid hu2
  clear hiu hu0 hu1 hu2
  have hlen : s.data.toList.length = s.size := by simp
  obtain ⟨base, hbase⟩ : ∃ base, base = w.heap.size := ⟨_, rfl⟩
  have HBL := Lib.hid (show w.heap.size = base from hbase.symm)
  have HLN := Lib.hid hlen
  have HS := Lib.hid (fun (t : Bool) (k : Nat) (h : k ≤ s.size) => show k ≤ skpQ t s.data.toList k ∧ skpQ t s.data.toList k ≤ s.size by
    have := skp_le (t := t) (l := s.data.toList) (k := k) (by rw [HLN.out]; exact h)
    rwa [HLN.out] at this)
  clear hbase hlen
  go_enter Tryz.func81, Tryz.ntmps81
  obtain ⟨j0, hj0⟩ : ∃ j0, skpQ true s.data.toList 0 = j0 := ⟨_, rfl⟩
  have CB0 := pBeyond s 0 true w hs (Nat.zero_le _)
  rw [hj0, show ((0 : Nat) : Int) = 0 from rfl] at CB0
  have CB := Lib.hid CB0
  have hj0s : j0 ≤ s.size := by rw [← hj0]; exact (HS.out true 0 (Nat.zero_le _)).2
  have F0 := Lib.hid (show fldQ s.data.toList = fldA s.data.toList [] [] j0 by rw [← hj0, fldA_skip]; rfl)
  have N0 := Lib.hid (show ∀ b, s.data.toList[j0]? = some b → blkQ b = false by rw [← hj0]; exact skp_stop (t := true) _ (Nat.le_refl _))
  clear hj0 CB0
  go_wp2_with (go_at_call 96; (with_reducible refine CB.out.mono ?_); rintro e w3 ⟨rfl, rfl⟩)
  clear CB
  go_loopw [3, 4] (fun o i wr => ∃ (j : Nat) (O : List ByteArray) (va : Option Addr) (vc : Nat), j ≤ s.size ∧ i = .int .i64 j ∧ o = .slice va O.length vc ∧ O.length ≤ j ∧ Hid (fldQ s.data.toList = fldA s.data.toList [] (txL O) j) ∧ Hid (∀ b, s.data.toList[j]? = some b → blkQ b = false) ∧ Hid (wr.ownsRow base 9 1 (.slice va O.length vc) O.length (txV O)) ∧ Hid (w.grownBy wr none)) (fun _ i _ => s.size - (intOf i).toNat)
  case atStart => exact ⟨j0, [], _, _, hj0s, rfl, rfl, Nat.zero_le _, F0, N0, Lib.hid (tx_nil _ _ _), Lib.hid (World.grownBy.refl _ _)⟩
  case round =>
    obtain ⟨j, O, va, vc, hj, rfl, rfl, hO, hF, hN, hR, hG⟩ := hrel
    by_cases hlt : j < s.size
    · have HJ := Lib.hid (list_at hlt)
      have hP := fldA_part HJ.out (hN.out _ HJ.out) (txL O)
      obtain ⟨e1, he1⟩ : ∃ e1, skpQ false s.data.toList j = e1 := ⟨_, rfl⟩
      have hle1 := (HS.out false j hj).2
      have CB1 := Lib.hid (fun w => pBeyond s j false w hs hj)
      rw [he1] at hP hle1 CB1
      obtain ⟨hje, hP⟩ := hP
      obtain ⟨e2, he2⟩ : ∃ e2, skpQ true s.data.toList e1 = e2 := ⟨_, rfl⟩
      have hle2 := HS.out true e1 hle1
      have CB2 := Lib.hid (fun w => pBeyond s e1 true w hs hle1)
      have HN := Lib.hid (skp_stop (t := true) (l := s.data.toList) (k := e1) _ (Nat.le_refl _))
      rw [he2] at hle2 CB2 HN
      obtain ⟨x, hx⟩ : ∃ x, s.extract j e1 = x := ⟨_, rfl⟩
      have HF := Lib.hid (show fldQ s.data.toList = fldA s.data.toList [] (txL (O ++ [x])) e2 by
        rw [hF.out, hP, ← he2, fldA_skip, ← hx]
        congr 1
        simp only [txL, List.map_append, List.map_cons, List.map_nil, toList_cut])
      have HX := Lib.hid hx
      clear he1 he2 hP hx hF hN
      go_wp2_with (first
        | (go_at_call 96; (with_reducible refine (CB1.out _).mono ?_); rintro e w3 ⟨rfl, rfl⟩)
        | (go_at_call 96; (with_reducible refine (CB2.out _).mono ?_); rintro e w4 ⟨rfl, rfl⟩)
        | (at_builtin; rw [HX.out]; refine wpList_append_own _ rfl _ _ 30 rfl base 9 iu _ 1 16 Tryz.underlying30 IU.out ZU0.out ZU1.out ZU2.out rfl (by decide) _ _ _ rfl (hR.out.alloc _) ⟨_, 0, none⟩ 1 1 [.string x] rfl rfl (tx_new _ _ _ _ (by simp)) (tx_one _) (by unfold maxLen; omega) (by omega) (by have := hG.out.size; have := HBL.out; simp; omega) ?_; intro v9 w9 hown9 hgrow9 _; have G9 := Lib.hid ((hG.out.trans (World.grownBy_alloc _ _ _)).andThen hgrow9 (fun k hk => .inl (by have := (hR.out.lt k hk).1; have := HBL.out; omega))); have O9 := Lib.hid hown9; clear hown9 hgrow9))
      obtain ⟨va9, vc9, rfl⟩ := tx_shape O9.out
      have HL2 := Lib.hid (show (O ++ [x]).length = O.length + 1 by simp)
      have OA := Lib.hid (show w9.ownsRow base 9 1 (.slice va9 (O ++ [x]).length vc9) (O ++ [x]).length (txV (O ++ [x])) by rw [HL2.out, txV, List.map_append]; exact O9.out)
      go_wp2_with (go_at_call 96; (with_reducible refine (CB2.out _).mono ?_); rintro e w4 ⟨rfl, rfl⟩)
      go_roundw
      case rel => exact ⟨e2, O ++ [x], va9, vc9, hle2.2, rfl, by rw [HL2.out], by rw [HL2.out]; omega, HF, HN, OA, G9⟩
      case measure => simp [intOf]; omega
    · have HF := Lib.hid (show txL O = fldQ s.data.toList by rw [hF.out, fldA_done (by rw [HLN.out]; omega)])
      go_wp2
      go_ret
      exact ⟨hG.out, _, O, rfl, tx_row hR.out rfl (by omega), HF.out, fun b hb => by have := hR.out.lt b hb; have := HBL.out; omega⟩
theorem pFields (s : ByteArray) (w : World) (hs : s.size ≤ 5000) : Calls Tryz.prog 81 #[.string s] w (PTx (fldQ s.data.toList) w) :=
  (pFieldsF s w hs).mono fun _ _ ⟨g, v, O, he, hr, ht, _⟩ => ⟨g, v, O, he, hr, ht⟩

set_option maxRecDepth 100000 in
set_option maxHeartbeats 4000000 in
theorem pEnd0 (s : ByteArray) (k : Int) (w : World) (hs : s.size ≤ 5000) : Calls Tryz.prog 85 #[.string s, .int .i64 k] w fun e w' => e = .returned (.int .i64 (endAt s.data.toList k)) ∧ w = w' := by
  have hlen : s.data.toList.length = s.size := by simp
  by_cases hin : 0 ≤ k ∧ k < s.size
  case neg =>
    have HZ := Lib.hid (endAt_no (l := s.data.toList) (k := k) (fun ⟨h1, h2, _⟩ => hin ⟨h1, by omega⟩))
    generalize endAt s.data.toList k = z at HZ ⊢
    clear hlen
    by_cases h0 : k < 0
    all_goals
      go_enter Tryz.func85, Tryz.ntmps85
      go_wp2
      go_ret
      exact ⟨ret_int HZ.out.symm, rfl⟩
  obtain ⟨h0, h1⟩ := hin
  obtain ⟨q, rfl⟩ := Int.eq_ofNat_of_zero_le h0
  have hq : q < s.size := by omega
  have HQ := Lib.hid (list_at hq)
  by_cases h39 : s[q] = 39
  case neg =>
    have HZ := Lib.hid (endAt_no (l := s.data.toList) (k := q) (fun ⟨_, _, h3⟩ => h39 (by
      rw [Int.toNat_natCast, HQ.out] at h3; simpa using h3)))
    have e1 : (((s[q]).toNat : Int) != 39) = true := by
      simp only [bne_iff_ne, ne_eq]
      intro h
      exact h39 (UInt8.toNat_inj.1 (by show (s[q]).toNat = 39; omega))
    generalize endAt s.data.toList q = z at HZ ⊢
    clear hlen h39
    go_enter Tryz.func85, Tryz.ntmps85
    go_wp2
    go_ret
    exact ⟨ret_int HZ.out.symm, rfl⟩
  have HZ := Lib.hid (endAt_yes (l := s.data.toList) (k := q) (by rw [HQ.out, h39]))
  have hd1 : decide ((q : Int) < 0) = false := by simp
  have hd2 : decide (s.size ≤ q) = false := by simp; omega
  have hd3 : decide ((q : Int) ≥ s.size) = false := by simp; omega
  have e1 : (((s[q]).toNat : Int) != 39) = false := by rw [h39]; rfl
  generalize endAt s.data.toList q = z at HZ ⊢
  clear hlen h39
  go_enter Tryz.func85, Tryz.ntmps85
  go_wp2
  clear e1
  go_loop [5] (fun i => ∃ j : Nat, j ≤ s.size ∧ i = .int .i64 j ∧ Hid (z = endV s.data.toList j)) (fun i => s.size - (intOf i).toNat)
  case atStart => exact ⟨q + 1, by omega, by go_num, HZ⟩
  case round =>
    obtain ⟨j, hj, rfl, hE⟩ := hrel
    by_cases hlt : j < s.size
    · have HJ := Lib.hid (list_at hlt)
      by_cases hb : s[j] = 39
      · have e2 : (((s[j]).toNat : Int) != 39) = false := by rw [hb]; rfl
        by_cases hl : j + 1 = s.size
        · have HV := Lib.hid (show z = (j : Int) + 1 by
            rw [hE.out]; unfold endV
            rw [endF_end (by rw [HJ.out, hb]) (by rw [List.getElem?_eq_none (by simp; omega)]; simp)]; simp)
          have e3 : ((j : Int) + 1 == (s.size : Int)) = true := by simp; omega
          clear hb hl
          go_wp2
          go_ret
          exact ⟨ret_int HV.out.symm, rfl⟩
        · have hj1 : j + 1 < s.size := by omega
          have HJ1 := Lib.hid (list_at hj1)
          have e3 : ((j : Int) + 1 == (s.size : Int)) = false := by simp; omega
          by_cases hc : s[j + 1] = 39
          · have e4 : (((s[j + 1]).toNat : Int) != 39) = false := by rw [hc]; rfl
            have HV := Lib.hid (show z = endV s.data.toList (j + 2) by
              rw [hE.out]; unfold endV
              rw [endF_two (by rw [HJ.out, hb]) (by rw [HJ1.out, hc])])
            clear hb hc hl
            go_wp2
            go_round
            case rel => exact ⟨j + 2, by omega, by go_num, HV⟩
            case measure => simp [intOf]; omega
          · have e4 : (((s[j + 1]).toNat : Int) != 39) = true := by
              simp only [bne_iff_ne, ne_eq]
              intro h
              exact hc (UInt8.toNat_inj.1 (by show (s[j + 1]).toNat = 39; omega))
            have HV := Lib.hid (show z = (j : Int) + 1 by
              rw [hE.out]; unfold endV
              rw [endF_end (by rw [HJ.out, hb]) (by rw [HJ1.out]; simpa using hc)]; simp)
            clear hb hc hl
            go_wp2
            go_ret
            exact ⟨ret_int HV.out.symm, rfl⟩
      · have e2 : (((s[j]).toNat : Int) != 39) = true := by
          simp only [bne_iff_ne, ne_eq]
          intro h
          exact hb (UInt8.toNat_inj.1 (by show (s[j]).toNat = 39; omega))
        have HV := Lib.hid (show z = endV s.data.toList (j + 1) by
          rw [hE.out]; unfold endV
          rw [endF_no HJ.out hb])
        clear hb
        go_wp2
        go_round
        case rel => exact ⟨j + 1, by omega, by go_num, HV⟩
        case measure => simp [intOf]; omega
    · have HV := Lib.hid (show z = -1 by
        rw [hE.out]; unfold endV
        rw [List.drop_of_length_le (by simp; omega), endF])
      go_wp2
      go_ret
      exact ⟨ret_int HV.out.symm, rfl⟩
theorem pEnd (s : ByteArray) (k : Int) (w : World) (hs : s.size ≤ 5000) : Calls Tryz.prog 85 #[.string s, .int .i64 k] w fun e w' => e = .returned (.int .i64 (endAt s.data.toList k)) ∧ w.grownBy w' none :=
  (pEnd0 s k w hs).mono fun _ _ ⟨h, g⟩ => ⟨h, g ▸ World.grownBy.refl _ _⟩
end Go.Proofs.YtcmfmfkpmgoieaaGreatDoor

/- The document's own answer: the words of a text. What package quote's functions answer, as the laws are told of it. Walks of package quote: blanks, what stands behind them, the parts between blanks, where a quoted part ends. -/
import Derived.Test.YtdganemgldocoaaGreatDoorQtRow
import Derived.Laws.BytesArg
import Derived.Test.YtdganemgldocoaaGreatDoorByRow
import Derived.Test.YtdganemgldocoaaGreatDoorQtPlain
namespace Go.Proofs.YtdganemgldocoaaGreatDoor
open Go.RowKit

/-- what Split answers -/
def SplOut (l : List UInt8) (w : World) (e : Ending) (w' : World) : Prop :=
  (match splQ l with
    | some L => ∃ v O, e = .returned (.tuple #[v, .int .i64 0]) ∧ w'.ownsRow w.heap.size 9 1 v O.length (txV O) ∧ txL O = L
    | none => e = .returned (.tuple #[.slice none 0 0, .int .i64 5])) ∧ w.grownBy w' none
theorem run_take {l : List UInt8} {j : Nat} {b : UInt8} {q : Sq} (h : l[j]? = some b) (hq : runQ ⟨0, [], []⟩ (l.take j) = q) : runQ ⟨0, [], []⟩ (l.take (j + 1)) = stpQ q b := by
  rw [List.take_add_one, h, runQ_app, hq]; rfl
theorem spl_none {l : List UInt8} {w : World} {w' : World} (h : (runQ ⟨0, [], []⟩ l).st = 2) (g : w.grownBy w' none) : SplOut l w (.returned (.tuple #[.slice none 0 0, .int .i64 5])) w' := by
  unfold SplOut splQ endQ
  rw [if_pos h]; exact ⟨rfl, g⟩
theorem spl_some {l : List UInt8} {w : World} {w' : World} {v : Value} {O : List ByteArray} {q : Sq} (hq : runQ ⟨0, [], []⟩ l = q) (h2 : q.st ≠ 2) (hO : txL O = if q.st = 0 then q.out else q.out ++ [q.w]) (hR : w'.ownsRow w.heap.size 9 1 v O.length (txV O)) (g : w.grownBy w' none) :
    SplOut l w (.returned (.tuple #[v, .int .i64 0])) w' := by
  unfold SplOut splQ endQ
  rw [hq, if_neg h2]
  refine ⟨?_, g⟩
  by_cases h0 : q.st = 0
  · rw [if_pos h0] at hO ⊢; exact ⟨v, O, rfl, hR, hO⟩
  · rw [if_neg h0] at hO ⊢; exact ⟨v, O, rfl, hR, hO⟩
/-- what the loop over the bytes knows -/
structure SpI (l : List UInt8) (w0 : World) (base j st : Nat) (W : List UInt8) (O : List ByteArray) (vo vw : Value) (w : World) : Prop where
  q : runQ ⟨0, [], []⟩ (l.take j) = ⟨st, W, txL O⟩
  o : w.ownsRow base 9 1 vo O.length (txV O)
  b : w.ownsRow base 5 1 vw W.length (byV W)
  g : w0.grownBy w none
end Go.Proofs.YtdganemgldocoaaGreatDoor

namespace Go.Proofs.YtdganemgldocoaaGreatDoor
open Go.RowKit

/-- the variable of a quote that has no end holds its error -/
def QErr (A : Nat → Addr) (w : World) : Prop := w.cell? ⟨5, 0, none⟩ = some (.iface 202 (.pointer (some (A 5)))) ∧ MaxI w
theorem QErr.grown {A : Nat → Addr} {w w' : World} (h : QErr A w) (hg : w.grownBy w' none) : QErr A w' := ⟨((below_of_grown hg).cell (p := ⟨5, 0, none⟩) (cell_block h.1)).trans h.1, h.2.grown hg⟩
theorem TxRow.grown {w w' : World} {v : Value} {l : List ByteArray} (h : TxRow w v l) (hg : w.grownBy w' none) : TxRow w' v l := h.later (below_of_grown hg)
/-- a text -/
def PTxt (L : List UInt8) (w : World) (e : Ending) (w' : World) : Prop := w.grownBy w' none ∧ ∃ t : ByteArray, e = .returned (.string t) ∧ t.data.toList = L
/-- a row of texts -/
def PTx (L : List (List UInt8)) (w : World) (e : Ending) (w' : World) : Prop := w.grownBy w' none ∧ ∃ v O, e = .returned v ∧ TxRow w' v O ∧ txL O = L
/-- words, or none and the error -/
def PSpl (l : List UInt8) (A : Nat → Addr) (w : World) (e : Ending) (w' : World) : Prop :=
  w.grownBy w' none ∧ ∃ v O ev, e = .returned (.tuple #[v, ev]) ∧ TxRow w' v O ∧
    ((splQ l = some (txL O) ∧ ev = .nilIface) ∨ (splQ l = none ∧ O = [] ∧ ev = .iface 202 (.pointer (some (A 5)))))
theorem fld_len (l : List UInt8) : (fldQ l).length ≤ l.length + 1 := by
  have key : ∀ (l : List UInt8) (q : List UInt8 × List (List UInt8)), (l.foldl fldS q).2.length ≤ q.2.length + l.length := by
    intro l
    induction l with
    | nil => intro q; simp
    | cons b l ih =>
      intro q
      have := ih (fldS q b)
      have h1 : (fldS q b).2.length ≤ q.2.length + 1 := by
        unfold fldS; split
        · split <;> simp
        · simp
      simp only [List.foldl_cons, List.length_cons]
      omega
  have := key l ([], [])
  unfold fldQ flushQ
  split
  · simp at this; omega
  · simp at this ⊢; omega
theorem spl_len {l : List UInt8} {L : List (List UInt8)} (h : splQ l = some L) : L.length ≤ l.length + 1 := by
  have key : ∀ (l : List UInt8) (q : Sq), (runQ q l).out.length ≤ q.out.length + l.length := by
    intro l
    induction l with
    | nil => intro q; simp [runQ]
    | cons b l ih =>
      intro q
      have := ih (stpQ q b)
      have h1 : (stpQ q b).out.length ≤ q.out.length + 1 := by
        unfold stpQ stpO; repeat' split
        all_goals simp
      simp only [runQ, List.foldl_cons, List.length_cons] at this ⊢
      omega
  have := key l ⟨0, [], []⟩
  unfold splQ endQ at h
  split at h
  · cases h
  · split at h
    · cases h; simp at this; omega
    · cases h; simp at this ⊢; omega
theorem tx_len {O : List ByteArray} {L : List (List UInt8)} (h : txL O = L) : O.length = L.length := by rw [← h]; simp
end Go.Proofs.YtdganemgldocoaaGreatDoor

namespace Go.Proofs.YtdganemgldocoaaGreatDoor
open Go.RowKit

set_option maxHeartbeats 1000000 in
theorem pBlank0 (b : UInt8) (w : World) : Calls Tryz.prog 90 #[.int .u8 b.toNat] w fun e w' => e = .returned (.bool (blkQ b)) ∧ w = w' := by
  have HB := Lib.hid (blk_nat b)
  generalize blkQ b = z at HB ⊢
  obtain ⟨x, hx⟩ : ∃ x, x = b.toNat := ⟨_, rfl⟩
  rw [← hx] at HB ⊢
  clear hx
  obtain ⟨f1, h1⟩ : ∃ f, f = (x == 32) := ⟨_, rfl⟩
  obtain ⟨f2, h2⟩ : ∃ f, f = (x == 9) := ⟨_, rfl⟩
  obtain ⟨f3, h3⟩ : ∃ f, f = (x == 10) := ⟨_, rfl⟩
  have e1 : ((x : Int) == 32) = f1 := by rw [h1, Bool.eq_iff_iff]; simp; omega
  have e2 : ((x : Int) == 9) = f2 := by rw [h2, Bool.eq_iff_iff]; simp; omega
  have e3 : ((x : Int) == 10) = f3 := by rw [h3, Bool.eq_iff_iff]; simp; omega
  rw [← h1, ← h2, ← h3] at HB
  clear h1 h2 h3
  go_enter Tryz.func90, Tryz.ntmps90
  cases f1 <;> cases f2
  all_goals
    go_wp2
    go_ret
    exact ⟨ret_bool HB.out.symm, rfl⟩
theorem pBlank (b : UInt8) (w : World) : Calls Tryz.prog 90 #[.int .u8 b.toNat] w fun e w' => e = .returned (.bool (blkQ b)) ∧ w.grownBy w' none :=
  (pBlank0 b w).mono fun _ _ ⟨h, g⟩ => ⟨h, g ▸ World.grownBy.refl _ _⟩

theorem toList_cut {s : ByteArray} (j e : Nat) : (s.extract j e).data.toList = (s.data.toList.take e).drop j := by
  have e1 : (s.extract j e).data.toList = (s.data.toList.drop j).take (e - j) := by simp
  rw [e1, List.drop_take]
/-- fields, in a row that the call has made -/
def PTxF (L : List (List UInt8)) (w : World) (e : Ending) (w' : World) : Prop := w.grownBy w' none ∧ ∃ v O, e = .returned v ∧ TxRow w' v O ∧ txL O = L ∧ ∀ b, v.ownBlock = some b → w.heap.size ≤ b
set_option maxRecDepth 100000 in
set_option maxHeartbeats 4000000 in
theorem pEnd0 (s : ByteArray) (k : Int) (w : World) (hs : s.size ≤ 5000) : Calls Tryz.prog 80 #[.string s, .int .i64 k] w fun e w' => e = .returned (.int .i64 (endAt s.data.toList k)) ∧ w = w' := by
  have hlen : s.data.toList.length = s.size := by simp
  by_cases hin : 0 ≤ k ∧ k < s.size
  case neg =>
    have HZ := Lib.hid (endAt_no (l := s.data.toList) (k := k) (fun ⟨h1, h2, _⟩ => hin ⟨h1, by omega⟩))
    generalize endAt s.data.toList k = z at HZ ⊢
    clear hlen
    by_cases h0 : k < 0
    all_goals
      go_enter Tryz.func80, Tryz.ntmps80
      go_wp2
      go_ret
      exact ⟨ret_int HZ.out.symm, rfl⟩
  obtain ⟨h0, h1⟩ := hin
  obtain ⟨q, rfl⟩ := Int.eq_ofNat_of_zero_le h0
  have hq : q < s.size := by omega
  have HQ := Lib.hid (list_at hq)
  by_cases h39 : s[q] = 39
  case neg =>
    have HZ := Lib.hid (endAt_no (l := s.data.toList) (k := q) (fun ⟨_, _, h3⟩ => h39 (by
      rw [Int.toNat_natCast, HQ.out] at h3; simpa using h3)))
    have e1 : (((s[q]).toNat : Int) != 39) = true := by
      simp only [bne_iff_ne, ne_eq]
      intro h
      exact h39 (UInt8.toNat_inj.1 (by show (s[q]).toNat = 39; omega))
    generalize endAt s.data.toList q = z at HZ ⊢
    clear hlen h39
    go_enter Tryz.func80, Tryz.ntmps80
    go_wp2
    go_ret
    exact ⟨ret_int HZ.out.symm, rfl⟩
  have HZ := Lib.hid (endAt_yes (l := s.data.toList) (k := q) (by rw [HQ.out, h39]))
  have hd1 : decide ((q : Int) < 0) = false := by simp
  have hd2 : decide (s.size ≤ q) = false := by simp; omega
  have hd3 : decide ((q : Int) ≥ s.size) = false := by simp; omega
  have e1 : (((s[q]).toNat : Int) != 39) = false := by rw [h39]; rfl
  generalize endAt s.data.toList q = z at HZ ⊢
  clear hlen h39
  go_enter Tryz.func80, Tryz.ntmps80
  go_wp2
  clear e1
  go_loop [5] (fun i => ∃ j : Nat, j ≤ s.size ∧ i = .int .i64 j ∧ Hid (z = endV s.data.toList j)) (fun i => s.size - (intOf i).toNat)
  case atStart => exact ⟨q + 1, by omega, by go_num, HZ⟩
  case round =>
    obtain ⟨j, hj, rfl, hE⟩ := hrel
    by_cases hlt : j < s.size
    · have HJ := Lib.hid (list_at hlt)
      by_cases hb : s[j] = 39
      · have e2 : (((s[j]).toNat : Int) != 39) = false := by rw [hb]; rfl
        by_cases hl : j + 1 = s.size
        · have HV := Lib.hid (show z = (j : Int) + 1 by
            rw [hE.out]; unfold endV
            rw [endF_end (by rw [HJ.out, hb]) (by rw [List.getElem?_eq_none (by simp; omega)]; simp)]; simp)
          have e3 : ((j : Int) + 1 == (s.size : Int)) = true := by simp; omega
          clear hb hl
          go_wp2
          go_ret
          exact ⟨ret_int HV.out.symm, rfl⟩
        · have hj1 : j + 1 < s.size := by omega
          have HJ1 := Lib.hid (list_at hj1)
          have e3 : ((j : Int) + 1 == (s.size : Int)) = false := by simp; omega
          by_cases hc : s[j + 1] = 39
          · have e4 : (((s[j + 1]).toNat : Int) != 39) = false := by rw [hc]; rfl
            have HV := Lib.hid (show z = endV s.data.toList (j + 2) by
              rw [hE.out]; unfold endV
              rw [endF_two (by rw [HJ.out, hb]) (by rw [HJ1.out, hc])])
            clear hb hc hl
            go_wp2
            go_round
            case rel => exact ⟨j + 2, by omega, by go_num, HV⟩
            case measure => simp [intOf]; omega
          · have e4 : (((s[j + 1]).toNat : Int) != 39) = true := by
              simp only [bne_iff_ne, ne_eq]
              intro h
              exact hc (UInt8.toNat_inj.1 (by show (s[j + 1]).toNat = 39; omega))
            have HV := Lib.hid (show z = (j : Int) + 1 by
              rw [hE.out]; unfold endV
              rw [endF_end (by rw [HJ.out, hb]) (by rw [HJ1.out]; simpa using hc)]; simp)
            clear hb hc hl
            go_wp2
            go_ret
            exact ⟨ret_int HV.out.symm, rfl⟩
      · have e2 : (((s[j]).toNat : Int) != 39) = true := by
          simp only [bne_iff_ne, ne_eq]
          intro h
          exact hb (UInt8.toNat_inj.1 (by show (s[j]).toNat = 39; omega))
        have HV := Lib.hid (show z = endV s.data.toList (j + 1) by
          rw [hE.out]; unfold endV
          rw [endF_no HJ.out hb])
        clear hb
        go_wp2
        go_round
        case rel => exact ⟨j + 1, by omega, by go_num, HV⟩
        case measure => simp [intOf]; omega
    · have HV := Lib.hid (show z = -1 by
        rw [hE.out]; unfold endV
        rw [List.drop_of_length_le (by simp; omega), endF])
      go_wp2
      go_ret
      exact ⟨ret_int HV.out.symm, rfl⟩
theorem pEnd (s : ByteArray) (k : Int) (w : World) (hs : s.size ≤ 5000) : Calls Tryz.prog 80 #[.string s, .int .i64 k] w fun e w' => e = .returned (.int .i64 (endAt s.data.toList k)) ∧ w.grownBy w' none :=
  (pEnd0 s k w hs).mono fun _ _ ⟨h, g⟩ => ⟨h, g ▸ World.grownBy.refl _ _⟩
end Go.Proofs.YtdganemgldocoaaGreatDoor

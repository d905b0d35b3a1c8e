/- The document's own answers of layer 11 that are rows of texts: the parts between blanks. Rows of texts as the laws read them: two that are the same, long ones, a copy with marked room behind, and that it stands as it stood. A slice of texts that came in. -/
import Derived.Test.YtcmfmfkpmgoieaaGreatDoorQtRef
import Derived.Test.YtcmfmfkpmgoieaaGreatDoorGrown
import Derived.Laws.Pointers
import Derived.Deep.AppendLies
import Derived.OneCell
import Derived.OwnWalk
import Derived.WalkSmall
import Derived.Laws.AppendOwn
import Derived.ProofKit
import Derived.SliceStrings
import Derived.OpenShut
import Derived.ShutString
import Derived.ChangeOld
namespace Go.Proofs.YtcmfmfkpmgoieaaGreatDoor
open Go.RowKit

theorem infoTx : (Tryz.prog.info? 9).map (fun i => (i.zero, i.size, i.bytes)) = some (some (.string ⟨#[]⟩), 1, 16) := by kernel_rfl
theorem tx_one (t : ByteArray) : ∀ u ∈ ([.string t] : List Value), u.oneCell' = true := by intro u hu; simp at hu; subst hu; rfl
theorem tx_new (w : World) (t : ByteArray) (T : TypeId) (m : Nat) (hm : m = w.heap.size) : ∀ j x, ([.string t] : List Value)[j]? = some x → (w.alloc (.cells #[.string t] T)).cell? ((⟨m, 0, none⟩ : Addr).add j) = some x := by
  subst hm
  exact World.news_of_block (cs := #[.string t]) (t := T) (fr := (0, 0)) (heap_alloc_new w _)
theorem tx_zero (w : World) (T : TypeId) (base : Nat) (hb : base ≤ w.heap.size) : (w.alloc (.cells #[] T)).ownsRow base T 1 (.slice (some ⟨w.heap.size, 0, none⟩) 0 0) 0 (([] : List ByteArray).map Value.string) :=
  ⟨rfl, .inr ⟨w.heap.size, 0, _, rfl, hb, heap_alloc_new w _, Nat.le_refl _, by decide, rfl, rfl⟩⟩
theorem tx_nil (w : World) (base : Nat) (T : TypeId) : w.ownsRow base T 1 (.slice none 0 0) 0 (([] : List ByteArray).map Value.string) := ⟨rfl, .inl ⟨rfl, rfl⟩⟩
theorem tx_shape {w : World} {base s n : Nat} {e : TypeId} {v : Value} {xs : List Value} (h : w.ownsRow base e s v n xs) : ∃ a cap, v = .slice a n cap := by
  rcases h.2 with ⟨rfl, h0⟩ | ⟨g, cap, cur, rfl, -⟩
  · exact ⟨none, 0, by rw [h0]⟩
  · exact ⟨_, cap, rfl⟩
/-- rows of two types lie apart -/
theorem tx_apart {w : World} {b b' n n' sz sz' : Nat} {e e' : TypeId} {v v' : Value} {xs xs' : List Value} (h : w.ownsRow b e sz v n xs) (h2 : w.ownsRow b' e' sz' v' n' xs') (he : e ≠ e') : v.ownBlock = none ∨ v.ownBlock ≠ v'.ownBlock := by
  rcases h.2 with ⟨rfl, -⟩ | ⟨g, cap, cur, rfl, -, hg, -⟩
  · exact .inl rfl
  · rcases h2.2 with ⟨rfl, -⟩ | ⟨g', cap', cur', rfl, -, hg', -⟩
    · right; simp [Value.ownBlock]
    · right
      simp only [Value.ownBlock, ne_eq, Option.some.injEq]
      intro e
      subst e
      rw [hg] at hg'
      simp at hg'
      exact he hg'.2
abbrev txV (O : List ByteArray) : List Value := O.map Value.string
abbrev txL (O : List ByteArray) : List (List UInt8) := O.map fun t => t.data.toList
/-- a row of texts that a call makes -/
def TxOut (L : List (List UInt8)) (w : World) (e : Ending) (w' : World) : Prop := (∃ v O, e = .returned v ∧ w'.ownsRow w.heap.size 9 1 v O.length (txV O) ∧ txL O = L) ∧ w.grownBy w' none
def FldI (l : List UInt8) (j : Nat) (W : ByteArray) (O : List ByteArray) : Prop := if j ≤ l.length then (W.data.toList, txL O) = (l.take j).foldl fldS ([], []) else txL O = fldQ l
theorem fld_take {l : List UInt8} {j : Nat} {b : UInt8} (h : l[j]? = some b) : (l.take (j + 1)).foldl fldS ([], []) = fldS ((l.take j).foldl fldS ([], [])) b := by
  rw [List.take_add_one, h]; exact fld_snoc _ _
theorem FldI.blank {l : List UInt8} {j : Nat} {W : ByteArray} {O : List ByteArray} {b : UInt8} (h : FldI l j W O) (hb : l[j]? = some b) (hk : blkQ b = true) :
    FldI l (j + 1) ⟨#[]⟩ (if W.size = 0 then O else O ++ [W]) := by
  have hj := (List.getElem?_eq_some_iff.1 hb).1
  unfold FldI at h ⊢
  rw [if_pos (by omega)] at h ⊢
  rw [fld_take hb, ← h]
  unfold fldS
  rw [if_pos hk]
  by_cases hw : W.size = 0
  · have e : W.data.toList = [] := List.eq_nil_of_length_eq_zero (by simpa using hw)
    rw [if_pos hw, e]; rfl
  · have e : W.data.toList.isEmpty = false := by
      cases h2 : W.data.toList with
      | nil => exact (hw (by have := congrArg List.length h2; simpa using this)).elim
      | cons a r => rfl
    rw [if_neg hw, if_neg (by rw [e]; simp)]
    simp [txL]
theorem FldI.more {l : List UInt8} {j : Nat} {W : ByteArray} {O : List ByteArray} {b : UInt8} {t : ByteArray} (h : FldI l j W O) (hb : l[j]? = some b) (hk : blkQ b = false) (ht : t.data.toList = W.data.toList ++ [b]) : FldI l (j + 1) t O := by
  have hj := (List.getElem?_eq_some_iff.1 hb).1
  unfold FldI at h ⊢
  rw [if_pos (by omega)] at h ⊢
  rw [fld_take hb, ← h]
  unfold fldS
  rw [if_neg (by rw [hk]; simp), ht]
theorem FldI.last {l : List UInt8} {W : ByteArray} {O : List ByteArray} (h : FldI l l.length W O) : FldI l (l.length + 1) ⟨#[]⟩ (if W.size = 0 then O else O ++ [W]) := by
  unfold FldI at h ⊢
  rw [if_pos (Nat.le_refl _), List.take_length] at h
  rw [if_neg (by omega)]
  unfold fldQ flushQ
  rw [← h]
  by_cases hw : W.size = 0
  · have e : W.data.toList = [] := List.eq_nil_of_length_eq_zero (by simpa using hw)
    rw [if_pos hw, e]; rfl
  · have e : W.data.toList.isEmpty = false := by
      cases h2 : W.data.toList with
      | nil => exact (hw (by have := congrArg List.length h2; simpa using this)).elim
      | cons a r => rfl
    rw [if_neg hw]
    simp [txL, e]
set_option maxRecDepth 100000 in
set_option maxHeartbeats 4000000 in
theorem dFields (s : ByteArray) (w : World) (hs : s.size ≤ 5000) : Calls Tryz.prog 25 #[.string s] w (TxOut (fldQ s.data.toList) w) := by
  obtain ⟨iu, hiu, hu0, hu1, hu2⟩ := info_parts infoTx
  have IU := Lib.hid hiu; have ZU0 := Lib.hid hu0; have ZU1 := Lib.hid hu1; have ZU2 := Lib.hid hu2
  have O1 := Lib.hid (tx_zero w 9 w.heap.size (Nat.le_refl _))
  have G1 := Lib.hid (World.grownBy_alloc w (.cells #[] 9) none)
  have hlen : s.data.toList.length = s.size := by simp
  have HLN := Lib.hid hlen
  clear hiu hu0 hu1 hu2 hlen
  go_enter Tryz.func25, Tryz.ntmps25
  go_upto_region 2 with fail
  generalize w.alloc _ = w1 at O1 G1 ⊢
  obtain ⟨base, hbase⟩ : ∃ base, base = w.heap.size := ⟨_, rfl⟩
  rw [← hbase] at O1 ⊢
  have HBL := Lib.hid (show w.heap.size = base from hbase.symm)
  clear hbase
  go_wp2
  go_loopw [3, 4, 5] (fun o t i wr => ∃ (j : Nat) (W : ByteArray) (O : List ByteArray) (va : Option Addr) (vc : Nat), j ≤ s.size + 1 ∧ i = .int .i64 j ∧ t = .string W ∧ o = .slice va O.length vc ∧ W.size ≤ j ∧ O.length ≤ j ∧ Hid (FldI s.data.toList j W O) ∧ Hid (wr.ownsRow base 9 1 (.slice va O.length vc) O.length (txV O)) ∧ Hid (w.grownBy wr none)) (fun _ _ i _ => s.size + 1 - (intOf i).toNat)
  case atStart => exact ⟨0, ⟨#[]⟩, [], _, _, by omega, rfl, rfl, rfl, by decide, by decide, Lib.hid (by unfold FldI; simp [txL]), O1, G1⟩
  case round =>
    obtain ⟨j, W, O, va, vc, hj, rfl, rfl, rfl, hW, hO, hI, hR, hG⟩ := hrel
    by_cases hle : j ≤ s.size
    · by_cases hlt : j < s.size
      · have HJ := Lib.hid (list_at hlt)
        have CB := Lib.hid (fun w => dBlank s[j] w)
        cases hk : blkQ s[j]
        · rw [hk] at CB
          have HE := Lib.hid (toList_one hlt)
          have hez : (s.extract j (j + 1)).size = 1 := by simp; omega
          have HN := Lib.hid (hI.out.more (t := W ++ s.extract j (j + 1)) HJ.out hk (by rw [toList_app, HE.out]))
          have hsz : (W ++ s.extract j (j + 1)).size ≤ j + 1 := by simp only [ByteArray.size_append]; omega
          clear hk hI
          go_wp2_with (go_at_call 39; (with_reducible refine (CB.out _).mono ?_); rintro e w3 ⟨rfl, rfl⟩)
          go_roundw
          case rel => exact ⟨j + 1, _, O, va, vc, by omega, by go_num, rfl, rfl, hsz, by omega, HN, hR, hG⟩
          case measure => simp [intOf]; omega
        · rw [hk] at CB
          have HN := Lib.hid (hI.out.blank HJ.out hk)
          clear hk hI
          by_cases hw : W.size = 0
          · rw [if_pos hw] at HN
            have hw2 : ¬ 0 < W.size := by omega
            clear hw
            go_wp2_with (go_at_call 39; (with_reducible refine (CB.out _).mono ?_); rintro e w3 ⟨rfl, rfl⟩)
            go_roundw
            case rel => exact ⟨j + 1, _, O, va, vc, by omega, by go_num, rfl, rfl, Nat.zero_le _, by omega, HN, hR, hG⟩
            case measure => simp [intOf]; omega
          · rw [if_neg hw] at HN
            have hw2 : 0 < W.size := by omega
            clear hw
            go_wp2_with (first
              | (go_at_call 39; (with_reducible refine (CB.out _).mono ?_); rintro e w3 ⟨rfl, rfl⟩)
              | (at_builtin; refine wpList_append_own _ rfl _ _ 30 rfl base 9 iu _ 1 16 Tryz.underlying30 IU.out ZU0.out ZU1.out ZU2.out rfl (by decide) _ _ _ rfl (hR.out.alloc _) ⟨_, 0, none⟩ 1 1 [.string W] rfl rfl (tx_new _ _ _ _ (by simp)) (tx_one _) (by unfold maxLen; omega) (by omega) (by have := hG.out.size; have := HBL.out; simp; omega) ?_; intro v9 w9 hown9 hgrow9 _; have G9 := Lib.hid ((hG.out.trans (World.grownBy_alloc _ _ _)).andThen hgrow9 (fun k hk => .inl (by have := (hR.out.lt k hk).1; have := HBL.out; omega))); have O9 := Lib.hid hown9; clear hown9 hgrow9))
            obtain ⟨va9, vc9, rfl⟩ := tx_shape O9.out
            have HL2 := Lib.hid (show (O ++ [W]).length = O.length + 1 by simp)
            have OA := Lib.hid (show w9.ownsRow base 9 1 (.slice va9 (O ++ [W]).length vc9) (O ++ [W]).length (txV (O ++ [W])) by rw [HL2.out, txV, List.map_append]; exact O9.out)
            go_wp2
            go_roundw
            case rel => exact ⟨j + 1, _, O ++ [W], va9, vc9, by omega, by go_num, rfl, by rw [HL2.out], Nat.zero_le _, by rw [HL2.out]; omega, HN, OA, G9⟩
            case measure => simp [intOf]; omega
      · obtain rfl : j = s.size := by omega
        have HN := Lib.hid (show FldI s.data.toList (s.size + 1) ⟨#[]⟩ (if W.size = 0 then O else O ++ [W]) by
          have h := hI.out
          rw [← HLN.out] at h ⊢
          first | exact h.last | exact FldI.last h)
        clear hI
        by_cases hw : W.size = 0
        · rw [if_pos hw] at HN
          have hw2 : ¬ 0 < W.size := by omega
          clear hw
          go_wp2
          go_roundw
          case rel => exact ⟨s.size + 1, _, O, va, vc, by omega, by go_num, rfl, rfl, Nat.zero_le _, by omega, HN, hR, hG⟩
          case measure => simp [intOf]
        · rw [if_neg hw] at HN
          have hw2 : 0 < W.size := by omega
          clear hw
          go_wp2_with (at_builtin; refine wpList_append_own _ rfl _ _ 30 rfl base 9 iu _ 1 16 Tryz.underlying30 IU.out ZU0.out ZU1.out ZU2.out rfl (by decide) _ _ _ rfl (hR.out.alloc _) ⟨_, 0, none⟩ 1 1 [.string W] rfl rfl (tx_new _ _ _ _ (by simp)) (tx_one _) (by unfold maxLen; omega) (by omega) (by have := hG.out.size; have := HBL.out; simp; omega) ?_; intro v9 w9 hown9 hgrow9 _; have G9 := Lib.hid ((hG.out.trans (World.grownBy_alloc _ _ _)).andThen hgrow9 (fun k hk => .inl (by have := (hR.out.lt k hk).1; have := HBL.out; omega))); have O9 := Lib.hid hown9; clear hown9 hgrow9)
          obtain ⟨va9, vc9, rfl⟩ := tx_shape O9.out
          have HL2 := Lib.hid (show (O ++ [W]).length = O.length + 1 by simp)
          have OA := Lib.hid (show w9.ownsRow base 9 1 (.slice va9 (O ++ [W]).length vc9) (O ++ [W]).length (txV (O ++ [W])) by rw [HL2.out, txV, List.map_append]; exact O9.out)
          go_wp2
          go_roundw
          case rel => exact ⟨s.size + 1, _, O ++ [W], va9, vc9, by omega, by go_num, rfl, by rw [HL2.out], Nat.zero_le _, by rw [HL2.out]; omega, HN, OA, G9⟩
          case measure => simp [intOf]
    · obtain rfl : j = s.size + 1 := by omega
      have HF := Lib.hid (show txL O = fldQ s.data.toList by
        have h := hI.out
        unfold FldI at h
        rwa [if_neg (by rw [HLN.out]; omega)] at h)
      go_wp2
      go_ret
      exact ⟨⟨_, O, rfl, HBL.out ▸ hR.out, HF.out⟩, hG.out⟩
end Go.Proofs.YtcmfmfkpmgoieaaGreatDoor

namespace Go.Proofs.YtcmfmfkpmgoieaaGreatDoor
open Go.RowKit

/-- the texts of a slice, as they lie in memory -/
def TxRow (w : World) (v : Value) (l : List ByteArray) : Prop :=
  ∃ a c, v = .slice a l.length c ∧ (l.length ≤ 9223372036854775807 ∧ (a = none → c = 0)) ∧
    (l ≠ [] → ∃ b off, a = some ⟨b, off, none⟩ ∧ b < w.heap.size ∧ ∀ j x, l[j]? = some x → w.cell? ⟨b, off + j, none⟩ = some (.string x))
theorem TxRow.later {w w' : World} {v : Value} {l : List ByteArray} (h : TxRow w v l) (hb : Below w.heap.size w w') : TxRow w' v l := by
  obtain ⟨a, c, e, hn, hr⟩ := h
  refine ⟨a, c, e, hn, fun hne => ?_⟩
  obtain ⟨b, off, ea, hlt, hc⟩ := hr hne
  exact ⟨b, off, ea, Nat.lt_of_lt_of_le hlt hb.size, fun j x hx => (hb.cell (p := ⟨b, off + j, none⟩) hlt).trans (hc j x hx)⟩
theorem tx_get (l : List ByteArray) (k : Nat) (h : k < l.length) : ∃ x, l[k]? = some x := ⟨l[k], List.getElem?_eq_getElem h⟩
theorem txL_inj : ∀ {a b : List ByteArray}, txL a = txL b → a = b
  | [], [], _ => rfl
  | [], _ :: _, h => by simp at h
  | _ :: _, [], h => by simp at h
  | x :: a, y :: b, h => by
    simp only [List.map_cons, List.cons.injEq] at h
    rw [txL_inj h.2, show x = y from by cases x; cases y; congr 1; exact Array.toList_inj.1 h.1]
/-- a row that a call made, as a reader sees it -/
theorem tx_row {w : World} {base n : Nat} {v : Value} {O : List ByteArray} (h : w.ownsRow base 9 1 v n (txV O)) (hn : n = O.length) (hm : n ≤ 9223372036854775807) : TxRow w v O := by
  subst hn
  obtain ⟨a, cap, rfl⟩ := tx_shape h
  refine ⟨a, cap, rfl, ⟨hm, ?_⟩, ?_⟩
  · rintro rfl
    rcases h.2 with ⟨e, -⟩ | ⟨g, cap', cur, e, -⟩
    · injection e
    · cases e
  · intro hne
    rcases h.2 with ⟨e, h0⟩ | ⟨g, cap', cur, e, -⟩
    · exact (hne (List.eq_nil_of_length_eq_zero h0)).elim
    · cases e
      refine ⟨g, 0, rfl, (h.lt g rfl).2, fun j x hx => ?_⟩
      have := h.cells (g := g) rfl j (.string x) (by rw [List.getElem?_map, hx]; rfl)
      rwa [Addr.add_lit] at this

set_option maxHeartbeats 400000 in
theorem cSameT (v1 v2 : Value) (l : List ByteArray) (w : World) (h1 : TxRow w v1 l) (h2 : TxRow w v2 l) :
    Calls Tryz.prog 15 #[v1, v2] w fun e w' => e = .returned (.bool true) ∧ ∃ n, w' = w.drewN n := by
  obtain ⟨a1, c1, rfl, ⟨hn, -⟩, hr1⟩ := h1
  obtain ⟨a2, c2, rfl, -, hr2⟩ := h2
  have HR1 := Lib.hid hr1
  have HR2 := Lib.hid hr2
  clear hr1 hr2
  go_enter Tryz.func15, Tryz.ntmps15
  go_wp2
  go_loopw [5, 13] (fun _ i wr => ∃ k : Nat, k ≤ l.length ∧ i = .int .i64 k ∧ ∃ n, wr = w.drewN n) (fun _ i _ => l.length - (intOf i).toNat)
  case atStart => exact ⟨0, Nat.zero_le _, rfl, 0, rfl⟩
  case round =>
    obtain ⟨k, hk, rfl, n, rfl⟩ := hrel
    by_cases hlt : k < l.length
    · obtain ⟨x, hx⟩ := tx_get l k hlt
      obtain ⟨b1, off1, rfl, hb1, hc1⟩ := HR1.out (by intro e; rw [e] at hlt; simp at hlt)
      obtain ⟨b2, off2, rfl, hb2, hc2⟩ := HR2.out (by intro e; rw [e] at hlt; simp at hlt)
      have hcell1 := hc1 k x hx
      have hcell2 := hc2 k x hx
      clear hc1 hc2 hx
      go_wp2
      go_quiet (fail)
      go_wp2
      go_roundw
      case rel => exact ⟨k + 1, by omega, by go_num, _, rfl⟩
      case measure => simp [intOf]; omega
    · go_wp2
      go_ret
      exact ⟨rfl, _, rfl⟩


theorem txV_one (l : List ByteArray) : ∀ u ∈ txV l, u.oneCell' = true := by
  intro u hu; obtain ⟨x, _, rfl⟩ := List.mem_map.1 hu; rfl
theorem txV_at {l : List ByteArray} {j : Nat} {u : Value} (h : (txV l)[j]? = some u) : ∃ x, l[j]? = some x ∧ u = .string x := by
  rw [List.getElem?_map] at h
  cases hx : l[j]? with
  | none => rw [hx] at h; cases h
  | some x => rw [hx] at h; exact ⟨x, rfl, (Option.some.inj h).symm⟩

def longQ (m n : Nat) (l : List ByteArray) : Bool := decide (m < l.length) || l.any fun x => decide (n < x.size)
theorem longQ_hit {m n : Nat} {l : List ByteArray} {k : Nat} {x : ByteArray} (h : l[k]? = some x) (hx : n < x.size) : longQ m n l = true := by
  unfold longQ
  rw [List.any_eq_true.2 ⟨x, List.mem_of_getElem? h, decide_eq_true hx⟩, Bool.or_true]
theorem longQ_not {m n : Nat} {l : List ByteArray} (h : l.length ≤ m) {k : Nat} (hk : l.length ≤ k) (ha : ∀ x ∈ l.take k, x.size ≤ n) : longQ m n l = false := by
  rw [List.take_of_length_le hk] at ha
  unfold longQ
  rw [decide_eq_false (by omega), Bool.false_or, List.any_eq_false]
  intro x hx
  have := ha x hx
  simp; omega
theorem longQ_short {m n : Nat} {l : List ByteArray} (h : longQ m n l = false) : l.length ≤ m ∧ ∀ x ∈ l, x.size ≤ n := by
  unfold longQ at h
  simp only [Bool.or_eq_false_iff, decide_eq_false_iff_not, List.any_eq_false] at h
  refine ⟨by omega, fun x hx => ?_⟩
  have := h.2 x hx
  simp only [decide_eq_true_eq] at this
  omega
theorem longQ_snoc {n : Nat} {l : List ByteArray} {k : Nat} {x : ByteArray} (h : l[k]? = some x) (hx : x.size ≤ n) (ha : ∀ x ∈ l.take k, x.size ≤ n) : ∀ x ∈ l.take (k + 1), x.size ≤ n := by
  intro y hy
  rw [List.take_add_one, h] at hy
  rcases List.mem_append.1 hy with hy | hy
  · exact ha y hy
  · simp at hy; subst hy; exact hx

def markT : List Value := [.string ⟨#[1]⟩, .string ⟨#[2]⟩, .string ⟨#[3]⟩]

/-- a copy of l with the three markT behind it -/
def MarkT (w : World) (base : Nat) (v : Value) (l : List ByteArray) : Prop :=
  ∃ g, v = .slice (some ⟨g, 0, none⟩) l.length (l.length + 3) ∧
    w.ownsRow base 9 1 (.slice (some ⟨g, 0, none⟩) (l.length + 3) (l.length + 3)) (l.length + 3) (txV l ++ markT)

theorem markT_at (w : World) {j : Nat} {u : Value} (h : markT[j]? = some u) : (w.alloc (.cells #[.string ⟨#[1]⟩, .string ⟨#[2]⟩, .string ⟨#[3]⟩] 9)).cell? ((⟨w.heap.size, 0, none⟩ : Addr).add j) = some u := by
  match j, h with
  | 0, h => simp [markT] at h; subst h; simp [Addr.add]
  | 1, h => simp [markT] at h; subst h; simp [Addr.add]
  | 2, h => simp [markT] at h; subst h; simp [Addr.add]
  | j + 3, h => simp [markT] at h

theorem MarkT.cell {w : World} {base : Nat} {v : Value} {l : List ByteArray} (h : MarkT w base v l) :
    ∃ g, v = .slice (some ⟨g, 0, none⟩) l.length (l.length + 3) ∧ g < w.heap.size ∧ (∀ j x, l[j]? = some x → w.cell? ⟨g, j, none⟩ = some (.string x)) ∧
      w.cell? ⟨g, l.length, none⟩ = some (.string ⟨#[1]⟩) ∧ w.cell? ⟨g, l.length + 1, none⟩ = some (.string ⟨#[2]⟩) ∧ w.cell? ⟨g, l.length + 2, none⟩ = some (.string ⟨#[3]⟩) := by
  obtain ⟨g, rfl, hown⟩ := h
  have hat := hown.cells (g := g) rfl
  have hl : (txV l).length = l.length := by simp
  refine ⟨g, rfl, (hown.lt g rfl).2, fun j x hx => ?_, ?_, ?_, ?_⟩
  · have hj : j < l.length := (List.getElem?_eq_some_iff.1 hx).1
    have := hat j (.string x) (by rw [List.getElem?_append_left (by omega)]; rw [List.getElem?_map, hx]; rfl)
    rwa [Addr.add_lit, Nat.zero_add] at this
  · have := hat l.length (.string ⟨#[1]⟩) (by rw [List.getElem?_append_right (by omega), hl]; simp [markT])
    rwa [Addr.add_lit, Nat.zero_add] at this
  · have := hat (l.length + 1) (.string ⟨#[2]⟩) (by rw [List.getElem?_append_right (by omega), hl]; simp [markT])
    rwa [Addr.add_lit, Nat.zero_add] at this
  · have := hat (l.length + 2) (.string ⟨#[3]⟩) (by rw [List.getElem?_append_right (by omega), hl]; simp [markT])
    rwa [Addr.add_lit, Nat.zero_add] at this

theorem MarkT.row {w : World} {base : Nat} {v : Value} {l : List ByteArray} (h : MarkT w base v l) (h40 : l.length ≤ 100) : TxRow w v l := by
  obtain ⟨g, rfl, hg, hc, -⟩ := h.cell
  exact ⟨_, _, rfl, ⟨by omega, fun e => by cases e⟩, fun _ => ⟨g, 0, rfl, hg, fun j x hx => by rw [Nat.zero_add]; exact hc j x hx⟩⟩

theorem MarkT.later {w w' : World} {base : Nat} {v : Value} {l : List ByteArray} (h : MarkT w base v l) (hb : Below w.heap.size w w') : MarkT w' base v l := by
  obtain ⟨g, rfl, hown⟩ := h
  have hlt := (hown.lt g rfl).2
  exact ⟨g, rfl, hown.kept (row := none) (World.grownBy.mk hb.os hb.tape hb.output hb.size (fun k hk _ => hb.block k hk)) (.inr (by simp [Value.ownBlock]))⟩

set_option maxHeartbeats 400000 in
theorem cLongT (v : Value) (l : List ByteArray) (m n : Nat) (w : World) (h : TxRow w v l) :
    Calls Tryz.prog 26 #[v, .int .i64 m, .int .i64 n] w fun e w' => e = .returned (.bool (longQ m n l)) ∧ w = w' := by
  obtain ⟨a, c, rfl, ⟨hn, -⟩, hr⟩ := h
  by_cases hm : m < l.length
  · have hL := Lib.hid (show longQ m n l = true by unfold longQ; rw [decide_eq_true hm]; rfl)
    clear hr
    go_enter Tryz.func26, Tryz.ntmps26
    go_wp2
    go_ret
    exact ⟨ret_bool hL.out.symm, rfl⟩
  have HM : l.length ≤ m := by omega
  have hdm : decide (m < l.length) = false := decide_eq_false hm
  clear hm
  have HR := Lib.hid hr
  clear hr
  go_enter Tryz.func26, Tryz.ntmps26
  go_wp2
  go_loop [8, 15] (fun _ i => ∃ k : Nat, k ≤ l.length ∧ i = .int .i64 k ∧ Hid (∀ x ∈ l.take k, x.size ≤ n)) (fun _ i => l.length - (intOf i).toNat)
  case atStart => exact ⟨0, Nat.zero_le _, rfl, Lib.hid (by intro x hx; simp at hx)⟩
  case round =>
    obtain ⟨k, hk, rfl, ha⟩ := hrel
    by_cases hlt : k < l.length
    · obtain ⟨x, hx⟩ := tx_get l k hlt
      obtain ⟨b, off, rfl, hb, hc⟩ := HR.out (by intro e; rw [e] at hlt; simp at hlt)
      have hcell := hc k x hx
      have Hx := Lib.hid hx
      clear hc hx
      by_cases hbig : n < x.size
      · have hL := Lib.hid (longQ_hit (m := m) Hx.out hbig)
        go_wp2
        go_ret
        exact ⟨ret_bool hL.out.symm, rfl⟩
      · go_wp2
        go_round
        case rel => exact ⟨k + 1, by omega, by go_num, Lib.hid (longQ_snoc Hx.out (by omega) ha.out)⟩
        case measure => simp [intOf]; omega
    · have hL := Lib.hid (longQ_not HM (show l.length ≤ k by omega) ha.out)
      go_wp2
      go_ret
      exact ⟨ret_bool hL.out.symm, rfl⟩
end Go.Proofs.YtcmfmfkpmgoieaaGreatDoor

namespace Go.Proofs.YtcmfmfkpmgoieaaGreatDoor
open Go.RowKit Go.ChangeShapes Go.WideShapes Go.ChangeAt

/-- a slice of texts that came in, as the walk is told of it -/
theorem tx_open {H : Type} {enc : TypeId × Value → H} {W : World} {a : Option Addr} {len cap : Nat} {d : DataW H} {p : List MemPlace}
    (hj : DataW.Trod enc Tryz.prog W 0 (fun _ => true) true 30 (.slice a len cap) d p) : ∃ l, TxRow W (.slice a len cap) l := by
  obtain ⟨fuel, hf⟩ := hj
  rcases open_strings Tryz.underlying30 Tryz.underlying9 (by kernel_rfl) hf with ⟨hcs, _⟩ | ⟨x, l, c, ss, hcs, _, hl, hm, hz, hx, hcell, hws⟩
  · simp [Value.cells] at hcs
    obtain ⟨rfl, rfl, rfl⟩ := hcs
    exact ⟨[], none, 0, rfl, ⟨by decide, fun _ => rfl⟩, fun h => absurd rfl h⟩
  · simp [Value.cells] at hcs
    obtain ⟨rfl, rfl, rfl⟩ := hcs
    have hlen : (ss.take len).length = len := by rw [List.length_take]; simp at hz; omega
    unfold maxLen at hm
    refine ⟨ss.take len, some x, cap, by rw [hlen], ⟨by omega, fun e => by cases e⟩, fun hne => ?_⟩
    have h0 : 0 < ss.length := by
      cases ss with
      | nil => simp at hne
      | cons y r => simp
    obtain ⟨b, off, spot⟩ := x
    have hc0 := hcell 0 h0
    have hspot : spot = none := by simpa [Addr.add] using World.cell?_spot hc0
    subst hspot
    refine ⟨b, off, rfl, ?_, fun j y hy => ?_⟩
    · have h1 := hc0
      rw [Addr.add_lit, Nat.add_zero] at h1
      exact cell_block h1
    · have hj : j < len := by have := (List.getElem?_eq_some_iff.1 hy).1; omega
      have hjs : j < ss.length := by rw [List.length_take] at hlen; omega
      have h1 := hcell j hjs
      rw [Addr.add_lit] at h1
      rw [List.getElem?_take_of_lt hj] at hy
      rw [h1, List.getD_eq_getElem?_getD, hy]; rfl
end Go.Proofs.YtcmfmfkpmgoieaaGreatDoor

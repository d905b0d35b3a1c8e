/- Walks of package subst: the words that fit a pattern, and those that don't. -/
import Derived.Test.YtiegbfbidecblaaSbPro
namespace Go.Proofs.Ytiegbfbidecblaa
open Go.RowKit

set_option maxRecDepth 100000 in
set_option maxHeartbeats 4000000 in
theorem sThose (v : Value) (l : List ByteArray) (p : ByteArray) (k : Bool) (w : World) (h : TxRow w v l) (h100 : l.length ≤ 100) (hl : ∀ x ∈ l, x.size ≤ 200) (hp : p.size ≤ 200) :
    Calls Try.prog 13 #[v, .string p, .bool k] w fun e w' => w.grownBy w' none ∧ ∃ v, e = .returned v ∧ TxRow w' v (thoT p.data.toList k l) := by
  obtain ⟨iu, hiu, hu0, hu1, hu2⟩ := info_parts infoTx
  have IU := Lib.hid hiu; have ZU0 := Lib.hid hu0; have ZU1 := Lib.hid hu1; have ZU2 := Lib.hid hu2
  clear hiu hu0 hu1 hu2
  have HR := Lib.hid h
  have HS := Lib.hid hl
  obtain ⟨base, hbase⟩ : ∃ base, base = w.heap.size := ⟨_, rfl⟩
  have HBL := Lib.hid (show w.heap.size = base from hbase.symm)
  obtain ⟨a, c, rfl, -, -⟩ := h
  clear hl hbase
  go_enter Try.func13, Try.ntmps13
  go_wp2
  go_loopw [7, 9, 10, 11, 14] (fun o _ _ _ i wr => ∃ (j : Nat) (R : List ByteArray) (va : Option Addr) (vc : Nat), j ≤ l.length ∧ R.length ≤ j ∧ i = .int .i64 j ∧ o = .slice va R.length vc ∧ Hid (R = thoT p.data.toList k (l.take j)) ∧ Hid (wr.ownsRow base 9 1 (.slice va R.length vc) R.length (txV R)) ∧ Hid (w.grownBy wr none)) (fun _ _ _ _ i _ => l.length - (intOf i).toNat)
  case atStart => exact ⟨0, [], _, _, Nat.zero_le _, Nat.le_refl _, rfl, rfl, Lib.hid rfl, Lib.hid (tx_nil _ _ _), Lib.hid (World.grownBy.refl _ _)⟩
  case round =>
    obtain ⟨j, R, va, vc, hj, hm, rfl, rfl, hR, hO, hG⟩ := hrel
    by_cases hlt : j < l.length
    · obtain ⟨x, hx⟩ := tx_get l j hlt
      obtain ⟨a', c', e, -, hr⟩ := HR.out.later (below_of_grown hG.out)
      injection e with e1 e2 e3
      subst e1 e3
      obtain ⟨b1, off1, rfl, hb1, hc1⟩ := hr (by intro e; rw [e] at hlt; simp at hlt)
      have hcell := hc1 j x hx
      have hx60 := HS.out x (List.mem_of_getElem? hx)
      have CQ := Lib.hid (fun W => sFits x p W (by omega) (by omega))
      obtain ⟨f, hf⟩ : ∃ f, fitB p.data.toList x = f := ⟨_, rfl⟩
      rw [hf] at CQ
      by_cases hk : f = k
      · have hc : (f == k) = true := by rw [hk, beq_self_eq_true]
        have HN := Lib.hid (show R ++ [x] = thoT p.data.toList k (l.take (j + 1)) by rw [hR.out, tho_yes hx (hf.trans hk)])
        clear hr hc1 hx hk hf
        go_wp2_with (first
          | (go_at_call 16; (with_reducible refine (CQ.out _).mono ?_); rintro e w2 ⟨g2, t, rfl, -⟩; have G2 := Lib.hid (hG.out.trans g2); have O2 := Lib.hid (hO.out.kept g2 (by cases va with | none => exact .inl rfl | some g => exact .inr (by simp [Value.ownBlock]))); clear g2)
          | (at_builtin; refine wpList_append_own _ rfl _ _ 22 rfl base 9 iu _ 1 16 Try.underlying22 IU.out ZU0.out ZU1.out ZU2.out rfl (by decide) _ _ _ rfl (O2.out.alloc _) ⟨_, 0, none⟩ 1 1 [.string x] rfl rfl (tx_new _ _ _ _ (by simp)) (tx_one _) (by unfold maxLen; omega) (by omega) (by have := G2.out.size; have := HBL.out; simp; omega) ?_; intro v9 w9 hown9 hgrow9 _; have G9 := Lib.hid ((G2.out.trans (World.grownBy_alloc _ _ _)).andThen hgrow9 (fun k hk => .inl (by have := (O2.out.lt k hk).1; have := HBL.out; omega))); have O9 := Lib.hid hown9; clear hown9 hgrow9))
        obtain ⟨va9, vc9, rfl⟩ := tx_shape O9.out
        have OA := Lib.hid (show w9.ownsRow base 9 1 (.slice va9 (R ++ [x]).length vc9) (R ++ [x]).length (txV (R ++ [x])) by rw [List.length_append, txV, List.map_append]; exact O9.out)
        go_wp2
        go_roundw
        case rel => exact ⟨j + 1, R ++ [x], va9, vc9, by omega, by rw [List.length_append, List.length_singleton]; omega, by go_num, by rw [List.length_append]; rfl, HN, OA, G9⟩
        case measure => simp [intOf]; omega
      · have hc : (f == k) = false := by rw [beq_eq_false_iff_ne]; exact hk
        have HN := Lib.hid (show R = thoT p.data.toList k (l.take (j + 1)) by rw [hR.out, tho_no hx (hf.trans (by cases f <;> cases k <;> simp_all))])
        clear hr hc1 hx hk hf
        go_wp2_with (go_at_call 16; (with_reducible refine (CQ.out _).mono ?_); rintro e w2 ⟨g2, t, rfl, -⟩; have G2 := Lib.hid (hG.out.trans g2); have O2 := Lib.hid (hO.out.kept g2 (by cases va with | none => exact .inl rfl | some g => exact .inr (by simp [Value.ownBlock]))); clear g2)
        go_roundw
        case rel => exact ⟨j + 1, R, va, vc, by omega, by omega, by go_num, rfl, HN, O2, G2⟩
        case measure => simp [intOf]; omega
    · obtain rfl : j = l.length := by omega
      have HE := Lib.hid (show thoT p.data.toList k l = R by rw [hR.out, List.take_of_length_le (Nat.le_refl _)])
      go_wp2
      go_ret
      exact ⟨hG.out, _, rfl, by rw [HE.out]; exact tx_row hO.out rfl (by omega)⟩
set_option maxRecDepth 100000 in
theorem sChosen (v : Value) (l : List ByteArray) (p : ByteArray) (w : World) (h : TxRow w v l) (h100 : l.length ≤ 100) (hl : ∀ x ∈ l, x.size ≤ 200) (hp : p.size ≤ 200) :
    Calls Try.prog 7 #[v, .string p] w fun e w' => w.grownBy w' none ∧ ∃ v, e = .returned v ∧ TxRow w' v (thoT p.data.toList true l) := by
  have CT := Lib.hid (sThose v l p true w h h100 hl hp)
  generalize thoT p.data.toList true l = R at CT ⊢
  clear h hl
  go_enter Try.func7, Try.ntmps7
  go_wp2_with (go_at_call 13; (with_reducible refine CT.out.mono ?_); rintro e w1 ⟨g1, u, rfl, hu⟩; have G1 := Lib.hid g1; have HU := Lib.hid hu; clear g1 hu)
  go_ret
  exact ⟨G1.out, u, rfl, HU.out⟩
set_option maxRecDepth 100000 in
theorem sOthers (v : Value) (l : List ByteArray) (p : ByteArray) (w : World) (h : TxRow w v l) (h100 : l.length ≤ 100) (hl : ∀ x ∈ l, x.size ≤ 200) (hp : p.size ≤ 200) :
    Calls Try.prog 8 #[v, .string p] w fun e w' => w.grownBy w' none ∧ ∃ v, e = .returned v ∧ TxRow w' v (thoT p.data.toList false l) := by
  have CT := Lib.hid (sThose v l p false w h h100 hl hp)
  generalize thoT p.data.toList false l = R at CT ⊢
  clear h hl
  go_enter Try.func8, Try.ntmps8
  go_wp2_with (go_at_call 13; (with_reducible refine CT.out.mono ?_); rintro e w1 ⟨g1, u, rfl, hu⟩; have G1 := Lib.hid g1; have HU := Lib.hid hu; clear g1 hu)
  go_ret
  exact ⟨G1.out, u, rfl, HU.out⟩
end Go.Proofs.Ytiegbfbidecblaa

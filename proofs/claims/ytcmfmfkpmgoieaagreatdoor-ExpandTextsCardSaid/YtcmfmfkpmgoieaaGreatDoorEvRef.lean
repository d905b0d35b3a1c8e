/- The document's own answers of layer 14 that only read: a name, whether a variable may be, where it stands, its words, whether two are the same. -/
import Derived.Test.YtcmfmfkpmgoieaaGreatDoorEvRow
import Derived.WalkSmall
namespace Go.Proofs.YtcmfmfkpmgoieaaGreatDoor
open Go.RowKit

set_option maxRecDepth 100000 in
theorem dLetter (b : UInt8) (w : World) : Calls Tryz.prog 69 #[.int .u8 b.toNat] w fun e w' => e = .returned (.bool (ltrQ b)) ∧ w = w' := by
  have hb : b.toNat < 256 := b.toNat_lt
  unfold ltrQ
  by_cases h0 : b = 95
  · subst h0
    go_enter Tryz.func69, Tryz.ntmps69
    go_wp2
    go_ret
    exact ⟨rfl, rfl⟩
  · have e0 : (b == 95) = false := by simpa using h0
    have e1 : ((b.toNat : Int) == 95) = false := by
      rw [beq_eq_false_iff_ne]; intro h; exact h0 (UInt8.toNat_inj.1 (by show b.toNat = 95; omega))
    rw [e0]
    by_cases a1 : 48 ≤ b.toNat <;> by_cases a2 : b.toNat ≤ 57 <;> by_cases a3 : 65 ≤ b.toNat <;> by_cases a4 : b.toNat ≤ 90 <;> by_cases a5 : 97 ≤ b.toNat <;> by_cases a6 : b.toNat ≤ 122
    all_goals first
      | omega
      | (have f1 : decide ((b.toNat : Int) ≥ 48) = decide (48 ≤ b.toNat) := by apply decide_eq_decide.2; omega
         have f2 : decide ((b.toNat : Int) ≤ 57) = decide (b.toNat ≤ 57) := by apply decide_eq_decide.2; omega
         have f3 : decide ((b.toNat : Int) ≥ 65) = decide (65 ≤ b.toNat) := by apply decide_eq_decide.2; omega
         have f4 : decide ((b.toNat : Int) ≤ 90) = decide (b.toNat ≤ 90) := by apply decide_eq_decide.2; omega
         have f5 : decide ((b.toNat : Int) ≥ 97) = decide (97 ≤ b.toNat) := by apply decide_eq_decide.2; omega
         have f6 : decide ((b.toNat : Int) ≤ 122) = decide (b.toNat ≤ 122) := by apply decide_eq_decide.2; omega
         simp only [a1, a2, a3, a4, a5, a6, decide_true, decide_false] at f1 f2 f3 f4 f5 f6 ⊢
         go_enter Tryz.func69, Tryz.ntmps69
         go_wp2
         go_ret
         exact ⟨rfl, rfl⟩)
theorem nam_of {s : ByteArray} (h : (nmB s).all ltrQ = true) : namQ (nmB s) = (decide (0 < s.size) && decide (s.size < 13)) := by
  have hl : (nmB s).length = s.size := by simp
  unfold namQ
  rw [h, hl, Bool.and_true]
  congr 1
  · cases hc : nmB s with
    | nil => rw [hc] at hl; simp at hl; simp [← hl]
    | cons a r => rw [hc] at hl; simp at hl; simp; omega
  · exact decide_eq_decide.2 (by omega)
set_option maxRecDepth 100000 in
set_option maxHeartbeats 1000000 in
theorem dName13 (s : ByteArray) (w : World) (hs : s.size ≤ 5000) : Calls Tryz.prog 58 #[.string s] w fun e w' => e = .returned (.bool (namQ (nmB s))) ∧ w = w' := by
  obtain ⟨z, hz⟩ : ∃ z, namQ (nmB s) = z := ⟨_, rfl⟩
  rw [hz]
  have HZ := Lib.hid hz
  have CL := Lib.hid (fun b w => dLetter b w)
  clear hz
  go_enter Tryz.func58, Tryz.ntmps58
  go_wp2
  go_loop [3] (fun i => ∃ j : Nat, j ≤ s.size ∧ i = .int .i64 j ∧ Hid (((nmB s).take j).all ltrQ = true)) (fun i => s.size - (intOf i).toNat)
  case atStart => exact ⟨0, Nat.zero_le _, rfl, Lib.hid rfl⟩
  case round =>
    obtain ⟨j, hj, rfl, hI⟩ := hrel
    by_cases hlt : j < s.size
    · have HJ := Lib.hid (list_at hlt)
      have C1 := Lib.hid (fun w => CL.out s[j] w)
      cases hb : ltrQ s[j]
      · rw [hb] at C1
        have HN := Lib.hid (show false = z by
          rw [← HZ.out]
          unfold namQ
          have : (nmB s).all ltrQ = false := by
            rw [List.all_eq_false]
            exact ⟨s[j], List.mem_of_getElem? HJ.out, by simp [hb]⟩
          rw [this, Bool.and_false])
        clear hb
        go_wp2_with (go_at_call 69; (with_reducible refine (C1.out _).mono ?_); rintro e w3 ⟨rfl, rfl⟩)
        go_ret
        exact ⟨ret_bool HN.out, rfl⟩
      · rw [hb] at C1
        have HN := Lib.hid (show ((nmB s).take (j + 1)).all ltrQ = true by rw [List.take_add_one, HJ.out, List.all_append, hI.out]; simp [hb])
        clear hb
        go_wp2_with (go_at_call 69; (with_reducible refine (C1.out _).mono ?_); rintro e w3 ⟨rfl, rfl⟩)
        go_round
        case rel => exact ⟨j + 1, hlt, by go_num, HN⟩
        case measure => simp [intOf]; omega
    · have HA := Lib.hid (show z = (decide (0 < s.size) && decide (s.size < 13)) by
        rw [← HZ.out]
        refine nam_of ?_
        have := hI.out
        rwa [List.take_of_length_le (by simp; omega)] at this)
      by_cases h0 : 0 < s.size
      · by_cases h13 : s.size < 13
        · have HR := Lib.hid (show true = z by rw [HA.out]; simp [h0, h13])
          have d1 : decide ((s.size : Int) > 0) = true := by simp; omega
          have d2 : decide ((s.size : Int) < 13) = true := by simp; omega
          go_wp2
          go_ret
          exact ⟨ret_bool HR.out, rfl⟩
        · have HR := Lib.hid (show false = z by rw [HA.out]; simp [h0, h13])
          have d1 : decide ((s.size : Int) > 0) = true := by simp; omega
          have d2 : decide ((s.size : Int) < 13) = false := by simp; omega
          go_wp2
          go_ret
          exact ⟨ret_bool HR.out, rfl⟩
      · have HR := Lib.hid (show false = z by rw [HA.out]; simp [h0])
        have d1 : decide ((s.size : Int) > 0) = false := decide_eq_false (by omega)
        go_wp2
        go_ret
        exact ⟨ret_bool HR.out, rfl⟩
theorem four_vz {w : World} {b : Nat} {v0 v1 v2 v3 : Value} {t : TypeId} (h : w.heap[b]? = some (.cells #[v0, v1, v2, v3] t (0, 0))) :
    w.cell? ⟨b, 0, none⟩ = some v0 ∧ w.cell? ⟨b, 1, none⟩ = some v1 ∧ w.cell? ⟨b, 2, none⟩ = some v2 ∧ w.cell? ⟨b, 3, none⟩ = some v3 := by
  refine ⟨?_, ?_, ?_, ?_⟩ <;> (unfold World.cell?; rw [h]; rfl)
abbrev vzA (x : Vz) : Value := .agg #[.string x.n, x.u, .int .i64 x.lv, .bool x.hd]
set_option maxRecDepth 100000 in
set_option maxHeartbeats 2000000 in
theorem dCheckV (x : Vz) (w : World) (hn : x.n.size ≤ 100) (hw : TxRow w x.u x.ws) : Calls Tryz.prog 42 #[vzA x] w fun e w' => e = .returned (.int .i64 (chkV x.b)) ∧ w.grownBy w' none := by
  obtain ⟨n, ws, lv, hd, u⟩ := x
  obtain ⟨a, c, hu, ⟨hm, -⟩, hr⟩ := hw
  simp only at hu hm hr hn
  subst hu
  have HR := Lib.hid hr
  have HS := Lib.hid (show chkV (⟨n, ws, lv, hd, .slice a ws.length c⟩ : Vz).b = if namQ (nmB n) = false then 4 else if lv ≠ 0 ∧ lv ≠ 1 ∧ lv ≠ 2 then 1 else if 40 < ws.length then 10 else if ws.any (fun t => decide (120 < t.size)) then 2 else 0 from rfl)
  have G0 := Lib.hid (World.grownBy_alloc w (.cells #[.string n, .slice a ws.length c, .int .i64 lv, .bool hd] 78) none)
  have B0 := Lib.hid (heap_alloc_new w (.cells #[.string n, .slice a ws.length c, .int .i64 lv, .bool hd] 78))
  have CN := Lib.hid (fun w => dName13 n w (by omega))
  obtain ⟨k, hk⟩ : ∃ k, chkV (⟨n, ws, lv, hd, .slice a ws.length c⟩ : Vz).b = k := ⟨_, rfl⟩
  rw [hk] at HS ⊢
  clear hr hk
  unfold vzA
  go_enter Tryz.func42, Tryz.ntmps42
  go_upto_region 1 with fail
  generalize w.alloc _ = w1 at B0 G0 ⊢
  obtain ⟨d0, d1, d2, d3⟩ := four_vz B0.out
  cases hnm : namQ (nmB n)
  · rw [hnm] at CN HS
    have HK := Lib.hid (show k = 4 by rw [HS.out]; rfl)
    clear hnm
    go_wp2_with (go_at_call 58; (with_reducible refine (CN.out _).mono ?_); rintro e w3 ⟨rfl, rfl⟩)
    go_ret
    exact ⟨ret_int (by rw [HK.out]; rfl), G0.out⟩
  rw [hnm] at CN HS
  clear hnm
  by_cases hlv : lv ≠ 0 ∧ lv ≠ 1 ∧ lv ≠ 2
  · have HK := Lib.hid (show k = 1 by rw [HS.out, if_neg (by decide), if_pos hlv])
    have e0 : (lv != 0) = true := by simpa using hlv.1
    have e1 : (lv != 1) = true := by simpa using hlv.2.1
    have e2 : (lv != 2) = true := by simpa using hlv.2.2
    clear hlv
    go_wp2_with (go_at_call 58; (with_reducible refine (CN.out _).mono ?_); rintro e w3 ⟨rfl, rfl⟩)
    go_ret
    exact ⟨ret_int (by rw [HK.out]; rfl), G0.out⟩
  have HS2 := Lib.hid (show k = if 40 < ws.length then 10 else if ws.any (fun t => decide (120 < t.size)) then 2 else 0 by rw [HS.out, if_neg (by decide), if_neg hlv])
  have hl3 : lv = 0 ∨ lv = 1 ∨ lv = 2 := by
    rcases Classical.em (lv = 0) with h | h
    · exact .inl h
    · rcases Classical.em (lv = 1) with h1 | h1
      · exact .inr (.inl h1)
      · exact .inr (.inr (Classical.byContradiction fun h2 => hlv ⟨h, h1, h2⟩))
  clear HS hlv
  by_cases h40 : 40 < ws.length
  · have HK := Lib.hid (show k = 10 by rw [HS2.out, if_pos h40])
    have d4 : decide ((ws.length : Int) > 40) = true := by simp; omega
    rcases hl3 with rfl | rfl | rfl
    all_goals
      go_wp2_with (go_at_call 58; (with_reducible refine (CN.out _).mono ?_); rintro e w3 ⟨rfl, rfl⟩)
      go_ret
      exact ⟨ret_int (by rw [HK.out]; rfl), G0.out⟩
  have HS3 := Lib.hid (show k = if ws.any (fun t => decide (120 < t.size)) then 2 else 0 by rw [HS2.out, if_neg h40])
  have d4 : decide ((ws.length : Int) > 40) = false := by simp; omega
  clear HS2
  rcases hl3 with rfl | rfl | rfl
  all_goals
    go_wp2_with (go_at_call 58; (with_reducible refine (CN.out _).mono ?_); rintro e w3 ⟨rfl, rfl⟩)
    go_loop [29] (fun i => ∃ j : Nat, j ≤ ws.length ∧ i = .int .i64 j ∧ Hid ((ws.take j).any (fun t => decide (120 < t.size)) = false)) (fun i => ws.length - (intOf i).toNat)
    case atStart => exact ⟨0, Nat.zero_le _, rfl, Lib.hid rfl⟩
    case round =>
      obtain ⟨j, hj, rfl, hI⟩ := hrel
      by_cases hlt : j < ws.length
      · obtain ⟨t, ht⟩ := tx_get ws j hlt
        obtain ⟨b, off, rfl, hb, hc⟩ := HR.out (by intro e; rw [e] at hlt; simp at hlt)
        have hcell := G0.out.cell (hc j t ht) (by simp)
        have HT := Lib.hid (show ws.take (j + 1) = ws.take j ++ [t] by rw [List.take_add_one, ht]; rfl)
        by_cases h120 : 120 < t.size
        · have HK := Lib.hid (show k = 2 by
            rw [HS3.out, if_pos]
            rw [List.any_eq_true]
            exact ⟨t, List.mem_of_getElem? ht, by simpa using h120⟩)
          have d5 : decide ((t.size : Int) > 120) = true := by simp; omega
          clear ht hb hc
          go_wp2
          go_ret
          exact ⟨ret_int (by rw [HK.out]; rfl), G0.out⟩
        · have d5 : decide ((t.size : Int) > 120) = false := by simp; omega
          have HI := Lib.hid (show (ws.take (j + 1)).any (fun t => decide (120 < t.size)) = false by rw [HT.out, List.any_append, hI.out]; simp; omega)
          clear ht hb hc
          go_wp2
          go_round
          case rel => exact ⟨j + 1, hlt, by go_num, HI⟩
          case measure => simp [intOf]; omega
      · have HK := Lib.hid (show k = 0 by
          have := hI.out
          rw [List.take_of_length_le (by omega)] at this
          rw [HS3.out, this]; rfl)
        go_wp2
        go_ret
        exact ⟨ret_int (by rw [HK.out]; rfl), G0.out⟩
theorem strV_eq {a b : ByteArray} (h : a = b) : (a.toList == b.toList) = true := by rw [h]; simp
theorem str_ne {a b : ByteArray} (h : a ≠ b) : (a.toList == b.toList) = false := by
  rw [beq_eq_false_iff_ne]
  intro e
  rw [Lib.toList_data, Lib.toList_data] at e
  apply h
  cases a; cases b; congr 1; exact Array.toList_inj.1 e
theorem idx_some {l : List Vz} {s : ByteArray} {j : Nat} {x : Vz} (h : ∀ (m : Nat) (y : Vz), m < j → l[m]? = some y → y.n ≠ s) (hx : l[j]? = some x) (hn : x.n = s) : idxZ l s = some j := by
  have hj := (List.getElem?_eq_some_iff.1 hx).1
  unfold idxZ
  rw [List.findIdx?_eq_some_iff_getElem]
  refine ⟨hj, ?_, fun m hm => ?_⟩
  · have e : l[j] = x := (List.getElem?_eq_some_iff.1 hx).2
    simp [e, hn]
  · have := h m l[m] hm (List.getElem?_eq_getElem (by omega))
    simpa using this
theorem idx_none {l : List Vz} {s : ByteArray} (h : ∀ (m : Nat) (y : Vz), l[m]? = some y → y.n ≠ s) : idxZ l s = none := by
  unfold idxZ
  rw [List.findIdx?_eq_none_iff]
  intro x hx
  obtain ⟨m, hm⟩ := List.mem_iff_getElem?.1 hx
  simpa using h m x hm
theorem idx_is {l : List Vz} {s : ByteArray} {k : Nat} (h : idxZ l s = some k) : ∃ x, l[k]? = some x ∧ x.n = s := by
  unfold idxZ at h
  rw [List.findIdx?_eq_some_iff_getElem] at h
  obtain ⟨hk, h1, -⟩ := h
  exact ⟨l[k], List.getElem?_eq_getElem hk, by simpa using h1⟩
set_option maxRecDepth 100000 in
set_option maxHeartbeats 1000000 in
theorem dAtV (q : Nat) (v : Value) (l : List Vz) (s : ByteArray) (G : Nat → Prop) (w : World) (hq : w.cell? ⟨q, 0, none⟩ = some v) (hR : VRow w G v l) :
    Calls Tryz.prog 43 #[.pointer (some ⟨q, 0, none⟩), .string s] w fun e w' => e = .returned (.int .i64 (atZ l s)) ∧ w.grownBy w' none := by
  obtain ⟨va, vc, rfl, hm⟩ := hR.shape
  have HR := Lib.hid hR
  obtain ⟨z, hz⟩ : ∃ z, atZ l s = z := ⟨_, rfl⟩
  rw [hz]
  have HZ := Lib.hid hz
  clear hR hz
  go_enter Tryz.func43, Tryz.ntmps43
  go_wp2
  clear hq
  go_loopw [12] (fun i wr => ∃ j : Nat, j ≤ l.length ∧ i = .int .i64 j ∧ Hid (∀ m y, m < j → l[m]? = some y → y.n ≠ s) ∧ Hid (w.grownBy wr none)) (fun i _ => l.length - (intOf i).toNat)
  case atStart => exact ⟨0, Nat.zero_le _, rfl, Lib.hid (fun m y hm => by omega), Lib.hid (World.grownBy.refl _ _)⟩
  case round =>
    obtain ⟨j, hj, rfl, hI, hG⟩ := hrel
    by_cases hlt : j < l.length
    · obtain ⟨b, off, c, x, ev, hx, hGb, ht, c0, c1, c2, c3⟩ := (HR.out.keep (KeepG.grown hG.out)).at j hlt
      injection ev with ev1 ev2 ev3
      subst ev1 ev3
      obtain ⟨n, ws, lv, hd, u⟩ := x
      obtain ⟨a', c', hu, -⟩ := ht.shape
      simp only at hu c0 c1 c2 c3
      subst hu
      have G4 := Lib.hid (hG.out.trans (World.grownBy_alloc wr (.cells #[.string n, .slice a' ws.length c', .int .i64 lv, .bool hd] 78) none))
      have HX := Lib.hid hx
      clear hx hGb ht
      by_cases hn : n = s
      · have e1 := strV_eq hn
        have HV := Lib.hid (show z = (j : Int) by rw [← HZ.out]; unfold atZ; rw [idx_some hI.out HX.out hn])
        clear hn
        go_wp2
        go_ret
        exact ⟨ret_int HV.out.symm, G4.out⟩
      · have e1 := str_ne hn
        have HN := Lib.hid (show ∀ m y, m < j + 1 → l[m]? = some y → y.n ≠ s from fun m y hm hy => by
          rcases Nat.lt_succ_iff_lt_or_eq.1 hm with h1 | rfl
          · exact hI.out m y h1 hy
          · rw [HX.out] at hy; cases hy; exact hn)
        clear hn
        go_wp2
        go_roundw
        case rel => exact ⟨j + 1, hlt, by go_num, HN, G4⟩
        case measure => simp [intOf]; omega
    · have HV := Lib.hid (show z = -1 by
        rw [← HZ.out]; unfold atZ
        rw [idx_none fun m y hy => hI.out m y (by have := (List.getElem?_eq_some_iff.1 hy).1; omega) hy])
      go_wp2
      go_ret
      exact ⟨ret_int HV.out.symm, hG.out⟩
/-- the words of a name -/
def getU (l : List Vz) (s : ByteArray) : Value := match idxZ l s with | none => .slice none 0 0 | some k => ((l[k]?).map Vz.u).getD undef
set_option maxRecDepth 100000 in
set_option maxHeartbeats 1000000 in
theorem dGetV (q : Nat) (v : Value) (l : List Vz) (s : ByteArray) (G : Nat → Prop) (w : World) (hq : w.cell? ⟨q, 0, none⟩ = some v) (hR : VRow w G v l) :
    Calls Tryz.prog 52 #[.pointer (some ⟨q, 0, none⟩), .string s] w fun e w' => e = .returned (getU l s) ∧ w.grownBy w' none := by
  have CA := Lib.hid (dAtV q v l s G w hq hR)
  obtain ⟨va, vc, rfl, hm⟩ := hR.shape
  have HR := Lib.hid hR; have HQ := Lib.hid hq
  clear hR hq
  cases hi : idxZ l s with
  | none =>
    have ha : atZ l s = -1 := by unfold atZ; rw [hi]
    have HU := Lib.hid (show getU l s = .slice none 0 0 by unfold getU; rw [hi])
    rw [ha] at CA
    clear hi ha
    rw [HU.out]
    go_enter Tryz.func52, Tryz.ntmps52
    go_wp2_with (go_at_call 43; (with_reducible refine CA.out.mono ?_); rintro e w1 ⟨rfl, g1⟩; have G1 := Lib.hid g1; clear g1)
    go_ret
    exact ⟨rfl, G1.out⟩
  | some k =>
    have ha : atZ l s = (k : Int) := by unfold atZ; rw [hi]
    obtain ⟨x, hx, hxn⟩ := idx_is hi
    have HU := Lib.hid (show getU l s = x.u by unfold getU; rw [hi]; simp [hx])
    have hk := (List.getElem?_eq_some_iff.1 hx).1
    rw [ha] at CA
    obtain ⟨a', c', hu⟩ : ∃ a c, x.u = .slice a x.ws.length c := by
      obtain ⟨b, off, c, y, ev, hy, hGb, ht, -⟩ := HR.out.at k hk
      obtain rfl : x = y := Option.some.inj (hx.symm.trans hy)
      obtain ⟨a', c', hu, -⟩ := ht.shape
      exact ⟨a', c', hu⟩
    rw [HU.out, hu]
    have HX := Lib.hid hx
    clear hi ha hx hxn
    go_enter Tryz.func52, Tryz.ntmps52
    go_upto_region 2 with (go_at_call 43; (with_reducible refine CA.out.mono ?_); rintro e w1 ⟨rfl, g1⟩; have G1 := Lib.hid g1; clear g1)
    obtain ⟨b, off, c, y, ev, hy, hGb, ht, c0, c1, c2, c3⟩ := (HR.out.keep (KeepG.grown G1.out)).at k hk
    obtain rfl : x = y := Option.some.inj (HX.out.symm.trans hy)
    injection ev with ev1 ev2 ev3
    subst ev1 ev3
    rw [hu] at c1
    have hq1 := G1.out.cell HQ.out (by simp)
    clear hy hGb ht
    go_wp2
    go_ret
    exact ⟨rfl, G1.out⟩
end Go.Proofs.YtcmfmfkpmgoieaaGreatDoor

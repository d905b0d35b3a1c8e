/- The document's own answer: the lines of a text. -/
import Derived.Test.YtdganemgldocoaaGreatDoorLnRef
import Derived.Test.YtdganemgldocoaaGreatDoorQtRow
namespace Go.Proofs.YtdganemgldocoaaGreatDoor
open Go.RowKit

theorem infoLnD : (Tryz.prog.info? 37).map (fun i => (i.zero, i.size, i.bytes)) = some (some (.agg #[.string ⟨#[]⟩, .int .i64 0, .bool false]), 3, 32) := by kernel_rfl
/-- what Split of the document answers -/
def LnsOut (l : List UInt8) (w : World) (e : Ending) (w' : World) : Prop :=
  (match spL l with
    | .ok L => ∃ v O, e = .returned (.tuple #[v, .int .i64 0, .int .i64 0]) ∧ w'.ownsRow w.heap.size 37 3 v O.length (lnV O) ∧ lnQ O = L ∧ O.length ≤ l.length
    | .error (bad, line) => e = .returned (.tuple #[.slice none 0 0, .int .i64 bad, .int .i64 line])) ∧ w.grownBy w' none
/-- what the loop over a line's bytes knows: what is held, and whether it goes on; Z: what comes of the line -/
def RdI (m : Bool) (s : List UInt8) (Z : Option (List UInt8 × Bool)) (i : Nat) (h : List UInt8) (g : Bool) : Prop :=
  if i < s.length then g = false ∧ rdA m s h i = Z else Z = some (h, g)
theorem RdI.start {m : Bool} {s h : List UInt8} : RdI m s (rdQ m false h s) 0 h false := by
  unfold RdI
  split
  · exact ⟨rfl, rfl⟩
  · rename_i hn
    have : s = [] := List.eq_nil_of_length_eq_zero (by omega)
    subst this; rfl
theorem RdI.next {m : Bool} {s h : List UInt8} {Z : Option (List UInt8 × Bool)} {i : Nat} (e : rdA m s h i = Z) : RdI m s Z i h false := by
  unfold RdI
  split
  · exact ⟨rfl, e⟩
  · rw [rdA_end (by omega)] at e; exact e.symm
theorem RdI.done {m : Bool} {s h : List UInt8} {Z : Option (List UInt8 × Bool)} {i : Nat} {g : Bool} (e : Z = some (h, g)) (hi : s.length ≤ i) : RdI m s Z i h g := by
  unfold RdI
  rw [if_neg (by omega)]; exact e
theorem spA_rec {o : Nat} {h s : List UInt8} {O : List Lq} {k : Nat} {r : List (List UInt8)} (ho : o = 0) (hs : recQ s = true) : spA o h O k (s :: r) = if 400 < s.length - 1 then .error (2, k + 1) else spA 0 [] (O ++ [⟨s.tail, k + 1, true⟩]) (k + 1) r := by
  rw [spA, if_pos ⟨ho, hs⟩]
theorem spA_log {o : Nat} {h s : List UInt8} {O : List Lq} {k : Nat} {r : List (List UInt8)} (hn : ¬(o = 0 ∧ recQ s = true)) :
    spA o h O k (s :: r) = match rdQ (!r.isEmpty) false (if o = 0 then [] else h) s with
      | none => .error (5, k + 1)
      | some (h2, true) => spA (if o = 0 then k + 1 else o) h2 O (k + 1) r
      | some (h2, false) => if 400 < (trQ h2).length then .error (2, if o = 0 then k + 1 else o) else spA 0 [] (O ++ [⟨trQ h2, if o = 0 then k + 1 else o, false⟩]) (k + 1) r := by
  rw [spA, if_neg hn]
  rcases rdQ (!r.isEmpty) false (if o = 0 then [] else h) s with _ | ⟨h2, _ | _⟩ <;> rfl
/-- what is held while no line goes on is of no matter -/
theorem spA_held (h h2 : List UInt8) (O : List Lq) (k : Nat) (r : List (List UInt8)) : spA 0 h O k r = spA 0 h2 O k r := by
  cases r with
  | nil => rfl
  | cons s r =>
    by_cases hn : recQ s = true
    · rw [spA_rec rfl hn, spA_rec rfl hn]
    · rw [spA_log (fun x => hn x.2), spA_log (fun x => hn x.2)]; rfl
theorem tx_ext' {s t : ByteArray} (h : s.data.toList = t.data.toList) : s = t := by cases s; cases t; congr 1; exact Array.toList_inj.1 h
set_option maxRecDepth 100000 in
set_option maxHeartbeats 8000000 in
theorem dLSplit (s : ByteArray) (w : World) (hs : s.size ≤ 5000) : Calls Tryz.prog 15 #[.string s] w (LnsOut s.data.toList w) := by
  have hlen : s.data.toList.length = s.size := by simp
  by_cases hbig : 4000 < s.size
  · have HZ := Lib.hid (show spL s.data.toList = .error (2, 0) by unfold spL; rw [if_pos (by omega)])
    go_enter Tryz.func15, Tryz.ntmps15
    go_wp2
    go_ret3
    unfold LnsOut
    rw [HZ.out]
    exact ⟨rfl, World.grownBy.refl _ _⟩
  have HZ := Lib.hid (show spL s.data.toList = spA 0 [] [] 0 (linQ s.data.toList) by unfold spL; rw [if_neg (by omega)])
  have HLL := Lib.hid (show (linQ s.data.toList).length ≤ 4000 by have := linQ_len s.data.toList; omega)
  have HLM := Lib.hid (show ∀ x ∈ linQ s.data.toList, x.length ≤ 4000 from fun x hx => by have := linQ_mem hx; omega)
  have HLN := Lib.hid hlen
  obtain ⟨iu, hiu, hu0, hu1, hu2⟩ := info_parts infoLnD
  have IU := Lib.hid hiu; have ZU0 := Lib.hid hu0; have ZU1 := Lib.hid hu1; have ZU2 := Lib.hid hu2
  have CL := Lib.hid (dLines s w hs)
  clear hiu hu0 hu1 hu2 hlen
  go_enter Tryz.func15, Tryz.ntmps15
  go_wp2_with fail
  refine CL.out.mono ?_
  rintro e w1 ⟨⟨v, P, rfl, hP, hPL⟩, g1⟩
  obtain ⟨va, vc, rfl⟩ := tx_shape hP
  have hPl : P.length ≤ 4000 := by have := HLL.out; rw [← hPL] at this; simpa using this
  have HP := Lib.hid hP
  have HPL := Lib.hid hPL
  have G1 := Lib.hid g1
  clear hP hPL g1 CL
  go_upto_region 5 with fail
  have O2 := Lib.hid (ln_zero w1 37 w.heap.size G1.out.size)
  have G2 := Lib.hid (G1.out.trans (World.grownBy_alloc w1 (.cells #[] 37) none))
  have P2 := Lib.hid (HP.out.alloc (.cells #[] 37))
  generalize w1.alloc _ = w2 at O2 G2 P2 ⊢
  obtain ⟨ob, hob⟩ : ∃ ob : Option Addr, (some ⟨w1.heap.size, 0, none⟩ : Option Addr) = ob := ⟨_, rfl⟩
  rw [hob] at O2 ⊢
  obtain ⟨base, hbase⟩ : ∃ base, base = w.heap.size := ⟨_, rfl⟩
  rw [← hbase] at O2 P2
  have HBL := Lib.hid (show w.heap.size = base from hbase.symm)
  clear hbase hob HP
  obtain ⟨LL, hLL⟩ : ∃ LL, linQ s.data.toList = LL := ⟨_, rfl⟩
  rw [hLL] at HZ
  have HLLQ := Lib.hid hLL
  have HLL2 := Lib.hid (show P.map (fun t => t.data.toList) = LL by rw [← hLL]; exact HPL.out)
  clear hLL
  go_wp2
  -- THE LOOP
  go_loopw [6, 7, 8, 9, 10, 23] (fun out op he _ _ i wr => ∃ (k o : Nat) (H : ByteArray) (O : List Lb) (va2 : Option Addr) (vc2 : Nat), k ≤ P.length ∧ i = .int .i64 k ∧ op = .int .i64 o ∧ o ≤ k ∧ he = .string H ∧ H.size ≤ 5000 * k ∧ out = .slice va2 O.length vc2 ∧ O.length ≤ k ∧ Hid (spL s.data.toList = spA o H.data.toList (lnQ O) k (LL.drop k)) ∧ Hid (wr.ownsRow base 37 3 (.slice va2 O.length vc2) O.length (lnV O)) ∧ Hid (wr.ownsRow base 9 1 (.slice va P.length vc) P.length (txV P)) ∧ Hid (w.grownBy wr none)) (fun _ _ _ _ _ i _ => P.length - (intOf i).toNat)
  case atStart => exact ⟨0, 0, ⟨#[]⟩, [], ob, 0, Nat.zero_le _, rfl, rfl, Nat.le_refl _, rfl, Nat.zero_le _, rfl, Nat.le_refl _, HZ, O2, P2, G2⟩
  case round =>
    obtain ⟨k, o, H, O, va2, vc2, hk, rfl, rfl, ho, rfl, hH, rfl, hO, hF, hR, hPo, hG⟩ := hrel
    have hPb : P.length ≤ 4000 := hPl
    by_cases hlt : k < P.length
    · obtain ⟨x, hx⟩ := tx_get P k hlt
      obtain ⟨a', c', ea, -, hrow⟩ := tx_row hPo.out rfl (by omega)
      injection ea with ea1 ea2 ea3
      subst ea1 ea3
      obtain ⟨b1, off1, rfl, hb1, hc1⟩ := hrow (by intro e; rw [e] at hlt; simp at hlt)
      have hcell := hc1 k x hx
      have hLx : LL[k]? = some x.data.toList := by rw [← HLL2.out, List.getElem?_map, hx]; rfl
      have hx4 : x.size ≤ 4000 := by
        have := HLM.out x.data.toList (List.mem_of_getElem? (by rw [HLLQ.out]; exact hLx))
        simpa using this
      have HXL := Lib.hid (show x.data.toList.length = x.size by simp)
      have hF2 := hF.out
      rw [show LL.drop k = x.data.toList :: LL.drop (k + 1) from by
        obtain ⟨hk1, e⟩ := List.getElem?_eq_some_iff.1 hLx
        rw [← e]; exact List.drop_eq_getElem_cons hk1] at hF2
      clear hrow hc1 hx hF
      by_cases hrec : o = 0 ∧ recQ x.data.toList = true
      · -- a recipe line
        obtain ⟨rfl, hrq⟩ := hrec
        rw [spA_rec rfl hrq] at hF2
        have h0 : 0 < x.size := by
          rcases Nat.eq_zero_or_pos x.size with h | h
          · rw [List.eq_nil_of_length_eq_zero (show x.data.toList.length = 0 by rw [HXL.out]; exact h)] at hrq; simp [recQ] at hrq
          · exact h
        have hbt : btQ x[0] = true := by rw [list_cons h0] at hrq; exact hrq
        obtain ⟨f, g, d1, d2, d3⟩ := bt_two x[0]
        rw [hbt] at d3
        obtain ⟨y, hy⟩ : ∃ y, x.extract 1 x.size = y := ⟨_, rfl⟩
        have HY := Lib.hid hy
        have HYT := Lib.hid (show y.data.toList = x.data.toList.tail by rw [← hy, toList_rest, List.drop_one])
        by_cases hlong : 400 < x.size - 1
        · have HV := Lib.hid (show spL s.data.toList = .error (2, k + 1) by rw [hF2, if_pos (by rw [HXL.out]; exact hlong)])
          have hl2 : decide ((x.size : Int) - 1 > 400) = true := by simp; omega
          clear hbt hrq hF2 hy
          cases f <;> cases g
          all_goals first | (exact absurd d3 (by decide)) | skip
          all_goals
            clear d3
            go_wp2
            go_ret3
            unfold LnsOut
            rw [HV.out]
            exact ⟨by simp, hG.out⟩
        · have HV := Lib.hid (show spL s.data.toList = spA 0 H.data.toList (lnQ (O ++ [⟨y, k + 1, true⟩])) (k + 1) (LL.drop (k + 1)) by
            rw [hF2, if_neg (by rw [HXL.out]; exact hlong), spA_held H.data.toList []]
            simp only [lnQ, List.map_append, List.map_cons, List.map_nil, Lb.q, HYT.out])
          have hl2 : decide ((x.size : Int) - 1 > 400) = false := by simp; omega
          have hcast : ((k + 1 : Nat) : Int) = (k : Int) + 1 := by omega
          clear hbt hrq hF2 hy
          cases f <;> cases g
          all_goals first | (exact absurd d3 (by decide)) | skip
          all_goals
            clear d3
            go_wp2_with (at_builtin; rw [HY.out]; refine wpList_append_own _ rfl _ _ 34 rfl base 37 iu _ 3 32 Tryz.underlying34 IU.out ZU0.out ZU1.out ZU2.out rfl (by decide) _ _ _ rfl (hR.out.alloc _) ⟨_, 0, none⟩ 1 1 [.string y, .int .i64 ((k : Int) + 1), .bool true] rfl rfl (ln_new _ ⟨y, (k + 1), true⟩ _ _ (by simp)) (ln_one ⟨y, (k + 1), true⟩) (by unfold maxLen; omega) (by omega) (by have := hG.out.size; have := HBL.out; simp; omega) ?_; intro v9 w9 hown9 hgrow9 _; have G9 := Lib.hid ((hG.out.trans (World.grownBy_alloc _ _ _)).andThen hgrow9 (fun k hk => .inl (by have := (hR.out.lt k hk).1; have := HBL.out; omega))); have O9 := Lib.hid hown9; have P9 := Lib.hid ((hPo.out.alloc _).kept hgrow9 (tx_apart hPo.out hR.out (by decide))); clear hown9 hgrow9)
            obtain ⟨va9, vc9, rfl⟩ := tx_shape O9.out
            have HL2 := Lib.hid (show (O ++ [(⟨y, k + 1, true⟩ : Lb)]).length = O.length + 1 by simp)
            have OA := Lib.hid (show w9.ownsRow base 37 3 (.slice va9 (O ++ [(⟨y, k + 1, true⟩ : Lb)]).length vc9) (O ++ [(⟨y, k + 1, true⟩ : Lb)]).length (lnV (O ++ [(⟨y, k + 1, true⟩ : Lb)])) by rw [HL2.out, lnV_snoc]; exact O9.out)
            go_wp2
            go_roundw
            case rel => exact ⟨k + 1, 0, H, O ++ [⟨y, k + 1, true⟩], va9, vc9, by omega, by go_num, rfl, Nat.zero_le _, rfl, by omega, by rw [HL2.out], by rw [HL2.out]; omega, HV, OA, P9, G9⟩
            case measure => simp [intOf]; omega
      · rw [spA_log hrec] at hF2
        obtain ⟨m, hm⟩ : ∃ m, (!(LL.drop (k + 1)).isEmpty) = m := ⟨_, rfl⟩
        have HM := Lib.hid (show m = true ↔ k + 1 < P.length by
          rw [← hm, Bool.not_eq_true', ← Bool.not_eq_true, List.isEmpty_iff, List.drop_eq_nil_iff, ← HLL2.out, List.length_map]; omega)
        rw [hm] at hF2
        clear hm
        by_cases ho0 : o = 0
        · subst ho0
          simp only [↓reduceIte] at hF2
          obtain ⟨Z, hZ⟩ : ∃ Z, rdQ m false [] x.data.toList = Z := ⟨_, rfl⟩
          rw [hZ] at hF2
          have HS := Lib.hid hF2
          have HI0 := Lib.hid (show RdI m x.data.toList Z 0 (⟨#[]⟩ : ByteArray).data.toList false by rw [← hZ]; exact RdI.start)
          have HZ0 : (⟨#[]⟩ : ByteArray).size ≤ 5000 * k + 0 := Nat.zero_le _
          have hw : x.size = 0 ∨ (0 < x.size ∧ ∃ h : 0 < x.size, ((x[0].toNat : Int) == 32) = false ∧ ((x[0].toNat : Int) == 9) = false) := by
            by_cases h0 : 0 < x.size
            · right
              have : btQ x[0] = false := by
                cases hq : btQ x[0] with
                | false => rfl
                | true => exact absurd ⟨rfl, by rw [list_cons h0]; exact hq⟩ hrec
              rw [bt_nat, Bool.or_eq_false_iff] at this
              exact ⟨h0, h0, this⟩
            · left; omega
          clear hF2 hZ hrec
          rcases hw with hw | ⟨hw, h0, d1, d2⟩
          all_goals
            go_wp2
            try clear d1 d2
            try clear h0
            try clear hw
            go_loop [8, 11, 12] (fun hv gv i => ∃ (j : Nat) (h : ByteArray) (g : Bool), j ≤ x.size + 1 ∧ i = .int .i64 j ∧ gv = .bool g ∧ hv = .string h ∧ h.size ≤ 5000 * k + j ∧ Hid (RdI m x.data.toList Z j h.data.toList g)) (fun _ _ i => x.size + 1 - (intOf i).toNat)
            case atStart => exact ⟨0, ⟨#[]⟩, false, by omega, rfl, rfl, rfl, HZ0, HI0⟩
            case round =>
              obtain ⟨j, h, g, hj, rfl, rfl, rfl, hh, hI⟩ := hrel
              by_cases hlt : j < x.size
              · have HJ := Lib.hid (list_at hlt)
                have hI2 := hI.out
                unfold RdI at hI2
                rw [if_pos (by rw [HXL.out]; exact hlt)] at hI2
                obtain ⟨rfl, hA⟩ := hI2
                clear hI
                by_cases h39 : x[j] = 39
                · have e1 : (((x[j]).toNat : Int) == 39) = true := by rw [h39]; rfl
                  have hq : x.data.toList[j]? = some 39 := by rw [HJ.out, h39]
                  have CE := Lib.hid (fun w => dEnd x j w (by omega))
                  rcases endAt_val hq with ⟨he, hv⟩ | ⟨f, he, hv, hf1, hf2⟩
                  · rw [hv] at CE
                    have HV := Lib.hid (show spL s.data.toList = .error (5, k + 1) by rw [HS.out, ← hA, rdA_none hq he])
                    clear h39 hq he hv hA
                    go_wp2_with (go_at_call 29; (with_reducible refine (CE.out _).mono ?_); rintro e w4 ⟨rfl, rfl⟩)
                    go_ret3
                    unfold LnsOut
                    rw [HV.out]
                    exact ⟨by simp, hG.out⟩
                  · rw [hv] at CE
                    rw [HXL.out] at hf2
                    obtain ⟨y, hy⟩ : ∃ y, x.extract j (f + 1) = y := ⟨_, rfl⟩
                    have HY := Lib.hid hy
                    have hyz : y.size = f + 1 - j := by rw [← hy, ByteArray.size_extract]; omega
                    have HN := Lib.hid (show RdI m x.data.toList Z (f + 1) (h ++ y).data.toList false from RdI.next (by rw [toList_app, ← hy, toList_cut2, ← rdA_part hq he]; exact hA))
                    have hsz : (h ++ y).size ≤ 5000 * k + (f + 1) := by rw [ByteArray.size_append]; omega
                    have hd : decide ((f : Int) + 1 < 0) = false := by simp; omega
                    have hcv : ((f : Int) + 1).toNat = f + 1 := by omega
                    clear h39 hq he hv hA hy
                    go_wp2_with (first
                      | (go_at_call 29; (with_reducible refine (CE.out _).mono ?_); rintro e w4 ⟨rfl, rfl⟩)
                      | (rw [HY.out]; fail))
                    try rw [HY.out]
                    go_round
                    case rel => exact ⟨f + 1, h ++ y, false, by omega, by go_num, rfl, by first | rfl | rw [HY.out], hsz, HN⟩
                    case measure => simp [intOf]; omega
                · have e1 : (((x[j]).toNat : Int) == 39) = false := by simp only [beq_eq_false_iff_ne, ne_eq]; intro h; exact h39 (UInt8.toNat_inj.1 (by show (x[j]).toNat = 39; omega))
                  by_cases h35 : x[j] = 35
                  · have e2 : (((x[j]).toNat : Int) == 35) = true := by rw [h35]; rfl
                    have HN := Lib.hid (show RdI m x.data.toList Z (x.size + 1) h.data.toList false from RdI.done (by rw [← hA, rdA_sharp (by rw [HJ.out, h35])]) (by rw [HXL.out]; omega))
                    clear h39 h35 hA
                    go_wp2
                    go_round
                    case rel => exact ⟨x.size + 1, h, false, by omega, by go_num, rfl, rfl, by omega, HN⟩
                    case measure => simp [intOf]; omega
                  · have e2 : (((x[j]).toNat : Int) == 35) = false := by simp only [beq_eq_false_iff_ne, ne_eq]; intro h; exact h35 (UInt8.toNat_inj.1 (by show (x[j]).toNat = 35; omega))
                    by_cases hgo : x[j] = 92 ∧ j + 1 = x.size ∧ m = true
                    · obtain ⟨h92, hj1, hm⟩ := hgo
                      have e3 : (((x[j]).toNat : Int) == 92) = true := by rw [h92]; rfl
                      have hmk : k + 1 < P.length := HM.out.1 hm
                      have e4 : ((j : Int) == (x.size : Int) - 1) = true := by simp; omega
                      have e5 : decide ((k : Int) < (P.length : Int) - 1) = true := by simp; omega
                      have HN := Lib.hid (show RdI m x.data.toList Z (j + 1) (h ++ ⟨#[32]⟩ : ByteArray).data.toList true from RdI.done (by rw [toList_app, ← hA, rdA_goes (by rw [HJ.out, h92]) (by rw [HXL.out]; exact hj1) hm]) (by rw [HXL.out]; omega))
                      have hsz : (h ++ ⟨#[32]⟩ : ByteArray).size ≤ 5000 * k + (j + 1) := by rw [ByteArray.size_append]; show h.size + 1 ≤ _; omega
                      clear h39 h35 h92 hA
                      go_wp2
                      go_round
                      case rel => exact ⟨j + 1, _, true, by omega, by go_num, rfl, rfl, hsz, HN⟩
                      case measure => simp [intOf]; omega
                    · obtain ⟨y, hy⟩ : ∃ y, x.extract j (j + 1) = y := ⟨_, rfl⟩
                      have HY := Lib.hid hy
                      have hyz : y.size = 1 := by rw [← hy, ByteArray.size_extract]; omega
                      have HN := Lib.hid (show RdI m x.data.toList Z (j + 1) (h ++ y).data.toList false from RdI.next (by
                        rw [toList_app, ← hy, toList_one hlt, ← rdA_byte HJ.out h39 h35 (by rw [HXL.out]; exact hgo)]; exact hA))
                      have hsz : (h ++ y).size ≤ 5000 * k + (j + 1) := by rw [ByteArray.size_append]; omega
                      have hw : (((x[j]).toNat : Int) == 92) = false ∨ ((((x[j]).toNat : Int) == 92) = true ∧ ((j : Int) == (x.size : Int) - 1) = false) ∨ ((((x[j]).toNat : Int) == 92) = true ∧ ((j : Int) == (x.size : Int) - 1) = true ∧ decide ((k : Int) < (P.length : Int) - 1) = false) := by
                        by_cases h92 : x[j] = 92
                        · right
                          have e3 : (((x[j]).toNat : Int) == 92) = true := by rw [h92]; rfl
                          by_cases hj1 : j + 1 = x.size
                          · right
                            refine ⟨e3, by simp; omega, ?_⟩
                            rw [decide_eq_false_iff_not]
                            intro hk3
                            exact hgo ⟨h92, hj1, HM.out.2 (by omega)⟩
                          · exact .inl ⟨e3, by simp; omega⟩
                        · left
                          simp only [beq_eq_false_iff_ne, ne_eq]; intro h; exact h92 (UInt8.toNat_inj.1 (by show (x[j]).toNat = 92; omega))
                      clear h39 h35 hgo hA hy
                      rcases hw with e3 | ⟨e3, e4⟩ | ⟨e3, e4, e5⟩
                      all_goals
                        go_wp2
                        try rw [HY.out]
                        go_round
                        case rel => exact ⟨j + 1, h ++ y, false, by omega, by go_num, rfl, by first | rfl | rw [HY.out], hsz, HN⟩
                        case measure => simp [intOf]; omega
              · have hZ := hI.out
                unfold RdI at hZ
                rw [if_neg (by rw [HXL.out]; exact hlt)] at hZ
                clear hI
                have hhz : h.size ≤ 5000 * (k + 1) := by omega
                cases g
                · -- the line ends
                  have CT := Lib.hid (fun w => dTrim h w (by omega))
                  obtain ⟨y, hy, hyz⟩ : ∃ y : ByteArray, y.data.toList = trQ h.data.toList ∧ y.size ≤ h.size := ⟨⟨(trQ h.data.toList).toArray⟩, by simp, by
                    have := tr_len h.data.toList
                    show (trQ h.data.toList).toArray.size ≤ h.size
                    rw [List.size_toArray]; simpa using this⟩
                  have HY := Lib.hid hy
                  have HYL := Lib.hid (show (trQ h.data.toList).length = y.size by rw [← hy]; simp)
                  by_cases hlong : 400 < y.size
                  · have HV := Lib.hid (show spL s.data.toList = .error (2, (k + 1)) by rw [HS.out, hZ]; simp only; rw [if_pos (by rw [HYL.out]; exact hlong)])
                    clear hZ hy
                    go_wp2_with (go_at_call 30; (with_reducible refine (CT.out _).mono ?_); rintro e w4 ⟨⟨t, rfl, ht, -⟩, rfl⟩; obtain rfl : y = t := tx_ext' (HY.out.trans ht.symm))
                    go_ret3
                    unfold LnsOut
                    rw [HV.out]
                    exact ⟨by simp, hG.out⟩
                  · have HV := Lib.hid (show spL s.data.toList = spA 0 h.data.toList (lnQ (O ++ [⟨y, (k + 1), false⟩])) (k + 1) (LL.drop (k + 1)) by
                      rw [HS.out, hZ]; simp only
                      rw [if_neg (by rw [HYL.out]; exact hlong), spA_held h.data.toList []]
                      simp only [lnQ, List.map_append, List.map_cons, List.map_nil, Lb.q, hy])
                    have hcast : (((k + 1) : Nat) : Int) = ((k : Int) + 1) := by omega
                    clear hZ hy
                    go_wp2_with (first
                      | (go_at_call 30; (with_reducible refine (CT.out _).mono ?_); rintro e w4 ⟨⟨t, rfl, ht, -⟩, rfl⟩; obtain rfl : y = t := tx_ext' (HY.out.trans ht.symm))
                      | (at_builtin; refine wpList_append_own _ rfl _ _ 34 rfl base 37 iu _ 3 32 Tryz.underlying34 IU.out ZU0.out ZU1.out ZU2.out rfl (by decide) _ _ _ rfl (hR.out.alloc _) ⟨_, 0, none⟩ 1 1 [.string y, .int .i64 ((k : Int) + 1), .bool false] rfl rfl (ln_new _ ⟨y, (k + 1), false⟩ _ _ (by simp)) (ln_one ⟨y, (k + 1), false⟩) (by unfold maxLen; omega) (by omega) (by have := hG.out.size; have := HBL.out; simp; omega) ?_; intro v9 w9 hown9 hgrow9 _; have G9 := Lib.hid ((hG.out.trans (World.grownBy_alloc _ _ _)).andThen hgrow9 (fun k hk => .inl (by have := (hR.out.lt k hk).1; have := HBL.out; omega))); have O9 := Lib.hid hown9; have P9 := Lib.hid ((hPo.out.alloc _).kept hgrow9 (tx_apart hPo.out hR.out (by decide))); clear hown9 hgrow9))
                    obtain ⟨va9, vc9, rfl⟩ := tx_shape O9.out
                    have HL2 := Lib.hid (show (O ++ [(⟨y, (k + 1), false⟩ : Lb)]).length = O.length + 1 by simp)
                    have OA := Lib.hid (show w9.ownsRow base 37 3 (.slice va9 (O ++ [(⟨y, (k + 1), false⟩ : Lb)]).length vc9) (O ++ [(⟨y, (k + 1), false⟩ : Lb)]).length (lnV (O ++ [(⟨y, (k + 1), false⟩ : Lb)])) by rw [HL2.out, lnV_snoc]; exact O9.out)
                    go_wp2
                    go_roundw
                    case rel => exact ⟨k + 1, 0, h, O ++ [⟨y, (k + 1), false⟩], va9, vc9, by omega, by go_num, rfl, Nat.zero_le _, rfl, hhz, by rw [HL2.out], by rw [HL2.out]; omega, HV, OA, P9, G9⟩
                    case measure => simp [intOf]; omega
                · -- it goes on
                  have HV := Lib.hid (show spL s.data.toList = spA (k + 1) h.data.toList (lnQ O) (k + 1) (LL.drop (k + 1)) by rw [HS.out, hZ])
                  clear hZ
                  go_wp2
                  go_roundw
                  case rel => exact ⟨k + 1, (k + 1), h, O, va2, vc2, by omega, by go_num, by go_num, by omega, rfl, hhz, rfl, by omega, HV, hR, hPo, hG⟩
                  case measure => simp [intOf]; omega
        · have hoz : ((o : Int) == 0) = false := by simp; omega
          rw [if_neg ho0] at hF2
          simp only [if_neg ho0] at hF2
          obtain ⟨Z, hZ⟩ : ∃ Z, rdQ m false H.data.toList x.data.toList = Z := ⟨_, rfl⟩
          rw [hZ] at hF2
          have HS := Lib.hid hF2
          have HI0 := Lib.hid (show RdI m x.data.toList Z 0 H.data.toList false by rw [← hZ]; exact RdI.start)
          have HZ0 : H.size ≤ 5000 * k + 0 := hH
          clear hF2 hZ hrec
          go_wp2
          try clear d1 d2
          try clear h0
          try clear hw
          go_loop [8, 11, 12] (fun hv gv i => ∃ (j : Nat) (h : ByteArray) (g : Bool), j ≤ x.size + 1 ∧ i = .int .i64 j ∧ gv = .bool g ∧ hv = .string h ∧ h.size ≤ 5000 * k + j ∧ Hid (RdI m x.data.toList Z j h.data.toList g)) (fun _ _ i => x.size + 1 - (intOf i).toNat)
          case atStart => exact ⟨0, H, false, by omega, rfl, rfl, rfl, HZ0, HI0⟩
          case round =>
            obtain ⟨j, h, g, hj, rfl, rfl, rfl, hh, hI⟩ := hrel
            by_cases hlt : j < x.size
            · have HJ := Lib.hid (list_at hlt)
              have hI2 := hI.out
              unfold RdI at hI2
              rw [if_pos (by rw [HXL.out]; exact hlt)] at hI2
              obtain ⟨rfl, hA⟩ := hI2
              clear hI
              by_cases h39 : x[j] = 39
              · have e1 : (((x[j]).toNat : Int) == 39) = true := by rw [h39]; rfl
                have hq : x.data.toList[j]? = some 39 := by rw [HJ.out, h39]
                have CE := Lib.hid (fun w => dEnd x j w (by omega))
                rcases endAt_val hq with ⟨he, hv⟩ | ⟨f, he, hv, hf1, hf2⟩
                · rw [hv] at CE
                  have HV := Lib.hid (show spL s.data.toList = .error (5, k + 1) by rw [HS.out, ← hA, rdA_none hq he])
                  clear h39 hq he hv hA
                  go_wp2_with (go_at_call 29; (with_reducible refine (CE.out _).mono ?_); rintro e w4 ⟨rfl, rfl⟩)
                  go_ret3
                  unfold LnsOut
                  rw [HV.out]
                  exact ⟨by simp, hG.out⟩
                · rw [hv] at CE
                  rw [HXL.out] at hf2
                  obtain ⟨y, hy⟩ : ∃ y, x.extract j (f + 1) = y := ⟨_, rfl⟩
                  have HY := Lib.hid hy
                  have hyz : y.size = f + 1 - j := by rw [← hy, ByteArray.size_extract]; omega
                  have HN := Lib.hid (show RdI m x.data.toList Z (f + 1) (h ++ y).data.toList false from RdI.next (by rw [toList_app, ← hy, toList_cut2, ← rdA_part hq he]; exact hA))
                  have hsz : (h ++ y).size ≤ 5000 * k + (f + 1) := by rw [ByteArray.size_append]; omega
                  have hd : decide ((f : Int) + 1 < 0) = false := by simp; omega
                  have hcv : ((f : Int) + 1).toNat = f + 1 := by omega
                  clear h39 hq he hv hA hy
                  go_wp2_with (first
                    | (go_at_call 29; (with_reducible refine (CE.out _).mono ?_); rintro e w4 ⟨rfl, rfl⟩)
                    | (rw [HY.out]; fail))
                  try rw [HY.out]
                  go_round
                  case rel => exact ⟨f + 1, h ++ y, false, by omega, by go_num, rfl, by first | rfl | rw [HY.out], hsz, HN⟩
                  case measure => simp [intOf]; omega
              · have e1 : (((x[j]).toNat : Int) == 39) = false := by simp only [beq_eq_false_iff_ne, ne_eq]; intro h; exact h39 (UInt8.toNat_inj.1 (by show (x[j]).toNat = 39; omega))
                by_cases h35 : x[j] = 35
                · have e2 : (((x[j]).toNat : Int) == 35) = true := by rw [h35]; rfl
                  have HN := Lib.hid (show RdI m x.data.toList Z (x.size + 1) h.data.toList false from RdI.done (by rw [← hA, rdA_sharp (by rw [HJ.out, h35])]) (by rw [HXL.out]; omega))
                  clear h39 h35 hA
                  go_wp2
                  go_round
                  case rel => exact ⟨x.size + 1, h, false, by omega, by go_num, rfl, rfl, by omega, HN⟩
                  case measure => simp [intOf]; omega
                · have e2 : (((x[j]).toNat : Int) == 35) = false := by simp only [beq_eq_false_iff_ne, ne_eq]; intro h; exact h35 (UInt8.toNat_inj.1 (by show (x[j]).toNat = 35; omega))
                  by_cases hgo : x[j] = 92 ∧ j + 1 = x.size ∧ m = true
                  · obtain ⟨h92, hj1, hm⟩ := hgo
                    have e3 : (((x[j]).toNat : Int) == 92) = true := by rw [h92]; rfl
                    have hmk : k + 1 < P.length := HM.out.1 hm
                    have e4 : ((j : Int) == (x.size : Int) - 1) = true := by simp; omega
                    have e5 : decide ((k : Int) < (P.length : Int) - 1) = true := by simp; omega
                    have HN := Lib.hid (show RdI m x.data.toList Z (j + 1) (h ++ ⟨#[32]⟩ : ByteArray).data.toList true from RdI.done (by rw [toList_app, ← hA, rdA_goes (by rw [HJ.out, h92]) (by rw [HXL.out]; exact hj1) hm]) (by rw [HXL.out]; omega))
                    have hsz : (h ++ ⟨#[32]⟩ : ByteArray).size ≤ 5000 * k + (j + 1) := by rw [ByteArray.size_append]; show h.size + 1 ≤ _; omega
                    clear h39 h35 h92 hA
                    go_wp2
                    go_round
                    case rel => exact ⟨j + 1, _, true, by omega, by go_num, rfl, rfl, hsz, HN⟩
                    case measure => simp [intOf]; omega
                  · obtain ⟨y, hy⟩ : ∃ y, x.extract j (j + 1) = y := ⟨_, rfl⟩
                    have HY := Lib.hid hy
                    have hyz : y.size = 1 := by rw [← hy, ByteArray.size_extract]; omega
                    have HN := Lib.hid (show RdI m x.data.toList Z (j + 1) (h ++ y).data.toList false from RdI.next (by
                      rw [toList_app, ← hy, toList_one hlt, ← rdA_byte HJ.out h39 h35 (by rw [HXL.out]; exact hgo)]; exact hA))
                    have hsz : (h ++ y).size ≤ 5000 * k + (j + 1) := by rw [ByteArray.size_append]; omega
                    have hw : (((x[j]).toNat : Int) == 92) = false ∨ ((((x[j]).toNat : Int) == 92) = true ∧ ((j : Int) == (x.size : Int) - 1) = false) ∨ ((((x[j]).toNat : Int) == 92) = true ∧ ((j : Int) == (x.size : Int) - 1) = true ∧ decide ((k : Int) < (P.length : Int) - 1) = false) := by
                      by_cases h92 : x[j] = 92
                      · right
                        have e3 : (((x[j]).toNat : Int) == 92) = true := by rw [h92]; rfl
                        by_cases hj1 : j + 1 = x.size
                        · right
                          refine ⟨e3, by simp; omega, ?_⟩
                          rw [decide_eq_false_iff_not]
                          intro hk3
                          exact hgo ⟨h92, hj1, HM.out.2 (by omega)⟩
                        · exact .inl ⟨e3, by simp; omega⟩
                      · left
                        simp only [beq_eq_false_iff_ne, ne_eq]; intro h; exact h92 (UInt8.toNat_inj.1 (by show (x[j]).toNat = 92; omega))
                    clear h39 h35 hgo hA hy
                    rcases hw with e3 | ⟨e3, e4⟩ | ⟨e3, e4, e5⟩
                    all_goals
                      go_wp2
                      try rw [HY.out]
                      go_round
                      case rel => exact ⟨j + 1, h ++ y, false, by omega, by go_num, rfl, by first | rfl | rw [HY.out], hsz, HN⟩
                      case measure => simp [intOf]; omega
            · have hZ := hI.out
              unfold RdI at hZ
              rw [if_neg (by rw [HXL.out]; exact hlt)] at hZ
              clear hI
              have hhz : h.size ≤ 5000 * (k + 1) := by omega
              cases g
              · -- the line ends
                have CT := Lib.hid (fun w => dTrim h w (by omega))
                obtain ⟨y, hy, hyz⟩ : ∃ y : ByteArray, y.data.toList = trQ h.data.toList ∧ y.size ≤ h.size := ⟨⟨(trQ h.data.toList).toArray⟩, by simp, by
                  have := tr_len h.data.toList
                  show (trQ h.data.toList).toArray.size ≤ h.size
                  rw [List.size_toArray]; simpa using this⟩
                have HY := Lib.hid hy
                have HYL := Lib.hid (show (trQ h.data.toList).length = y.size by rw [← hy]; simp)
                by_cases hlong : 400 < y.size
                · have HV := Lib.hid (show spL s.data.toList = .error (2, o) by rw [HS.out, hZ]; simp only; rw [if_pos (by rw [HYL.out]; exact hlong)])
                  clear hZ hy
                  go_wp2_with (go_at_call 30; (with_reducible refine (CT.out _).mono ?_); rintro e w4 ⟨⟨t, rfl, ht, -⟩, rfl⟩; obtain rfl : y = t := tx_ext' (HY.out.trans ht.symm))
                  go_ret3
                  unfold LnsOut
                  rw [HV.out]
                  exact ⟨by simp, hG.out⟩
                · have HV := Lib.hid (show spL s.data.toList = spA 0 h.data.toList (lnQ (O ++ [⟨y, o, false⟩])) (k + 1) (LL.drop (k + 1)) by
                    rw [HS.out, hZ]; simp only
                    rw [if_neg (by rw [HYL.out]; exact hlong), spA_held h.data.toList []]
                    simp only [lnQ, List.map_append, List.map_cons, List.map_nil, Lb.q, hy])
                  have hcast : ((o : Nat) : Int) = (o : Int) := by omega
                  clear hZ hy
                  go_wp2_with (first
                    | (go_at_call 30; (with_reducible refine (CT.out _).mono ?_); rintro e w4 ⟨⟨t, rfl, ht, -⟩, rfl⟩; obtain rfl : y = t := tx_ext' (HY.out.trans ht.symm))
                    | (at_builtin; refine wpList_append_own _ rfl _ _ 34 rfl base 37 iu _ 3 32 Tryz.underlying34 IU.out ZU0.out ZU1.out ZU2.out rfl (by decide) _ _ _ rfl (hR.out.alloc _) ⟨_, 0, none⟩ 1 1 [.string y, .int .i64 (o : Int), .bool false] rfl rfl (ln_new _ ⟨y, o, false⟩ _ _ (by simp)) (ln_one ⟨y, o, false⟩) (by unfold maxLen; omega) (by omega) (by have := hG.out.size; have := HBL.out; simp; omega) ?_; intro v9 w9 hown9 hgrow9 _; have G9 := Lib.hid ((hG.out.trans (World.grownBy_alloc _ _ _)).andThen hgrow9 (fun k hk => .inl (by have := (hR.out.lt k hk).1; have := HBL.out; omega))); have O9 := Lib.hid hown9; have P9 := Lib.hid ((hPo.out.alloc _).kept hgrow9 (tx_apart hPo.out hR.out (by decide))); clear hown9 hgrow9))
                  obtain ⟨va9, vc9, rfl⟩ := tx_shape O9.out
                  have HL2 := Lib.hid (show (O ++ [(⟨y, o, false⟩ : Lb)]).length = O.length + 1 by simp)
                  have OA := Lib.hid (show w9.ownsRow base 37 3 (.slice va9 (O ++ [(⟨y, o, false⟩ : Lb)]).length vc9) (O ++ [(⟨y, o, false⟩ : Lb)]).length (lnV (O ++ [(⟨y, o, false⟩ : Lb)])) by rw [HL2.out, lnV_snoc]; exact O9.out)
                  go_wp2
                  go_roundw
                  case rel => exact ⟨k + 1, 0, h, O ++ [⟨y, o, false⟩], va9, vc9, by omega, by go_num, rfl, Nat.zero_le _, rfl, hhz, by rw [HL2.out], by rw [HL2.out]; omega, HV, OA, P9, G9⟩
                  case measure => simp [intOf]; omega
              · -- it goes on
                have HV := Lib.hid (show spL s.data.toList = spA o h.data.toList (lnQ O) (k + 1) (LL.drop (k + 1)) by rw [HS.out, hZ])
                clear hZ
                go_wp2
                go_roundw
                case rel => exact ⟨k + 1, o, h, O, va2, vc2, by omega, by go_num, by go_num, by omega, rfl, hhz, rfl, by omega, HV, hR, hPo, hG⟩
                case measure => simp [intOf]; omega
    · obtain rfl : k = P.length := by omega
      have HV := Lib.hid (show spL s.data.toList = .ok (lnQ O) by
        rw [hF.out, show LL.drop P.length = [] from List.drop_of_length_le (by rw [← HLL2.out, List.length_map]; exact Nat.le_refl _)]; rfl)
      have HOL := Lib.hid (show O.length ≤ s.data.toList.length by
        have h1 := linQ_len s.data.toList
        rw [HLLQ.out, ← HLL2.out, List.length_map] at h1; omega)
      clear hF
      go_wp2
      go_ret3
      unfold LnsOut
      rw [HV.out]
      exact ⟨⟨_, O, rfl, by rw [HBL.out]; exact hR.out, rfl, HOL.out⟩, hG.out⟩
end Go.Proofs.YtdganemgldocoaaGreatDoor

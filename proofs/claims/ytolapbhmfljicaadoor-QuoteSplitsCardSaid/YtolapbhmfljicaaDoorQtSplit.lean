/- The document's own answer: the words of a text. -/
import Derived.Test.YtolapbhmfljicaaDoorQtRow
import Derived.Laws.BytesArg
namespace Go.Proofs.YtolapbhmfljicaaDoor
open Go.RowKit

theorem infoU8 : (Tryd.prog.info? 5).map (fun i => (i.zero, i.size, i.bytes)) = some (some (.int .u8 0), 1, 1) := by kernel_rfl
theorem by_one (k : Int) : ∀ u ∈ ([.int .u8 k] : List Value), u.oneCell' = true := by intro u hu; simp at hu; subst hu; rfl
theorem by_new (w : World) (k : Int) (T : TypeId) (m : Nat) (hm : m = w.heap.size) : ∀ j x, ([.int .u8 k] : List Value)[j]? = some x → (w.alloc (.cells #[.int .u8 k] T)).cell? ((⟨m, 0, none⟩ : Addr).add j) = some x := by
  subst hm
  exact World.news_of_block (cs := #[.int .u8 k]) (t := T) (fr := (0, 0)) (heap_alloc_new w _)
abbrev byV (W : List UInt8) : List Value := W.map fun b => Value.int .u8 b.toNat
theorem by_zero (w : World) (T : TypeId) (base : Nat) (hb : base ≤ w.heap.size) : (w.alloc (.cells #[] T)).ownsRow base T 1 (.slice (some ⟨w.heap.size, 0, none⟩) 0 0) 0 (byV []) :=
  ⟨rfl, .inr ⟨w.heap.size, 0, _, rfl, hb, heap_alloc_new w _, Nat.le_refl _, by decide, rfl, rfl⟩⟩
/-- rows of two types lie apart -/
theorem tx_apart {w : World} {b b' n n' sz sz' : Nat} {e e' : TypeId} {v v' : Value} {xs xs' : List Value} (h : w.ownsRow b e sz v n xs) (h2 : w.ownsRow b' e' sz' v' n' xs') (he : e ≠ e') : v.ownBlock = none ∨ v.ownBlock ≠ v'.ownBlock := by
  rcases h.2 with ⟨rfl, -⟩ | ⟨g, cap, cur, rfl, -, hg, -⟩
  · exact .inl rfl
  · rcases h2.2 with ⟨rfl, -⟩ | ⟨g', cap', cur', rfl, -, hg', -⟩
    · right; simp [Value.ownBlock]
    · right
      simp only [Value.ownBlock, ne_eq, Option.some.injEq]
      intro e
      subst e
      rw [hg] at hg'
      simp at hg'
      exact he hg'.2
/-- a row of bytes as a text -/
theorem conv_row {w : World} {base : Nat} {v : Value} {W : List UInt8} (h : w.ownsRow base 5 1 v W.length (byV W)) : ∃ t : ByteArray, (convert 46 9 v).run Tryd.prog w = .ok (.string t) w ∧ t.data.toList = W := by
  rcases h.2 with ⟨rfl, h0⟩ | ⟨g, cap, cur, rfl, -, hg, hc⟩
  · refine ⟨ByteArray.empty, run_convert_bytes_nil w 46 5 Tryd.underlying46 Tryd.underlying5 0 0 9 Tryd.underlying9, ?_⟩
    have := List.eq_nil_of_length_eq_zero h0
    rw [this]; rfl
  · refine ⟨_, run_convert_bytes_arg w 46 5 Tryd.underlying46 Tryd.underlying5 g 0 W.length cap (W.map fun b => (b.toNat : Int)) (by simp) (fun i hi => ?_) 9 Tryd.underlying9, ?_⟩
    · have := h.cells (g := g) rfl i (.int .u8 (W[i]'hi).toNat) (by simp [hi])
      rw [Addr.add_lit] at this
      rw [this]
      simp [List.getD, hi]
    · simp [strOfNums, List.map_map, Function.comp_def]
/-- what Split answers -/
def SplOut (l : List UInt8) (w : World) (e : Ending) (w' : World) : Prop :=
  (match splQ l with
    | some L => ∃ v O, e = .returned (.tuple #[v, .int .i64 0]) ∧ w'.ownsRow w.heap.size 9 1 v O.length (txV O) ∧ txL O = L
    | none => e = .returned (.tuple #[.slice none 0 0, .int .i64 5])) ∧ w.grownBy w' none
theorem run_take {l : List UInt8} {j : Nat} {b : UInt8} {q : Sq} (h : l[j]? = some b) (hq : runQ ⟨0, [], []⟩ (l.take j) = q) : runQ ⟨0, [], []⟩ (l.take (j + 1)) = stpQ q b := by
  rw [List.take_add_one, h, runQ_app, hq]; rfl
theorem spl_none {l : List UInt8} {w : World} {w' : World} (h : (runQ ⟨0, [], []⟩ l).st = 2) (g : w.grownBy w' none) : SplOut l w (.returned (.tuple #[.slice none 0 0, .int .i64 5])) w' := by
  unfold SplOut splQ endQ
  rw [if_pos h]; exact ⟨rfl, g⟩
theorem spl_some {l : List UInt8} {w : World} {w' : World} {v : Value} {O : List ByteArray} {q : Sq} (hq : runQ ⟨0, [], []⟩ l = q) (h2 : q.st ≠ 2) (hO : txL O = if q.st = 0 then q.out else q.out ++ [q.w]) (hR : w'.ownsRow w.heap.size 9 1 v O.length (txV O)) (g : w.grownBy w' none) :
    SplOut l w (.returned (.tuple #[v, .int .i64 0])) w' := by
  unfold SplOut splQ endQ
  rw [hq, if_neg h2]
  refine ⟨?_, g⟩
  by_cases h0 : q.st = 0
  · rw [if_pos h0] at hO ⊢; exact ⟨v, O, rfl, hR, hO⟩
  · rw [if_neg h0] at hO ⊢; exact ⟨v, O, rfl, hR, hO⟩
/-- what the loop over the bytes knows -/
structure SpI (l : List UInt8) (w0 : World) (base j st : Nat) (W : List UInt8) (O : List ByteArray) (vo vw : Value) (w : World) : Prop where
  q : runQ ⟨0, [], []⟩ (l.take j) = ⟨st, W, txL O⟩
  o : w.ownsRow base 9 1 vo O.length (txV O)
  b : w.ownsRow base 5 1 vw W.length (byV W)
  g : w0.grownBy w none
set_option maxRecDepth 100000 in
set_option maxHeartbeats 8000000 in
theorem dSplit (s : ByteArray) (w : World) (hs : s.size ≤ 5000) : Calls Tryd.prog 8 #[.string s] w (SplOut s.data.toList w) := by
  obtain ⟨iu, hiu, hu0, hu1, hu2⟩ := info_parts infoTx
  have IU := Lib.hid hiu; have ZU0 := Lib.hid hu0; have ZU1 := Lib.hid hu1; have ZU2 := Lib.hid hu2
  obtain ⟨ib, hib, hb0, hb1, hb2⟩ := info_parts infoU8
  have IB := Lib.hid hib; have ZB0 := Lib.hid hb0; have ZB1 := Lib.hid hb1; have ZB2 := Lib.hid hb2
  have o1 := tx_zero w 9 w.heap.size (Nat.le_refl _)
  have g1 := World.grownBy_alloc w (.cells #[] 9) none
  have g2 := World.grownBy_alloc (w.alloc (.cells #[] 9)) (.cells #[] 5) none
  have b1 := by_zero (w.alloc (.cells #[] 9)) 5 w.heap.size g1.size
  rw [show (w.alloc (.cells #[] 9)).heap.size = w.heap.size + 1 by show (w.heap.push _).size = _; simp] at b1
  have I1 := Lib.hid (⟨by simp [runQ_nil, txL], o1.kept g2 (.inr (by simp [Value.ownBlock])), b1, g1.trans g2⟩ : SpI s.data.toList w w.heap.size 0 0 [] [] (.slice (some ⟨w.heap.size, 0, none⟩) 0 0) (.slice (some ⟨w.heap.size + 1, 0, none⟩) 0 0) ((w.alloc (.cells #[] 9)).alloc (.cells #[] 5)))
  clear hiu hu0 hu1 hu2 hib hb0 hb1 hb2 o1 g1 g2 b1
  go_enter Tryd.func8, Tryd.ntmps8
  go_upto_region 4 with fail
  generalize World.alloc _ _ = w1 at I1 ⊢
  obtain ⟨base, hbase⟩ : ∃ base, base = w.heap.size := ⟨_, rfl⟩
  rw [← hbase] at I1 ⊢
  have HBL := Lib.hid (show w.heap.size = base from hbase.symm)
  clear hbase
  go_wp2
  go_loopw [4, 5, 6, 7] (fun o t u i wr => ∃ (j st : Nat) (W : List UInt8) (O : List ByteArray) (va : Option Addr) (vc : Nat) (vb : Option Addr) (vd : Nat), j ≤ s.size ∧ i = .int .i64 j ∧ t = .int .i64 st ∧ st ≤ 3 ∧ o = .slice va O.length vc ∧ u = .slice vb W.length vd ∧ W.length ≤ j ∧ O.length ≤ j ∧ Hid (SpI s.data.toList w base j st W O (.slice va O.length vc) (.slice vb W.length vd) wr)) (fun _ _ _ i _ => s.size - (intOf i).toNat)
  case atStart => exact ⟨0, 0, [], [], _, _, _, _, Nat.zero_le _, rfl, rfl, by omega, rfl, rfl, by simp, by simp, I1⟩
  case round =>
    obtain ⟨j, st, W, O, va, vc, vb, vd, hj, rfl, rfl, hst, rfl, rfl, hW, hO, hI⟩ := hrel
    by_cases hlt : j < s.size
    · have HJ := Lib.hid (list_at hlt)
      have CB := Lib.hid (fun w => dBlank s[j] w)
      obtain ⟨tt, htt, hT⟩ := conv_row hI.out.b
      have HT := Lib.hid hT
      have HSTEP := Lib.hid (fun q (h : stpQ ⟨st, W, txL O⟩ s[j] = q) => (run_take HJ.out hI.out.q).trans h)
      clear hT
      have HA := Lib.hid (show ∀ (x : UInt8) (w9 : World) (v9 : Value) (n9 : Nat), stpQ ⟨st, W, txL O⟩ s[j] = ⟨n9, W ++ [x], txL O⟩ → (wr.alloc (.cells #[.int .u8 x.toNat] 5)).grownBy w9 (Value.slice vb W.length vd).ownBlock → w9.ownsRow base 5 1 v9 (W.length + 1) (byV W ++ [.int .u8 x.toNat]) →
          SpI s.data.toList w base (j + 1) n9 (W ++ [x]) O (.slice va O.length vc) v9 w9 from fun x w9 v9 n9 h g o => by
        refine ⟨HSTEP.out _ h, (hI.out.o.alloc _).kept g (tx_apart hI.out.o hI.out.b (by decide)), ?_, (hI.out.g.trans (World.grownBy_alloc _ _ _)).andThen g (fun k hk => .inl (by have := (hI.out.b.lt k hk).1; have := HBL.out; omega))⟩
        rw [List.length_append, byV, List.map_append]; exact o)
      have HF := Lib.hid (show ∀ (w9 : World) (v9 : Value), stpQ ⟨st, W, txL O⟩ s[j] = ⟨0, [], txL O ++ [W]⟩ → (wr.alloc (.cells #[.string tt] 9)).grownBy w9 (Value.slice va O.length vc).ownBlock → w9.ownsRow base 9 1 v9 (O.length + 1) (txV O ++ [.string tt]) →
          SpI s.data.toList w base (j + 1) 0 [] (O ++ [tt]) v9 (.slice (some ⟨w9.heap.size, 0, none⟩) 0 0) (w9.alloc (.cells #[] 5)) from fun w9 v9 h g o => by
        have g9 := (hI.out.g.trans (World.grownBy_alloc wr (.cells #[.string tt] 9) none)).andThen g (fun k hk => .inl (by have := (hI.out.o.lt k hk).1; have := HBL.out; omega))
        refine ⟨?_, ?_, by_zero w9 5 base (by have := g9.size; have := HBL.out; omega), g9.trans (World.grownBy_alloc _ _ _)⟩
        · rw [HSTEP.out _ h]; simp [txL, HT.out]
        · refine World.ownsRow.alloc ?_ _
          rw [List.length_append, txV, List.map_append]; exact o)
      have HSS := Lib.hid (show ∀ n9 : Nat, stpQ ⟨st, W, txL O⟩ s[j] = ⟨n9, W, txL O⟩ → SpI s.data.toList w base (j + 1) n9 W O (.slice va O.length vc) (.slice vb W.length vd) wr from fun n9 h => ⟨HSTEP.out _ h, hI.out.o, hI.out.b, hI.out.g⟩)
      clear HSTEP HT
      have hst4 : st = 0 ∨ st = 1 ∨ st = 2 ∨ st = 3 := by omega
      rcases hst4 with rfl | rfl | rfl | rfl
      · rw [show ((0 : Nat) : Int) = 0 from rfl]
        by_cases hb : s[j] = 39
        · have hk : blkQ s[j] = false := by rw [hb]; decide
          have cb := CB.out
          rw [hk] at cb
          have CB2 := Lib.hid cb
          clear cb hk
          have e1 : (((s[j]).toNat : Int) == 39) = true := by rw [hb]; rfl
          have HQ := Lib.hid (show stpQ ⟨0, W, txL O⟩ s[j] = ⟨2, W, txL O⟩ by simp [stpQ, stpO, hb, show blkQ 39 = false from by decide])
          have N9 := Lib.hid (HSS.out 2 HQ.out)
          clear hb hst
          go_wp2_with (go_at_call 20; (with_reducible refine (CB2.out _).mono ?_); rintro e w3 ⟨rfl, rfl⟩)
          go_roundw
          case rel => exact ⟨j + 1, 2, W, O, va, vc, vb, vd, by omega, by go_num, rfl, by omega, rfl, rfl, by omega, by omega, N9⟩
          case measure => simp [intOf]; omega
        · cases hk : blkQ s[j]
          · have e1 : (((s[j]).toNat : Int) == 39) = false := by
              simp only [beq_eq_false_iff_ne, ne_eq]
              intro h
              exact hb (UInt8.toNat_inj.1 (by show (s[j]).toNat = 39; omega))
            have cb := CB.out
            rw [hk] at cb
            have CB2 := Lib.hid cb
            clear cb
            have HQ := Lib.hid (show stpQ ⟨0, W, txL O⟩ s[j] = ⟨1, W ++ [s[j]], txL O⟩ by simp [stpQ, stpO, hb, hk])
            have HL2 := Lib.hid (show (W ++ [s[j]]).length = W.length + 1 by simp)
            clear hb hk hst
            go_wp2_with (first | (go_at_call 20; (with_reducible refine (CB2.out _).mono ?_); rintro e w3 ⟨rfl, rfl⟩) | (at_builtin; refine wpList_append_own _ rfl _ _ 46 rfl base 5 ib _ 1 1 Tryd.underlying46 IB.out ZB0.out ZB1.out ZB2.out rfl (by decide) _ _ _ rfl (hI.out.b.alloc _) ⟨_, 0, none⟩ 1 1 [.int .u8 ↑(s[j]).toNat] rfl rfl (by_new _ _ _ _ (by simp)) (by_one _) (by unfold maxLen; omega) (by omega) (by have := hI.out.g.size; have := HBL.out; simp; omega) ?_; intro v9 w9 hown9 hgrow9 _; have N9 := Lib.hid (HA.out s[j] w9 v9 1 HQ.out hgrow9 hown9); clear hown9 hgrow9))
            obtain ⟨vb9, vd9, rfl⟩ := tx_shape N9.out.b
            go_wp2
            go_roundw
            case rel => exact ⟨j + 1, 1, W ++ [s[j]], O, va, vc, vb9, vd9, by omega, by go_num, rfl, by omega, rfl, by rw [HL2.out], by rw [HL2.out]; omega, by omega, N9⟩
            case measure => simp [intOf]; omega
          · have e1 : (((s[j]).toNat : Int) == 39) = false := by
              simp only [beq_eq_false_iff_ne, ne_eq]
              intro h
              exact hb (UInt8.toNat_inj.1 (by show (s[j]).toNat = 39; omega))
            have cb := CB.out
            rw [hk] at cb
            have CB2 := Lib.hid cb
            clear cb
            have HQ := Lib.hid (show stpQ ⟨0, W, txL O⟩ s[j] = ⟨0, W, txL O⟩ by simp [stpQ, stpO, hk])
            have N9 := Lib.hid (HSS.out 0 HQ.out)
            clear hb hk hst
            go_wp2_with (go_at_call 20; (with_reducible refine (CB2.out _).mono ?_); rintro e w3 ⟨rfl, rfl⟩)
            go_roundw
            case rel => exact ⟨j + 1, 0, W, O, va, vc, vb, vd, by omega, by go_num, rfl, by omega, rfl, rfl, by omega, by omega, N9⟩
            case measure => simp [intOf]; omega
      · rw [show ((1 : Nat) : Int) = 1 from rfl]
        by_cases hb : s[j] = 39
        · have hk : blkQ s[j] = false := by rw [hb]; decide
          have cb := CB.out
          rw [hk] at cb
          have CB2 := Lib.hid cb
          clear cb hk
          have e1 : (((s[j]).toNat : Int) == 39) = true := by rw [hb]; rfl
          have HQ := Lib.hid (show stpQ ⟨1, W, txL O⟩ s[j] = ⟨2, W, txL O⟩ by simp [stpQ, stpO, hb, show blkQ 39 = false from by decide])
          have N9 := Lib.hid (HSS.out 2 HQ.out)
          clear hb hst
          go_wp2_with (go_at_call 20; (with_reducible refine (CB2.out _).mono ?_); rintro e w3 ⟨rfl, rfl⟩)
          go_roundw
          case rel => exact ⟨j + 1, 2, W, O, va, vc, vb, vd, by omega, by go_num, rfl, by omega, rfl, rfl, by omega, by omega, N9⟩
          case measure => simp [intOf]; omega
        · cases hk : blkQ s[j]
          · have e1 : (((s[j]).toNat : Int) == 39) = false := by
              simp only [beq_eq_false_iff_ne, ne_eq]
              intro h
              exact hb (UInt8.toNat_inj.1 (by show (s[j]).toNat = 39; omega))
            have cb := CB.out
            rw [hk] at cb
            have CB2 := Lib.hid cb
            clear cb
            have HQ := Lib.hid (show stpQ ⟨1, W, txL O⟩ s[j] = ⟨1, W ++ [s[j]], txL O⟩ by simp [stpQ, stpO, hb, hk])
            have HL2 := Lib.hid (show (W ++ [s[j]]).length = W.length + 1 by simp)
            clear hb hk hst
            go_wp2_with (first | (go_at_call 20; (with_reducible refine (CB2.out _).mono ?_); rintro e w3 ⟨rfl, rfl⟩) | (at_builtin; refine wpList_append_own _ rfl _ _ 46 rfl base 5 ib _ 1 1 Tryd.underlying46 IB.out ZB0.out ZB1.out ZB2.out rfl (by decide) _ _ _ rfl (hI.out.b.alloc _) ⟨_, 0, none⟩ 1 1 [.int .u8 ↑(s[j]).toNat] rfl rfl (by_new _ _ _ _ (by simp)) (by_one _) (by unfold maxLen; omega) (by omega) (by have := hI.out.g.size; have := HBL.out; simp; omega) ?_; intro v9 w9 hown9 hgrow9 _; have N9 := Lib.hid (HA.out s[j] w9 v9 1 HQ.out hgrow9 hown9); clear hown9 hgrow9))
            obtain ⟨vb9, vd9, rfl⟩ := tx_shape N9.out.b
            go_wp2
            go_roundw
            case rel => exact ⟨j + 1, 1, W ++ [s[j]], O, va, vc, vb9, vd9, by omega, by go_num, rfl, by omega, rfl, by rw [HL2.out], by rw [HL2.out]; omega, by omega, N9⟩
            case measure => simp [intOf]; omega
          · have e1 : (((s[j]).toNat : Int) == 39) = false := by
              simp only [beq_eq_false_iff_ne, ne_eq]
              intro h
              exact hb (UInt8.toNat_inj.1 (by show (s[j]).toNat = 39; omega))
            have cb := CB.out
            rw [hk] at cb
            have CB2 := Lib.hid cb
            clear cb
            have HQ := Lib.hid (show stpQ ⟨1, W, txL O⟩ s[j] = ⟨0, [], txL O ++ [W]⟩ by simp [stpQ, stpO, hk])
            have HL2 := Lib.hid (show (O ++ [tt]).length = O.length + 1 by simp)
            clear hb hk hst
            go_wp2_with (first | (go_at_call 20; (with_reducible refine (CB2.out _).mono ?_); rintro e w3 ⟨rfl, rfl⟩) | (at_builtin; refine wpList_append_own _ rfl _ _ 23 rfl base 9 iu _ 1 16 Tryd.underlying23 IU.out ZU0.out ZU1.out ZU2.out rfl (by decide) _ _ _ rfl (hI.out.o.alloc _) ⟨_, 0, none⟩ 1 1 [.string tt] rfl rfl (tx_new _ _ _ _ (by simp)) (tx_one _) (by unfold maxLen; omega) (by omega) (by have := hI.out.g.size; have := HBL.out; simp; omega) ?_; intro v9 w9 hown9 hgrow9 _; have N9 := Lib.hid (HF.out w9 v9 HQ.out hgrow9 hown9); clear hown9 hgrow9))
            obtain ⟨va9, vc9, rfl⟩ := tx_shape N9.out.o
            go_wp2
            go_roundw
            case rel => exact ⟨j + 1, 0, [], O ++ [tt], va9, vc9, _, _, by omega, by go_num, rfl, by omega, by rw [HL2.out], rfl, Nat.zero_le _, by rw [HL2.out]; omega, N9⟩
            case measure => simp [intOf]; omega
      · rw [show ((2 : Nat) : Int) = 2 from rfl]
        by_cases hb : s[j] = 39
        · have hk : blkQ s[j] = false := by rw [hb]; decide
          have cb := CB.out
          rw [hk] at cb
          have CB2 := Lib.hid cb
          clear cb hk
          have e1 : (((s[j]).toNat : Int) == 39) = true := by rw [hb]; rfl
          have HQ := Lib.hid (show stpQ ⟨2, W, txL O⟩ s[j] = ⟨3, W, txL O⟩ by simp [stpQ, hb])
          have N9 := Lib.hid (HSS.out 3 HQ.out)
          clear hb hst
          go_wp2_with (go_at_call 20; (with_reducible refine (CB2.out _).mono ?_); rintro e w3 ⟨rfl, rfl⟩)
          go_roundw
          case rel => exact ⟨j + 1, 3, W, O, va, vc, vb, vd, by omega, by go_num, rfl, by omega, rfl, rfl, by omega, by omega, N9⟩
          case measure => simp [intOf]; omega
        · cases hk : blkQ s[j]
          · have e1 : (((s[j]).toNat : Int) == 39) = false := by
              simp only [beq_eq_false_iff_ne, ne_eq]
              intro h
              exact hb (UInt8.toNat_inj.1 (by show (s[j]).toNat = 39; omega))
            have cb := CB.out
            rw [hk] at cb
            have CB2 := Lib.hid cb
            clear cb
            have HQ := Lib.hid (show stpQ ⟨2, W, txL O⟩ s[j] = ⟨2, W ++ [s[j]], txL O⟩ by simp [stpQ, hb])
            have HL2 := Lib.hid (show (W ++ [s[j]]).length = W.length + 1 by simp)
            clear hb hk hst
            go_wp2_with (first | (go_at_call 20; (with_reducible refine (CB2.out _).mono ?_); rintro e w3 ⟨rfl, rfl⟩) | (at_builtin; refine wpList_append_own _ rfl _ _ 46 rfl base 5 ib _ 1 1 Tryd.underlying46 IB.out ZB0.out ZB1.out ZB2.out rfl (by decide) _ _ _ rfl (hI.out.b.alloc _) ⟨_, 0, none⟩ 1 1 [.int .u8 ↑(s[j]).toNat] rfl rfl (by_new _ _ _ _ (by simp)) (by_one _) (by unfold maxLen; omega) (by omega) (by have := hI.out.g.size; have := HBL.out; simp; omega) ?_; intro v9 w9 hown9 hgrow9 _; have N9 := Lib.hid (HA.out s[j] w9 v9 2 HQ.out hgrow9 hown9); clear hown9 hgrow9))
            obtain ⟨vb9, vd9, rfl⟩ := tx_shape N9.out.b
            go_wp2
            go_roundw
            case rel => exact ⟨j + 1, 2, W ++ [s[j]], O, va, vc, vb9, vd9, by omega, by go_num, rfl, by omega, rfl, by rw [HL2.out], by rw [HL2.out]; omega, by omega, N9⟩
            case measure => simp [intOf]; omega
          · have e1 : (((s[j]).toNat : Int) == 39) = false := by
              simp only [beq_eq_false_iff_ne, ne_eq]
              intro h
              exact hb (UInt8.toNat_inj.1 (by show (s[j]).toNat = 39; omega))
            have cb := CB.out
            rw [hk] at cb
            have CB2 := Lib.hid cb
            clear cb
            have HQ := Lib.hid (show stpQ ⟨2, W, txL O⟩ s[j] = ⟨2, W ++ [s[j]], txL O⟩ by simp [stpQ, hb])
            have HL2 := Lib.hid (show (W ++ [s[j]]).length = W.length + 1 by simp)
            clear hb hk hst
            go_wp2_with (first | (go_at_call 20; (with_reducible refine (CB2.out _).mono ?_); rintro e w3 ⟨rfl, rfl⟩) | (at_builtin; refine wpList_append_own _ rfl _ _ 46 rfl base 5 ib _ 1 1 Tryd.underlying46 IB.out ZB0.out ZB1.out ZB2.out rfl (by decide) _ _ _ rfl (hI.out.b.alloc _) ⟨_, 0, none⟩ 1 1 [.int .u8 ↑(s[j]).toNat] rfl rfl (by_new _ _ _ _ (by simp)) (by_one _) (by unfold maxLen; omega) (by omega) (by have := hI.out.g.size; have := HBL.out; simp; omega) ?_; intro v9 w9 hown9 hgrow9 _; have N9 := Lib.hid (HA.out s[j] w9 v9 2 HQ.out hgrow9 hown9); clear hown9 hgrow9))
            obtain ⟨vb9, vd9, rfl⟩ := tx_shape N9.out.b
            go_wp2
            go_roundw
            case rel => exact ⟨j + 1, 2, W ++ [s[j]], O, va, vc, vb9, vd9, by omega, by go_num, rfl, by omega, rfl, by rw [HL2.out], by rw [HL2.out]; omega, by omega, N9⟩
            case measure => simp [intOf]; omega
      · rw [show ((3 : Nat) : Int) = 3 from rfl]
        by_cases hb : s[j] = 39
        · have hk : blkQ s[j] = false := by rw [hb]; decide
          have cb := CB.out
          rw [hk] at cb
          have CB2 := Lib.hid cb
          clear cb hk
          have e1 : (((s[j]).toNat : Int) == 39) = true := by rw [hb]; rfl
          have HQ := Lib.hid (show stpQ ⟨3, W, txL O⟩ s[j] = ⟨2, W ++ [39], txL O⟩ by simp [stpQ, hb])
          have HL2 := Lib.hid (show (W ++ [(39 : UInt8)]).length = W.length + 1 by simp)
          clear hb hst
          go_wp2_with (first | (go_at_call 20; (with_reducible refine (CB2.out _).mono ?_); rintro e w3 ⟨rfl, rfl⟩) | (at_builtin; refine wpList_append_own _ rfl _ _ 46 rfl base 5 ib _ 1 1 Tryd.underlying46 IB.out ZB0.out ZB1.out ZB2.out rfl (by decide) _ _ _ rfl (hI.out.b.alloc _) ⟨_, 0, none⟩ 1 1 [.int .u8 39] rfl rfl (by_new _ _ _ _ (by simp)) (by_one _) (by unfold maxLen; omega) (by omega) (by have := hI.out.g.size; have := HBL.out; simp; omega) ?_; intro v9 w9 hown9 hgrow9 _; have N9 := Lib.hid (HA.out 39 w9 v9 2 HQ.out hgrow9 hown9); clear hown9 hgrow9))
          obtain ⟨vb9, vd9, rfl⟩ := tx_shape N9.out.b
          go_wp2
          go_roundw
          case rel => exact ⟨j + 1, 2, W ++ [39], O, va, vc, vb9, vd9, by omega, by go_num, rfl, by omega, rfl, by rw [HL2.out], by rw [HL2.out]; omega, by omega, N9⟩
          case measure => simp [intOf]; omega
        · cases hk : blkQ s[j]
          · have e1 : (((s[j]).toNat : Int) == 39) = false := by
              simp only [beq_eq_false_iff_ne, ne_eq]
              intro h
              exact hb (UInt8.toNat_inj.1 (by show (s[j]).toNat = 39; omega))
            have cb := CB.out
            rw [hk] at cb
            have CB2 := Lib.hid cb
            clear cb
            have HQ := Lib.hid (show stpQ ⟨3, W, txL O⟩ s[j] = ⟨1, W ++ [s[j]], txL O⟩ by simp [stpQ, stpO, hb, hk])
            have HL2 := Lib.hid (show (W ++ [s[j]]).length = W.length + 1 by simp)
            clear hb hk hst
            go_wp2_with (first | (go_at_call 20; (with_reducible refine (CB2.out _).mono ?_); rintro e w3 ⟨rfl, rfl⟩) | (at_builtin; refine wpList_append_own _ rfl _ _ 46 rfl base 5 ib _ 1 1 Tryd.underlying46 IB.out ZB0.out ZB1.out ZB2.out rfl (by decide) _ _ _ rfl (hI.out.b.alloc _) ⟨_, 0, none⟩ 1 1 [.int .u8 ↑(s[j]).toNat] rfl rfl (by_new _ _ _ _ (by simp)) (by_one _) (by unfold maxLen; omega) (by omega) (by have := hI.out.g.size; have := HBL.out; simp; omega) ?_; intro v9 w9 hown9 hgrow9 _; have N9 := Lib.hid (HA.out s[j] w9 v9 1 HQ.out hgrow9 hown9); clear hown9 hgrow9))
            obtain ⟨vb9, vd9, rfl⟩ := tx_shape N9.out.b
            go_wp2
            go_roundw
            case rel => exact ⟨j + 1, 1, W ++ [s[j]], O, va, vc, vb9, vd9, by omega, by go_num, rfl, by omega, rfl, by rw [HL2.out], by rw [HL2.out]; omega, by omega, N9⟩
            case measure => simp [intOf]; omega
          · have e1 : (((s[j]).toNat : Int) == 39) = false := by
              simp only [beq_eq_false_iff_ne, ne_eq]
              intro h
              exact hb (UInt8.toNat_inj.1 (by show (s[j]).toNat = 39; omega))
            have cb := CB.out
            rw [hk] at cb
            have CB2 := Lib.hid cb
            clear cb
            have HQ := Lib.hid (show stpQ ⟨3, W, txL O⟩ s[j] = ⟨0, [], txL O ++ [W]⟩ by simp [stpQ, stpO, hb, hk])
            have HL2 := Lib.hid (show (O ++ [tt]).length = O.length + 1 by simp)
            clear hb hk hst
            go_wp2_with (first | (go_at_call 20; (with_reducible refine (CB2.out _).mono ?_); rintro e w3 ⟨rfl, rfl⟩) | (at_builtin; refine wpList_append_own _ rfl _ _ 23 rfl base 9 iu _ 1 16 Tryd.underlying23 IU.out ZU0.out ZU1.out ZU2.out rfl (by decide) _ _ _ rfl (hI.out.o.alloc _) ⟨_, 0, none⟩ 1 1 [.string tt] rfl rfl (tx_new _ _ _ _ (by simp)) (tx_one _) (by unfold maxLen; omega) (by omega) (by have := hI.out.g.size; have := HBL.out; simp; omega) ?_; intro v9 w9 hown9 hgrow9 _; have N9 := Lib.hid (HF.out w9 v9 HQ.out hgrow9 hown9); clear hown9 hgrow9))
            obtain ⟨va9, vc9, rfl⟩ := tx_shape N9.out.o
            go_wp2
            go_roundw
            case rel => exact ⟨j + 1, 0, [], O ++ [tt], va9, vc9, _, _, by omega, by go_num, rfl, by omega, by rw [HL2.out], rfl, Nat.zero_le _, by rw [HL2.out]; omega, N9⟩
            case measure => simp [intOf]; omega
    · obtain rfl : j = s.size := by omega
      have HQ := Lib.hid (show runQ ⟨0, [], []⟩ s.data.toList = ⟨st, W, txL O⟩ by have := hI.out.q; rwa [List.take_of_length_le (by simp)] at this)
      obtain ⟨tt, htt, hT⟩ := conv_row hI.out.b
      have HT := Lib.hid hT
      clear hT
      have hcs : st = 2 ∨ st = 0 ∨ (st ≠ 2 ∧ st ≠ 0 ∧ (((st : Int) == 2) = false ∧ ((st : Int) != 0) = true)) := by
        have : st = 0 ∨ st = 1 ∨ st = 2 ∨ st = 3 := by omega
        rcases this with rfl | rfl | rfl | rfl <;> simp
      rcases hcs with rfl | rfl | ⟨h2, h0, e2, e0⟩
      · go_wp2
        go_ret2
        exact spl_none (by rw [HQ.out]) hI.out.g
      · go_wp2
        go_ret2
        exact spl_some HQ.out (by simp) (by simp) (HBL.out ▸ hI.out.o) hI.out.g
      · have H2 := Lib.hid h2; have H0 := Lib.hid h0
        clear h2 h0
        go_wp2_with (at_builtin; refine wpList_append_own _ rfl _ _ 23 rfl base 9 iu _ 1 16 Tryd.underlying23 IU.out ZU0.out ZU1.out ZU2.out rfl (by decide) _ _ _ rfl (hI.out.o.alloc _) ⟨_, 0, none⟩ 1 1 [.string tt] rfl rfl (tx_new _ _ _ _ (by simp)) (tx_one _) (by unfold maxLen; omega) (by omega) (by have := hI.out.g.size; have := HBL.out; simp; omega) ?_; intro v9 w9 hown9 hgrow9 _; have G9 := Lib.hid ((hI.out.g.trans (World.grownBy_alloc _ _ _)).andThen hgrow9 (fun k hk => .inl (by have := (hI.out.o.lt k hk).1; have := HBL.out; omega))); have O9 := Lib.hid hown9; clear hown9 hgrow9)
        go_ret2
        exact spl_some (O := O ++ [tt]) HQ.out H2.out (by rw [if_neg H0.out]; simp [txL, HT.out]) (by rw [HBL.out, txV, List.map_append, List.length_append]; exact O9.out) G9.out
end Go.Proofs.YtolapbhmfljicaaDoor

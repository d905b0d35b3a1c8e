/- Package env: those, List, Shown. -/
import Derived.Test.YtaihpgjimhifcaaDoorEvGet
import Derived.Test.YtaihpgjimhifcaaDoorIter
namespace Go.Proofs.YtaihpgjimhifcaaDoor
open Go.RowKit Go.Maps Go.Sort Go.Shelf

theorem strKeysZ (l : List Vz) : strKeys (toZ l) = l.map fun x => x.n.data.toList := by
  unfold toZ
  show (l.map entZ).map (fun p => strOf p.1) = _
  rw [List.map_map]; rfl
theorem sortedZ {l : List Vz} (h : RisZ l) : (l.map fun x => x.n.data.toList).mergeSort leB = l.map fun x => x.n.data.toList := by
  refine List.mergeSort_of_pairwise ?_
  rw [List.pairwise_map]
  exact h.imp fun hab => decide_eq_true (List.le_of_lt hab)
theorem namesZ (l : List Vz) : (l.map fun x => x.n.data.toList).map encStr = txV (l.map Vz.n) := by
  unfold txV
  rw [List.map_map, List.map_map]
  refine List.map_congr_left fun f _ => ?_
  simp [encStr]
/-- the names, rising -/
def PNms (Z : List Vz) (w : World) (e : Ending) (w' : World) : Prop := ∃ a c, e = .returned (.slice a Z.length c) ∧ TxRow w' (.slice a Z.length c) (Z.map Vz.n) ∧ w.grownBy w' none
theorem pKeys (m : Option Nat) (w : World) : Calls Tryd.prog 46 #[.map m] w fun e w' => e = .returned (.func (.func 50) #[] #[.pointer (some ⟨w.heap.size, 0, none⟩)]) ∧ w' = w.alloc (.cells #[.map m] 54) :=
  (callsIn_wide (n := 5)).1 (Tryd.maps_Keys_46 m w)
theorem pSorted (b : Nat) (Z : List Vz) (w : World) (h : MapV w b Z) (hn : Z.length ≤ 24) :
    Calls Tryd.prog 45 #[.func (.func 50) #[] #[.pointer (some ⟨w.heap.size, 0, none⟩)]] (w.alloc (.cells #[.map (some b)] 54)) (PNms Z w) := by
  have hmax : Maps.size (toZ Z) ≤ maxLen := by rw [toZ_size]; unfold maxLen; omega
  have hbytes : Maps.size (toZ Z) * 16 ≤ 140737488355328 := by rw [toZ_size]; omega
  refine ((callsIn_wide (n := 5)).1 (Tryd.slices_Sorted_keys_45_46 b _ _ hElem w h hmax hbytes)).mono ?_
  rintro e w' ⟨v, ss, rfl, hS, hrow, -, hb⟩
  have hlen : ss.length = Z.length := by rw [hS.length_eq, strKeysZ]; simp
  have hsort : (ss.mergeSort leB).map encStr = txV (Z.map Vz.n) := by rw [mergeSort_of_perm hS, strKeysZ, sortedZ h.ris, namesZ]
  have hrow2 : w'.ownsRow (w.alloc (.cells #[.map (some b)] 54)).heap.size 9 1 v Z.length (txV (Z.map Vz.n)) := by
    rw [← hlen, ← hsort]; exact hrow
  have ht := tx_row hrow2 (by simp) (by omega)
  obtain ⟨a, c, rfl, -⟩ := id ht
  simp only [List.length_map] at ht ⊢
  exact ⟨a, c, rfl, ht, (World.grownBy_alloc _ _ _).trans (grown_of_below hb)⟩
theorem infoVE : (Tryd.prog.info? 33).map (fun i => (i.zero, i.size, i.bytes)) = some (some (.agg #[.string ⟨#[]⟩, .slice none 0 0, .int .i64 0, .bool false]), 4, 56) := by kernel_rfl
theorem got_self {Z : List Vz} (h : OkZ Z) {j : Nat} {x : Vz} (hx : Z[j]? = some x) : gotZ Z x.n = x := by
  unfold gotZ
  obtain ⟨hj, e⟩ := List.getElem?_eq_some_iff.1 hx
  have hf : Z.find? (fun y => decide (y.n = x.n)) = some x := List.find?_eq_some_iff_getElem.2 ⟨by simp, j, hj, e, fun i hi => by
    have := List.pairwise_iff_getElem.1 h.1 i j (by omega) hj hi
    rw [e] at this
    simpa using this⟩
  rw [hf]; rfl
theorem vbf_no {f : Bool → Bool} {O l : List Vz} {x : Vz} (h : vbL O = (vbL l).filter fun y => f y.hd) (hf : f x.hd = false) : vbL O = (vbL (l ++ [x])).filter fun y => f y.hd := by
  have e : vbL (l ++ [x]) = vbL l ++ [x.b] := by simp
  rw [e, List.filter_append, ← h, List.filter_cons_of_neg (by show ¬f x.hd = true; rw [hf]; simp)]; simp
theorem vbf_yes {f : Bool → Bool} {O l : List Vz} {x y : Vz} (h : vbL O = (vbL l).filter fun y => f y.hd) (hf : f x.hd = true) (hy : y.b = x.b) : vbL (O ++ [y]) = (vbL (l ++ [x])).filter fun y => f y.hd := by
  have e : vbL (l ++ [x]) = vbL l ++ [x.b] := by simp
  have e2 : vbL (O ++ [y]) = vbL O ++ [y.b] := by simp
  rw [e, e2, List.filter_append, ← h, List.filter_cons_of_pos (by show f x.hd = true; exact hf), hy]; simp
/-- variables in a row of their own -/
def PThs (l : List Vb) (w : World) (e : Ending) (w' : World) : Prop := w.grownBy w' none ∧ ∃ v O, e = .returned v ∧ VRow w' (fun b => w.heap.size ≤ b) v O ∧ vbL O = l
set_option maxRecDepth 100000 in
set_option maxHeartbeats 4000000 in
theorem pThose (fn : Nat) (hent : ∀ args w, (callFunc fn args).run Tryd.prog w = .ok (.enter fn args) w) (f : Bool → Bool)
    (hA : ∀ (n : ByteArray) (a : Option Addr) (m c : Nat) (lv : Int) (hd : Bool) (W : World), Calls Tryd.prog fn #[.agg #[.string n, .slice a m c, .int .i64 lv, .bool hd]] W fun e W' => e = .returned (.bool (f hd)) ∧ W.grownBy W' none)
    (p b : Nat) (F : Nat → Prop) (Z : List Vz) (w : World) (h : EvZ w p b F Z) :
    Calls Tryd.prog 36 #[.pointer (some ⟨p, 0, none⟩), .func (.func fn) #[] #[]] w (PThs ((vbL Z).filter fun x => f x.hd) w) := by
  have HH := Lib.hid h; have HA := Lib.hid hA
  have hc := h.c
  have CK := Lib.hid (pKeys (some b) w)
  have CS := Lib.hid (pSorted b Z w h.m h.n)
  obtain ⟨iu, hiu, hu0, hu1, hu2⟩ := info_parts infoVE
  have IU := Lib.hid hiu; have ZU0 := Lib.hid hu0; have ZU1 := Lib.hid hu1; have ZU2 := Lib.hid hu2
  have H24 := h.n
  clear hiu hu0 hu1 hu2 h hA
  go_enter Tryd.func36, Tryd.ntmps36
  go_wp2_with (first
    | (go_at_call 34; refine (pAll p b _ hc).mono ?_; rintro e w' ⟨rfl, rfl⟩)
    | (go_at_call 46; (with_reducible refine (CK.out).mono ?_); rintro e w' ⟨rfl, rfl⟩)
    | (go_at_call 45; (with_reducible refine (CS.out).mono ?_); rintro e w1 ⟨na, nc, rfl, hnm, g1⟩; have NM := Lib.hid hnm; have G1 := Lib.hid g1; clear hnm g1))
  clear hc
  obtain ⟨base, hbase⟩ : ∃ base, w1.heap.size = base := ⟨_, rfl⟩
  have HBS := Lib.hid hbase
  clear hbase
  go_loopw [5, 14] (fun o i wr => ∃ (j : Nat) (O : List Vz) (ua : Option Addr) (uc : Nat), j ≤ Z.length ∧ i = .int .i64 j ∧ o = .slice ua O.length uc ∧ O.length ≤ j ∧ Hid (vbL O = (vbL (Z.take j)).filter (fun x => f x.hd)) ∧ Hid (∀ x ∈ O, WdG wr w.heap.size x.u x.ws) ∧ Hid (wr.ownsRow base 33 4 (.slice ua O.length uc) O.length (vzV O)) ∧ Hid (w1.grownBy wr none)) (fun _ i _ => Z.length - (intOf i).toNat)
  case atStart => exact ⟨0, [], _, _, Nat.zero_le _, rfl, rfl, Nat.le_refl _, Lib.hid rfl, Lib.hid (by simp), Lib.hid ⟨rfl, .inl ⟨rfl, rfl⟩⟩, Lib.hid (World.grownBy.refl _ _)⟩
  case round =>
    obtain ⟨j, O, ua, uc, hj, rfl, rfl, hol, hO, hOT, hR, hG⟩ := hrel
    by_cases hlt : j < Z.length
    · obtain ⟨x, hx⟩ : ∃ x, Z[j]? = some x := ⟨_, List.getElem?_eq_getElem hlt⟩
      obtain ⟨na', nc', ev, -, hr⟩ := NM.out.later (below_of_grown hG.out)
      obtain ⟨b2, off2, ea, hb2, hc2⟩ := hr (by intro e; have := congrArg List.length e; rw [List.length_map] at this; rw [this] at hlt; exact absurd hlt (Nat.not_lt_zero _))
      have c0 := hc2 j x.n (by rw [List.getElem?_map, hx]; rfl)
      injection ev with ev1 ev2 ev3
      subst ev1 ev3 ea
      have HW := HH.out.grown (G1.out.trans hG.out)
      have hmem := List.mem_of_getElem? hx
      have hxt := (HW.t x hmem).1
      have hxs := (HW.s x hmem).2
      have hl := HW.m.look (s := x.n) (by have := (HW.s x hmem).1; unfold maxLen; omega)
      rw [got_self HW.okz hx] at hl
      have HT := Lib.hid (show Z.take (j + 1) = Z.take j ++ [x] by rw [List.take_add_one, hx]; rfl)
      obtain ⟨n, ws, lv, hd, u⟩ := x
      obtain ⟨xa, xc, eu, -⟩ := id hxt
      simp only at eu hxt hxs hl c0
      subst eu
      have hcw := HW.c
      have g6 := World.grownBy_alloc wr (.cells #[.string n, .slice xa ws.length xc, .int .i64 lv, .bool hd] 33) none
      have b6 := heap_alloc_new wr (.cells #[.string n, .slice xa ws.length xc, .int .i64 lv, .bool hd] 33)
      have TX := Lib.hid (hxt.later (below_of_grown g6))
      have HS := Lib.hid hxs
      clear hx hr hc2 hb2 ev2 HW hmem hxt hxs
      go_upto_region 6 with (go_at_call 34; refine (pAll p b _ hcw).mono ?_; rintro e w' ⟨rfl, rfl⟩)
      generalize wr.alloc (.cells #[.string n, .slice xa ws.length xc, .int .i64 lv, .bool hd] 33) = w6 at g6 b6 TX ⊢
      generalize wr.heap.size = xb at b6 ⊢
      have B6 := Lib.hid b6
      have G6 := Lib.hid (hG.out.trans g6)
      have R6 := Lib.hid (ownV_kept hR.out g6)
      have OT6 := Lib.hid (show ∀ x ∈ O, WdG w6 w.heap.size x.u x.ws from fun x hx => (hOT.out x hx).grown g6)
      clear g6 b6 hG hR hOT c0 hl hcw
      obtain ⟨d0, d1, d2, d3⟩ := four_vx B6.out
      cases hf : f hd
      · have CA := Lib.hid (hf ▸ HA.out n xa ws.length xc lv hd w6)
        have HN := Lib.hid (show vbL O = (vbL (Z.take (j + 1))).filter (fun x => f x.hd) by rw [HT.out]; exact vbf_no hO.out hf)
        clear hf hO
        go_wp2_with (refine (CA.out).mono ?_; rintro e w7 ⟨rfl, g7⟩; have G7 := Lib.hid (G6.out.trans g7); have R7 := Lib.hid (ownV_kept R6.out g7); have OT7 := Lib.hid (show ∀ x ∈ O, WdG w7 w.heap.size x.u x.ws from fun x hx => (OT6.out x hx).grown g7); clear g7)
        go_roundw
        case rel => exact ⟨j + 1, O, ua, uc, hlt, by go_num, rfl, by omega, HN, OT7, R7, G7⟩
        case measure => simp [intOf]; omega
      · have CA := Lib.hid (hf ▸ HA.out n xa ws.length xc lv hd w6)
        have HF := Lib.hid hf
        clear hf
        go_upto_region 7 with (refine (CA.out).mono ?_; rintro e w7 ⟨rfl, g7⟩; have G7 := Lib.hid (G6.out.trans g7); have R7 := Lib.hid (ownV_kept R6.out g7); have OT7 := Lib.hid (show ∀ x ∈ O, WdG w7 w.heap.size x.u x.ws from fun x hx => (OT6.out x hx).grown g7); have T7 := Lib.hid (TX.out.later (below_of_grown g7)); have B7 := Lib.hid (heap_grown g7 B6.out); clear g7 d0 d1 d2 d3; obtain ⟨d0, d1, d2, d3⟩ := four_vx B7.out)
        go_wp2_with (first
          | (go_at_call 33; (with_reducible refine (pApart n ws lv hd xa xc _ T7.out HS.out).mono ?_); rintro e w9 ⟨a', c', rfl, ht, g9⟩; have T9 := Lib.hid (WdG.old ht (G1.out.trans G7.out).size); have G9 := Lib.hid (G7.out.trans g9); have R9 := Lib.hid (ownV_kept R7.out g9); have OT9 := Lib.hid (show ∀ x ∈ O, WdG w9 w.heap.size x.u x.ws from fun x hx => (OT7.out x hx).grown g9); clear ht g9 d0 d1 d2 d3)
          | (at_builtin; refine wpList_append_own _ rfl _ _ 57 rfl base 33 iu _ 4 56 Tryd.underlying57 IU.out ZU0.out ZU1.out ZU2.out rfl (by decide) _ _ _ rfl (R9.out.alloc _) ⟨_, 0, none⟩ 1 1 [.string n, .slice a' ws.length c', .int .i64 lv, .bool hd] rfl rfl (vz_new _ ⟨n, ws, lv, hd, .slice a' ws.length c'⟩ _ _ (by simp)) (vz_one ⟨n, ws, lv, hd, .slice a' ws.length c'⟩ rfl) (by unfold maxLen; omega) (by omega) (by have := G9.out.size; have := HBS.out; simp; omega) ?_; intro v10 w10 hown hgrow _; have W10 := Lib.hid (show ∀ y : Vz, WdG w9 w.heap.size y.u y.ws → WdG w10 w.heap.size y.u y.ws from fun y hy => (hy.grown (World.grownBy_alloc _ _ none)).move hgrow (str_row (R9.out.alloc _))); have G10 := Lib.hid ((G9.out.trans (World.grownBy_alloc _ _ _)).andThen hgrow (fun k hk => .inl (by have := (R9.out.lt k hk).1; have := HBS.out; omega))); have O10 := Lib.hid hown; clear hown hgrow))
        obtain ⟨va9, vc9, rfl⟩ := tx_shape O10.out
        have HL2 := Lib.hid (show (O ++ [(⟨n, ws, lv, hd, .slice a' ws.length c'⟩ : Vz)]).length = O.length + 1 by simp)
        have OA := Lib.hid (show w10.ownsRow base 33 4 (.slice va9 (O ++ [(⟨n, ws, lv, hd, .slice a' ws.length c'⟩ : Vz)]).length vc9) (O ++ [(⟨n, ws, lv, hd, .slice a' ws.length c'⟩ : Vz)]).length (vzV (O ++ [⟨n, ws, lv, hd, .slice a' ws.length c'⟩])) by rw [HL2.out, vzV_snoc]; exact O10.out)
        have HN := Lib.hid (show vbL (O ++ [(⟨n, ws, lv, hd, .slice a' ws.length c'⟩ : Vz)]) = (vbL (Z.take (j + 1))).filter (fun x => f x.hd) by rw [HT.out]; exact vbf_yes hO.out HF.out rfl)
        have OT := Lib.hid (show ∀ x ∈ O ++ [(⟨n, ws, lv, hd, .slice a' ws.length c'⟩ : Vz)], WdG w10 w.heap.size x.u x.ws from fun x hx => W10.out x (by
          rcases List.mem_append.1 hx with hx | hx
          · exact OT9.out x hx
          · rw [List.mem_singleton] at hx; subst hx; exact T9.out))
        clear O10 hO W10
        go_wp2
        go_roundw
        case rel => exact ⟨j + 1, O ++ [(⟨n, ws, lv, hd, .slice a' ws.length c'⟩ : Vz)], va9, vc9, hlt, by go_num, by rw [HL2.out], by rw [HL2.out]; omega, HN, OT, OA, G10⟩
        case measure => simp [intOf]; omega
    · obtain rfl : j = Z.length := by omega
      go_wp2
      go_ret
      refine ⟨G1.out.trans hG.out, _, O, rfl, vz_row hR.out rfl (by omega) (fun k hk _ => by have := HBS.out; have := G1.out.size; omega) (fun x hx => (hOT.out x hx).tx), ?_⟩
      have := hO.out
      rwa [List.take_length] at this

set_option maxHeartbeats 1000000 in
theorem pAny1 (n : ByteArray) (a : Option Addr) (m c : Nat) (lv : Int) (hd : Bool) (w : World) :
    Calls Tryd.prog 37 #[.agg #[.string n, .slice a m c, .int .i64 lv, .bool hd]] w fun e w' => e = .returned (.bool true) ∧ w.grownBy w' none := by
  have G1 := Lib.hid (World.grownBy_alloc w (.cells #[.string n, .slice a m c, .int .i64 lv, .bool hd] 33) none)
  go_enter Tryd.func37, Tryd.ntmps37
  go_wp2
  go_ret
  exact ⟨rfl, G1.out⟩
set_option maxHeartbeats 1000000 in
theorem pOpen1 (n : ByteArray) (a : Option Addr) (m c : Nat) (lv : Int) (hd : Bool) (w : World) :
    Calls Tryd.prog 44 #[.agg #[.string n, .slice a m c, .int .i64 lv, .bool hd]] w fun e w' => e = .returned (.bool (!hd)) ∧ w.grownBy w' none := by
  have G1 := Lib.hid (World.grownBy_alloc w (.cells #[.string n, .slice a m c, .int .i64 lv, .bool hd] 33) none)
  go_enter Tryd.func44, Tryd.ntmps44
  go_wp2
  go_ret
  exact ⟨rfl, G1.out⟩
set_option maxHeartbeats 1000000 in
theorem pList (p b : Nat) (F : Nat → Prop) (Z : List Vz) (w : World) (h : EvZ w p b F Z) : Calls Tryd.prog 26 #[.pointer (some ⟨p, 0, none⟩)] w (PThs (vbL Z) w) := by
  have e1 : ∀ args w, (callFunc 37 args).run Tryd.prog w = .ok (.enter 37 args) w := enters_of Tryd.func37 (by kernel_rfl) rfl
  have CT := Lib.hid (pThose 37 e1 (fun _ => true) pAny1 p b F Z w h)
  rw [show ((vbL Z).filter fun _ => true) = vbL Z from List.filter_eq_self.2 fun _ _ => rfl] at CT
  clear e1 h
  go_enter Tryd.func26, Tryd.ntmps26
  go_wp2_with (go_at_call 36; (with_reducible refine (CT.out).mono ?_); rintro e w3 ⟨g3, v, O, rfl, hr, ho⟩; have H3 := Lib.hid (show w.grownBy w3 none ∧ VRow w3 (fun b => w.heap.size ≤ b) v O ∧ vbL O = vbL Z from ⟨g3, hr, ho⟩); clear g3 hr ho)
  go_ret
  exact ⟨H3.out.1, v, O, rfl, H3.out.2.1, H3.out.2.2⟩
set_option maxHeartbeats 1000000 in
theorem pShown (p b : Nat) (F : Nat → Prop) (Z : List Vz) (w : World) (h : EvZ w p b F Z) : Calls Tryd.prog 35 #[.pointer (some ⟨p, 0, none⟩)] w (PThs ((vbL Z).filter fun x => !x.hd) w) := by
  have e1 : ∀ args w, (callFunc 44 args).run Tryd.prog w = .ok (.enter 44 args) w := enters_of Tryd.func44 (by kernel_rfl) rfl
  have CT := Lib.hid (pThose 44 e1 (fun h => !h) pOpen1 p b F Z w h)
  clear e1 h
  go_enter Tryd.func35, Tryd.ntmps35
  go_wp2_with (go_at_call 36; (with_reducible refine (CT.out).mono ?_); rintro e w3 ⟨g3, v, O, rfl, hr, ho⟩; have H3 := Lib.hid (show w.grownBy w3 none ∧ VRow w3 (fun b => w.heap.size ≤ b) v O ∧ vbL O = (vbL Z).filter fun x => !x.hd from ⟨g3, hr, ho⟩); clear g3 hr ho)
  go_ret
  exact ⟨H3.out.1, v, O, rfl, H3.out.2.1, H3.out.2.2⟩
end Go.Proofs.YtaihpgjimhifcaaDoor

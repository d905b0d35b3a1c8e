/- Whether an Env shows its model: the walk of the law's Shows. -/
import Derived.Test.YtaihpgjimhifcaaDoorLawEvS
import Derived.Test.YtaihpgjimhifcaaDoorEvSet
namespace Go.Proofs.YtaihpgjimhifcaaDoor
open Go.RowKit

abbrev AllG : Nat → Prop := fun _ => True
theorem vb_get {Z Z1 : List Vz} (h : vbL Z1 = vbL Z) {j : Nat} {x y : Vz} (hx : Z1[j]? = some x) (hy : Z[j]? = some y) : x.b = y.b := by
  have h1 : (vbL Z1)[j]? = some x.b := by rw [List.getElem?_map, hx]; rfl
  have h2 : (vbL Z)[j]? = some y.b := by rw [List.getElem?_map, hy]; rfl
  rw [h, h2] at h1
  exact (Option.some.inj h1).symm
theorem vb_len {Z Z1 : List Vz} (h : vbL Z1 = vbL Z) : Z1.length = Z.length := by have := congrArg List.length h; simpa using this
theorem vb_filter (Z : List Vz) : (vbL Z).filter (fun x => !x.hd) = vbL (Z.filter fun x => !x.hd) := by
  induction Z with
  | nil => rfl
  | cons a Z ih =>
    have e : a.b.hd = a.hd := rfl
    cases h : a.hd
    · rw [List.filter_cons_of_pos (by simp [h])]
      show List.filter _ (a.b :: vbL Z) = _
      rw [List.filter_cons_of_pos (by simp [e, h]), ih]; rfl
    · rw [List.filter_cons_of_neg (by simp [h])]
      show List.filter _ (a.b :: vbL Z) = _
      rw [List.filter_cons_of_neg (by simp [e, h]), ih]
set_option maxRecDepth 100000 in
set_option maxHeartbeats 8000000 in
theorem lShowsV {A : Nat → Addr} {E : World → Prop} {I : World → Nat → (Nat → Prop) → List Vb → Prop} (C : EvC A E I) (w : World) (p : Nat) (F G : Nat → Prop) (q : Nat) (uv : Value) (Z : List Vz) (hE : E w) (hI : I w p F (vbL Z)) (hq : w.cell? ⟨q, 0, none⟩ = some uv) (hZ : VRow w G uv Z) (hz : Z.length ≤ 60) :
    Calls Tryd.prog 24 #[.pointer (some ⟨p, 0, none⟩), .pointer (some ⟨q, 0, none⟩)] w fun e w' => e = .returned (.bool true) ∧ w.grownBy w' none := by
  obtain ⟨va, vc, rfl, hm⟩ := hZ.shape
  have HC := Lib.hid C; have HE := Lib.hid hE; have HI := Lib.hid hI; have HQ := Lib.hid hq
  have HZ := Lib.hid (hZ.more (G' := AllG) fun _ _ _ => trivial)
  have CL := Lib.hid (C.list w p F _ hE hI)
  obtain ⟨iu, hiu, hu0, hu1, hu2⟩ := info_parts infoVz
  have IU := Lib.hid hiu; have ZU0 := Lib.hid hu0; have ZU1 := Lib.hid hu1; have ZU2 := Lib.hid hu2
  clear hiu hu0 hu1 hu2 C hE hI hq hZ
  go_enter Tryd.func24, Tryd.ntmps24
  go_wp2_with fail
  refine CL.out.mono ?_
  rintro e w1 ⟨g1, v1, Z1, rfl, hZ1, hb1⟩
  obtain ⟨a1, c1, rfl, hm1⟩ := hZ1.shape
  have G1 := Lib.hid g1
  have R1 := Lib.hid (hZ1.more (G' := AllG) fun _ _ _ => trivial)
  have HB1 := Lib.hid hb1
  have hlen1 := vb_len hb1
  have HL1 := Lib.hid hlen1
  rw [hlen1] at R1 ⊢
  have hq1 := G1.out.cell HQ.out (by simp)
  have e0 : ((Z.length : Int) != (Z.length : Int)) = false := by simp
  clear hlen1
  have O5 := Lib.hid (ownV_zero w1 42 w1.heap.size (Nat.le_refl _))
  have G5 := Lib.hid (World.grownBy_alloc w1 (.cells #[] 42) none)
  clear g1 hZ1 hb1 CL
  go_upto_region 5 with fail
  generalize w1.alloc _ = w5 at O5 G5 ⊢
  obtain ⟨base, hbase⟩ : ∃ base, w1.heap.size = base := ⟨_, rfl⟩
  rw [hbase] at O5 ⊢
  have HBS := Lib.hid hbase
  clear hbase hq1 e0
  go_wp2
  go_loopw [6, 25] (fun o i wr => ∃ (j : Nat) (O : List Vz) (ua : Option Addr) (uc : Nat), j ≤ Z.length ∧ i = .int .i64 j ∧ o = .slice ua O.length uc ∧ O.length ≤ j ∧ Hid (O = (Z.take j).filter (fun y => !y.hd)) ∧ Hid (wr.ownsRow base 42 4 (.slice ua O.length uc) O.length (vzV O)) ∧ Hid (w1.grownBy wr none)) (fun _ i _ => Z.length - (intOf i).toNat)
  case atStart => exact ⟨0, [], _, _, Nat.zero_le _, rfl, rfl, Nat.le_refl _, Lib.hid rfl, O5, G5⟩
  case round =>
    obtain ⟨j, O, ua, uc, hj, rfl, rfl, hol, hO, hR, hG⟩ := hrel
    by_cases hlt2 : j < Z.length
    · have hlt : j < Z1.length := by rw [HL1.out]; exact hlt2
      obtain ⟨b2, off2, cp2, x, ev, hx, -, ht, c0, c1, c2, c3⟩ := (R1.out.keep (KeepG.grown hG.out)).at j hlt
      obtain ⟨b3, off3, cp3, y, ew, hy, -, hty, f0, f1, f2, f3⟩ := (HZ.out.keep (KeepG.grown (G1.out.trans hG.out))).at j hlt2
      injection ev with ev1 ev2 ev3
      clear ev2 hlt
      injection ew with ew1 ew2 ew3
      subst ev1 ev3 ew1 ew3
      have hxy := vb_get HB1.out hx hy
      obtain ⟨n, ws, lv, hd, u⟩ := x
      obtain ⟨n2, ws2, lv2, hd2, u2⟩ := y
      obtain ⟨xa, xc, hu, -⟩ := ht.shape
      obtain ⟨ya, yc, hu2, -⟩ := hty.shape
      simp only at hu hu2 c0 c1 c2 c3 f0 f1 f2 f3
      subst hu hu2
      simp only [Vz.b, Vb.mk.injEq] at hxy
      obtain ⟨rfl, rfl, rfl, rfl⟩ := hxy
      have HT := Lib.hid (show (Z.take (j + 1)) = Z.take j ++ [⟨n, ws, lv, hd, .slice ya ws.length yc⟩] by rw [List.take_add_one, hy]; rfl)
      have g6 := World.grownBy_alloc wr (.cells #[.string n, .slice xa ws.length xc, .int .i64 lv, .bool hd] 33) none
      have B6 := heap_alloc_new wr (.cells #[.string n, .slice xa ws.length xc, .int .i64 lv, .bool hd] 33)
      have G6 := Lib.hid (hG.out.trans g6)
      have R6 := Lib.hid (ownV_kept hR.out g6)
      have TX := Lib.hid (ht.1.later (below_of_grown g6)); have TY := Lib.hid (hty.1.later (below_of_grown g6))
      have hq6 := G6.out.cell (G1.out.cell HQ.out (by simp)) (by simp)
      have m0 := g6.cell f0 (by simp); have m1 := g6.cell f1 (by simp); have m2 := g6.cell f2 (by simp); have m3 := g6.cell f3 (by simp)
      clear hx hy ht hty hG hR f0 f1 f2 f3 g6
      go_upto_region 8 with fail
      generalize wr.alloc _ = wx at B6 G6 R6 TX TY hq6 m0 m1 m2 m3 ⊢
      generalize wr.heap.size = xb at B6 ⊢
      obtain ⟨d0, d1, d2, d3⟩ := four_vz B6
      have k0 : ∀ u : Gr wx, u.W.cell? ⟨xb, 0, none⟩ = some (.string n) := fun u => u.g.cell d0 (by simp)
      have k1 : ∀ u : Gr wx, u.W.cell? ⟨xb, 1, none⟩ = some (.slice xa ws.length xc) := fun u => u.g.cell d1 (by simp)
      have k2 : ∀ u : Gr wx, u.W.cell? ⟨xb, 2, none⟩ = some (.int .i64 lv) := fun u => u.g.cell d2 (by simp)
      have k3 : ∀ u : Gr wx, u.W.cell? ⟨xb, 3, none⟩ = some (.bool hd) := fun u => u.g.cell d3 (by simp)
      have kq : ∀ u : Gr wx, u.W.cell? ⟨q, 0, none⟩ = some (.slice (some ⟨b3, off3, none⟩) Z.length vc) := fun u => u.g.cell hq6 (by simp)
      have n0 : ∀ u : Gr wx, u.W.cell? ⟨b3, off3 + j * 4, none⟩ = some (.string n) := fun u => u.g.cell m0 (by simp)
      have n1 : ∀ u : Gr wx, u.W.cell? ⟨b3, off3 + j * 4 + 1, none⟩ = some (.slice ya ws.length yc) := fun u => u.g.cell m1 (by simp)
      have n3 : ∀ u : Gr wx, u.W.cell? ⟨b3, off3 + j * 4 + 2, none⟩ = some (.int .i64 lv) := fun u => u.g.cell m2 (by simp)
      have n4 : ∀ u : Gr wx, u.W.cell? ⟨b3, off3 + j * 4 + 3, none⟩ = some (.bool hd) := fun u => u.g.cell m3 (by simp)
      have CM := Lib.hid (fun u : Gr wx => dSameV ⟨n, ws, lv, hd, .slice xa ws.length xc⟩ ⟨n, ws, lv, hd, .slice ya ws.length yc⟩ u.W rfl (TX.out.later (below_of_grown u.g)) (TY.out.later (below_of_grown u.g)))
      have inst : Nonempty (Gr wx) := ⟨⟨wx, World.grownBy.refl _ _⟩⟩
      clear c0 c1 c2 c3
      refine wp_region_grows (by kernel_rfl) (by kernel_rfl) ?_
      repeat (go_big_quiet_step (first
        | (go_at_call 20; refine (CM.out _).mono ?_; rintro e w11 ⟨he, g11⟩; exact ⟨he, ⟨_, (Gr.g _).trans g11⟩, rfl⟩)))
      refine wpQuiet_nil ?_
      rintro _ ⟨⟨w9, gg⟩, rfl⟩
      clear k0 k1 k2 k3 kq n0 n1 n3 n4 m0 m1 m2 m3 CM inst
      have e0 := gg.cell d0 (by simp); have e1 := gg.cell d1 (by simp); have e2 := gg.cell d2 (by simp); have e3 := gg.cell d3 (by simp)
      have G9 := Lib.hid (G6.out.trans gg)
      have R9 := Lib.hid (ownV_kept R6.out gg)
      clear d0 d1 d2 d3 hq6
      cases hd
      · obtain ⟨b4, off4, cp4, y, ew, hy, -, hty, f0, f1, f2, f3⟩ := (HZ.out.keep (KeepG.grown (G1.out.trans G9.out))).at j hlt2
        have hy2 : Z.take (j + 1) = Z.take j ++ [y] := by rw [List.take_add_one, hy]; rfl
        have hyy : (⟨n, ws, lv, false, .slice ya ws.length yc⟩ : Vz) = y := by
          have := HT.out
          rw [hy2] at this
          exact (List.singleton_inj.1 (List.append_cancel_left this)).symm
        subst hyy
        injection ew with ew1 ew2 ew3
        injection ew1 with ew1
        injection ew1 with ew4 ew5 ew6
        subst ew4 ew5
        simp only at f0 f1 f2 f3
        have hq9 := G9.out.cell (G1.out.cell HQ.out (by simp)) (by simp)
        have HN := Lib.hid (show O ++ [⟨n, ws, lv, false, .slice ya ws.length yc⟩] = (Z.take (j + 1)).filter (fun y => !y.hd) by rw [HT.out, List.filter_append, ← hO.out]; simp)
        clear hO hy hy2 hty
        go_wp2_with (at_builtin; refine wpList_append_own _ rfl _ _ 28 rfl base 42 iu _ 4 56 Tryd.underlying28 IU.out ZU0.out ZU1.out ZU2.out rfl (by decide) _ _ _ rfl (R9.out.alloc _) ⟨_, 0, none⟩ 1 1 [.string n, .slice ya ws.length yc, .int .i64 lv, .bool false] rfl rfl (vz_new _ ⟨n, ws, lv, false, .slice ya ws.length yc⟩ _ _ (by simp)) (vz_one ⟨n, ws, lv, false, .slice ya ws.length yc⟩ rfl) (by unfold maxLen; omega) (by omega) (by have := G9.out.size; have := HBS.out; simp; omega) ?_; intro v10 w10 hown hgrow _; have G10 := Lib.hid ((G9.out.trans (World.grownBy_alloc _ _ _)).andThen hgrow (fun k hk => .inl (by have := (R9.out.lt k hk).1; have := HBS.out; omega))); have O10 := Lib.hid hown; clear hown hgrow)
        obtain ⟨va9, vc9, rfl⟩ := tx_shape O10.out
        have HL2 := Lib.hid (show (O ++ [(⟨n, ws, lv, false, .slice ya ws.length yc⟩ : Vz)]).length = O.length + 1 by simp)
        have OA := Lib.hid (show w10.ownsRow base 42 4 (.slice va9 (O ++ [(⟨n, ws, lv, false, .slice ya ws.length yc⟩ : Vz)]).length vc9) (O ++ [(⟨n, ws, lv, false, .slice ya ws.length yc⟩ : Vz)]).length (vzV (O ++ [⟨n, ws, lv, false, .slice ya ws.length yc⟩])) by rw [HL2.out, vzV_snoc]; exact O10.out)
        clear f0 f1 f2 f3 hq9 e0 e1 e2 e3 gg O10
        go_wp2
        go_roundw
        case rel => exact ⟨_, _, _, _, _, ⟨j + 1, hlt2, rfl, O ++ [(⟨n, ws, lv, false, .slice ya ws.length yc⟩ : Vz)], va9, vc9, rfl, by rw [HL2.out]; omega, HN, OA⟩, rfl, by rw [HL2.out], rfl, rfl, rfl⟩
        case measure => simp [intOf]; omega
      · have HN := Lib.hid (show O = (Z.take (j + 1)).filter (fun y => !y.hd) by rw [HT.out, List.filter_append, ← hO.out]; simp)
        clear hO
        go_wp2
        go_roundw
        case rel => exact ⟨j + 1, O, ua, uc, hlt2, by go_num, rfl, by omega, HN, R9, G9⟩
        case measure => simp [intOf]; omega
    · obtain rfl : j = Z.length := by omega
      have HO := Lib.hid (show O = Z.filter (fun y => !y.hd) by rw [hO.out, List.take_length])
      have G2 := Lib.hid (G1.out.trans hG.out)
      have CS := Lib.hid (HC.out.shown wr p F _ (HC.out.gr _ _ HE.out G2.out) (HC.out.keep _ _ _ _ _ HI.out (KeepG.grown G2.out)))
      have RO := Lib.hid (show VRow wr AllG (.slice ua O.length uc) O from vz_row hR.out rfl (by omega) (fun _ _ _ => trivial) (fun y hy => by
        rw [HO.out] at hy
        obtain ⟨_, _, _, _, e1, -⟩ := HZ.out
        exact (e1 y (List.mem_filter.1 hy).1).keep (KeepG.grown G2.out)))
      clear hO hR
      go_upto_region 13 with fail
      go_wp2_with fail
      refine CS.out.mono ?_
      rintro e w6 ⟨g6, v6, Z6, rfl, hZ6, hb6⟩
      rw [vb_filter, ← HO.out] at hb6
      obtain ⟨a6, c6, rfl, hm6⟩ := hZ6.shape
      have R6 := Lib.hid (hZ6.more (G' := AllG) fun _ _ _ => trivial)
      have HB6 := Lib.hid hb6
      have HL6 := Lib.hid (vb_len hb6)
      have G6 := Lib.hid (G2.out.trans g6)
      have RO6 := Lib.hid (RO.out.keep (KeepG.grown g6))
      rw [HL6.out] at R6 ⊢
      have e0 : ((O.length : Int) != (O.length : Int)) = false := by simp
      clear hZ6 hb6 g6 CS
      go_wp2
      go_loopw [63] (fun i wr => ∃ j : Nat, j ≤ O.length ∧ i = .int .i64 j ∧ Hid (w6.grownBy wr none)) (fun i _ => O.length - (intOf i).toNat)
      case atStart => exact ⟨0, Nat.zero_le _, rfl, Lib.hid (World.grownBy.refl _ _)⟩
      case round =>
        obtain ⟨i, hi, rfl, hG7⟩ := hrel
        by_cases hlt2 : i < O.length
        · have hlt : i < Z6.length := by rw [HL6.out]; exact hlt2
          obtain ⟨b2, off2, cp2, x, ev, hx, -, ht, c0, c1, c2, c3⟩ := (R6.out.keep (KeepG.grown hG7.out)).at i hlt
          obtain ⟨b3, off3, cp3, y, ew, hy, -, hty, f0, f1, f2, f3⟩ := (RO6.out.keep (KeepG.grown hG7.out)).at i hlt2
          injection ev with ev1 ev2 ev3
          clear ev2 hlt
          injection ew with ew1 ew2 ew3
          subst ev1 ev3 ew1 ew3
          have hxy := vb_get HB6.out hx hy
          obtain ⟨n, ws, lv, hd, u⟩ := x
          obtain ⟨n2, ws2, lv2, hd2, u2⟩ := y
          obtain ⟨xa, xc, hu, -⟩ := ht.shape
          obtain ⟨ya, yc, hu2, -⟩ := hty.shape
          simp only at hu hu2 c0 c1 c2 c3 f0 f1 f2 f3
          subst hu hu2
          simp only [Vz.b, Vb.mk.injEq] at hxy
          obtain ⟨rfl, rfl, rfl, rfl⟩ := hxy
          have g8 := World.grownBy_alloc wr (.cells #[.string n, .slice xa ws.length xc, .int .i64 lv, .bool hd] 33) none
          have B8 := heap_alloc_new wr (.cells #[.string n, .slice xa ws.length xc, .int .i64 lv, .bool hd] 33)
          have G8 := Lib.hid (hG7.out.trans g8)
          have TX := Lib.hid (ht.1.later (below_of_grown g8)); have TY := Lib.hid (hty.1.later (below_of_grown g8))
          have m0 := g8.cell f0 (by simp); have m1 := g8.cell f1 (by simp); have m2 := g8.cell f2 (by simp); have m3 := g8.cell f3 (by simp)
          clear hx hy ht hty hG7 f0 f1 f2 f3 g8
          go_upto_region 19 with fail
          generalize wr.alloc _ = wx at B8 G8 TX TY m0 m1 m2 m3 ⊢
          generalize wr.heap.size = xb at B8 ⊢
          obtain ⟨d0, d1, d2, d3⟩ := four_vz B8
          have k0 : ∀ u : Gr wx, u.W.cell? ⟨xb, 0, none⟩ = some (.string n) := fun u => u.g.cell d0 (by simp)
          have k1 : ∀ u : Gr wx, u.W.cell? ⟨xb, 1, none⟩ = some (.slice xa ws.length xc) := fun u => u.g.cell d1 (by simp)
          have k2 : ∀ u : Gr wx, u.W.cell? ⟨xb, 2, none⟩ = some (.int .i64 lv) := fun u => u.g.cell d2 (by simp)
          have k3 : ∀ u : Gr wx, u.W.cell? ⟨xb, 3, none⟩ = some (.bool hd) := fun u => u.g.cell d3 (by simp)
          have n0 : ∀ u : Gr wx, u.W.cell? ⟨b3, off3 + i * 4, none⟩ = some (.string n) := fun u => u.g.cell m0 (by simp)
          have n1 : ∀ u : Gr wx, u.W.cell? ⟨b3, off3 + i * 4 + 1, none⟩ = some (.slice ya ws.length yc) := fun u => u.g.cell m1 (by simp)
          have n3 : ∀ u : Gr wx, u.W.cell? ⟨b3, off3 + i * 4 + 2, none⟩ = some (.int .i64 lv) := fun u => u.g.cell m2 (by simp)
          have n4 : ∀ u : Gr wx, u.W.cell? ⟨b3, off3 + i * 4 + 3, none⟩ = some (.bool hd) := fun u => u.g.cell m3 (by simp)
          have CM := Lib.hid (fun u : Gr wx => dSameV ⟨n, ws, lv, hd, .slice xa ws.length xc⟩ ⟨n, ws, lv, hd, .slice ya ws.length yc⟩ u.W rfl (TX.out.later (below_of_grown u.g)) (TY.out.later (below_of_grown u.g)))
          have inst : Nonempty (Gr wx) := ⟨⟨wx, World.grownBy.refl _ _⟩⟩
          clear c0 c1 c2 c3
          refine wp_region_grows (by kernel_rfl) (by kernel_rfl) ?_
          repeat (go_big_quiet_step (first
            | (go_at_call 20; refine (CM.out _).mono ?_; rintro e w11 ⟨he, g11⟩; exact ⟨he, ⟨_, (Gr.g _).trans g11⟩, rfl⟩)))
          refine wpQuiet_nil ?_
          rintro _ ⟨⟨w9, gg⟩, rfl⟩
          have G9 := Lib.hid (G8.out.trans gg)
          clear k0 k1 k2 k3 n0 n1 n3 n4 m0 m1 m2 m3 d0 d1 d2 d3 CM inst gg
          go_wp2
          go_roundw
          case rel => exact ⟨i + 1, hlt2, by go_num, G9⟩
          case measure => simp [intOf]; omega
        · have GF := Lib.hid (G6.out.trans hG7.out)
          go_wp2
          go_ret
          exact ⟨rfl, GF.out⟩
end Go.Proofs.YtaihpgjimhifcaaDoor

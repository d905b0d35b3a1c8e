/- The law EnvPlays, walked. -/
import Derived.Test.YtaihpgjimhifcaaDoorEvReg
namespace Go.Proofs.YtaihpgjimhifcaaDoor
open Go.RowKit

theorem mark_up {W : World} {base base' : Nat} {v : Value} {l : List ByteArray} (h : MarkT W base v l) (hb : base' ≤ base) : MarkT W base' v l := by
  obtain ⟨g, e, ho⟩ := h
  refine ⟨g, e, ho.1, ?_⟩
  rcases ho.2 with h1 | ⟨g', cap, cur, e4, h1, h2⟩
  · exact .inl h1
  · exact .inr ⟨g', cap, cur, e4, Nat.le_trans hb h1, h2⟩
set_option maxRecDepth 100000 in
set_option maxHeartbeats 16000000 in
theorem lEnvPlays {A : Nat → Addr} {E : World → Prop} {I : World → Nat → (Nat → Prop) → List Vb → Prop} (C : EvC A E I) (vl : Value) (L : List Ac) (w : World) (hE : E w) (hN : ErrEnv A w) (hA : ARow w vl L) :
    Calls Tryd.prog 3 #[vl] w fun e w' => e = .returned (.bool true) ∧ w.grownBy w' none := by
  obtain ⟨va, vc, rfl, hm⟩ := hA.shape
  have HC := Lib.hid C; have HE := Lib.hid hE; have HN := Lib.hid hN; have HA := Lib.hid hA
  have HOWN := Lib.hid (show ∀ y ∈ L, TxRow w y.v.u y.v.ws ∧ (y.v.ws ≠ [] → ∀ b, y.v.u.ownBlock = some b → b < w.heap.size) from by
    obtain ⟨_, _, _, _, h, -⟩ := hA
    exact h)
  clear C hE hN hA
  go_enter Tryd.func3, Tryd.ntmps3
  go_wp2_with fail
  refine (lAliveV HC.out w HE.out).mono ?_
  rintro e w1 ⟨rfl, g1⟩
  have G1 := Lib.hid g1
  clear g1
  go_wp2_with fail
  refine (show Calls Tryd.prog 6 #[.slice va L.length vc, .int .i64 60] w1 (PLga 60 L w1) from lLongA _ L 60 w1 (HA.out.grown G1.out)).mono ?_
  rintro e w2 ⟨⟨z1, rfl, hz1⟩, g2⟩
  have G2 := Lib.hid (G1.out.trans g2)
  clear g2
  cases z1
  case true =>
    clear hz1
    go_wp2
    go_ret
    exact ⟨rfl, G2.out⟩
  obtain ⟨hL60, hLs⟩ := hz1 rfl
  have HLS := Lib.hid hLs
  clear hz1 hLs
  go_wp2_with fail
  refine (HC.out.new w2 (HC.out.gr _ _ HE.out G2.out)).mono ?_
  rintro e w3 ⟨g3, p, F, rfl, hI, hF⟩
  have G3 := Lib.hid (G2.out.trans g3)
  have g4 := World.grownBy_alloc w3 (.cells #[.slice none 0 0] 30) none
  have B4 := Lib.hid (heap_alloc_new w3 (.cells #[.slice none 0 0] 30))
  have G4 := Lib.hid (G3.out.trans g4)
  have I4 := Lib.hid (HC.out.keep _ _ _ _ _ hI (KeepG.grown g4))
  have hlt := HC.out.lt _ _ _ _ hI
  have HF4 := Lib.hid (show ∀ b, F b → w.heap.size ≤ b ∧ b ≠ w3.heap.size from fun b hb => ⟨Nat.le_trans G2.out.size (hF b hb), by have := hlt b hb; omega⟩)
  clear g3 hI hF g4 hlt
  go_upto_region 6 with fail
  generalize w3.alloc _ = w4 at B4 G4 I4 ⊢
  obtain ⟨q, hqq⟩ : ∃ q, w3.heap.size = q := ⟨_, rfl⟩
  rw [hqq] at B4 HF4 ⊢
  have HQ := Lib.hid (show w.heap.size ≤ q by have := G3.out.size; omega)
  clear hqq
  have R4 := Lib.hid (show VRow w4 (fun b => ¬F b ∧ b ≠ q) (.slice none 0 0) [] from ⟨none, 0, rfl, ⟨by decide, by decide, by decide⟩, fun x hx => by simp at hx, fun h => absurd rfl h⟩)
  go_wp2
  go_loopw [23] (fun i wr => ∃ (j : Nat) (F : Nat → Prop) (Z : List Vz) (uv : Value), j ≤ L.length ∧ i = .int .i64 j ∧ Hid (I wr p F (vbL Z)) ∧ Hid (OkZ Z) ∧ Hid (∀ b, F b → w.heap.size ≤ b ∧ b ≠ q) ∧ Hid (wr.heap[q]? = some (.cells #[uv] 30 (0, 0))) ∧ Hid (VRow wr (fun b => ¬F b ∧ b ≠ q) uv Z) ∧ Hid (w.grownBy wr none)) (fun i _ => L.length - (intOf i).toNat)
  case atStart => exact ⟨0, F, [], _, Nat.zero_le _, rfl, I4, Lib.hid ⟨.nil, by decide⟩, HF4, B4, R4, G4⟩
  case round =>
    clear I4 HF4 B4 R4 G4
    obtain ⟨j, F, Z, uv, hj, rfl, hI, hZ, hF, hQc, hR, hG⟩ := hrel
    by_cases hlt : j < L.length
    · obtain ⟨b, off, c, y, ev, hy, ht, -, c0, c1, c2, c3, c4⟩ := (HA.out.grown hG.out).at j hlt
      injection ev with ev1 ev2 ev3
      subst ev1 ev3
      have HSY := Lib.hid (HLS.out _ (List.mem_of_getElem? hy))
      obtain ⟨t0, tb0⟩ := HOWN.out _ (List.mem_of_getElem? hy)
      obtain ⟨k, n, ws, lv, hd, u⟩ := y
      obtain ⟨a2, cc2, hu2, -⟩ := id ht
      simp only at hu2 ht c0 c1 c2 c3 c4 t0 tb0
      subst hu2
      have T0 := Lib.hid t0; have TB0 := Lib.hid tb0
      have g5 := World.grownBy_alloc wr (.cells #[.int .i64 k, .string n, .slice a2 ws.length cc2, .int .i64 lv, .bool hd] 35) none
      have B5 := Lib.hid (heap_alloc_new wr (.cells #[.int .i64 k, .string n, .slice a2 ws.length cc2, .int .i64 lv, .bool hd] 35))
      have G5 := Lib.hid (hG.out.trans g5)
      have I5 := Lib.hid (HC.out.keep _ _ _ _ _ hI.out (KeepG.grown g5))
      have Q5 := Lib.hid (heap_grown g5 hQc.out)
      have R5 := Lib.hid ((hR.out.more (G' := fun b => (¬F b ∧ b ≠ q) ∧ b < wr.heap.size) fun b hb hl => ⟨hb, hl⟩).keep (KeepG.grown g5))
      have hql : q < wr.heap.size := (Array.getElem?_eq_some_iff.1 hQc.out).1
      have hfl := HC.out.lt _ _ _ _ hI.out
      have HQL := Lib.hid hql
      have HFL := Lib.hid hfl
      have HWR := Lib.hid hG.out.size
      clear hy ht t0 tb0 hI hQc hR hG g5 hql hfl
      go_upto_region 9 with fail
      clear c0 c1 c2 c3 c4
      generalize wr.alloc _ = w5 at B5 G5 I5 Q5 R5 ⊢
      obtain ⟨ba, hba⟩ : ∃ ba, wr.heap.size = ba := ⟨_, rfl⟩
      rw [hba] at B5 HQL HFL HWR R5 ⊢
      clear hba
      go_wp2_with fail
      refine (HC.out.copy w5 p F _ (HC.out.gr _ _ HE.out G5.out) I5.out).mono ?_
      rintro e w6 ⟨g6, pc, Fc, rfl, hIc, hFc⟩
      have hba5 : ba < w5.heap.size := (Array.getElem?_eq_some_iff.1 B5.out).1
      have B6 := Lib.hid (heap_grown g6 B5.out)
      have Q6 := Lib.hid (heap_grown g6 Q5.out)
      have G6 := Lib.hid (G5.out.trans g6)
      have I6 := Lib.hid (HC.out.keep _ _ _ _ _ I5.out (KeepG.grown g6))
      have R6 := Lib.hid (R5.out.keep (KeepG.grown g6))
      have IC := Lib.hid hIc
      have HFC := Lib.hid (show ∀ b, Fc b → ba < b ∧ b < w6.heap.size from fun b hb => ⟨by have := hFc b hb; omega, HC.out.lt _ _ _ _ hIc b hb⟩)
      clear B5 Q5 I5 R5 g6 hIc hFc
      have hq6 : w6.cell? ⟨q, 0, none⟩ = some uv := by unfold World.cell?; rw [Q6.out]; rfl
      obtain ⟨u1, u2, rfl, -⟩ := R6.out.shape
      obtain ⟨d0, d1, d2, d3, d4⟩ := five_ac B6.out
      obtain ⟨BW, BV, g8⟩ := heap2 w6 (.cells #[.slice u1 Z.length u2] 30) (.cells #[.string n, .slice a2 ws.length cc2, .int .i64 lv, .bool hd] 33)
      have BW8 := Lib.hid BW; have BV8 := Lib.hid BV
      have B8 := Lib.hid (heap_grown g8 B6.out)
      have Q8 := Lib.hid (heap_grown g8 Q6.out)
      have G8 := Lib.hid (G6.out.trans g8)
      have I8 := Lib.hid (HC.out.keep _ _ _ _ _ I6.out (KeepG.grown g8))
      have R8 := Lib.hid (R6.out.keep (KeepG.grown g8))
      have IC8 := Lib.hid (HC.out.keep _ _ _ _ _ IC.out (KeepG.grown g8))
      have hba6 : ba < w6.heap.size := (Array.getElem?_eq_some_iff.1 B6.out).1
      clear BW BV g8 B6 Q6 I6 R6 IC hba5
      go_upto_region 12 with fail
      generalize (w6.alloc _).alloc _ = w8 at BW8 BV8 B8 Q8 G8 I8 R8 IC8 ⊢
      obtain ⟨bw, hbw⟩ : ∃ bw, w6.heap.size = bw := ⟨_, rfl⟩
      rw [hbw] at BW8 BV8 HFC hba6 ⊢
      clear hbw hq6 d0 d1 d2 d3 d4
      obtain ⟨d0, d1, d2, d3, d4⟩ := five_ac B8.out
      have hbv8 : bw + 1 < w8.heap.size := (Array.getElem?_eq_some_iff.1 BV8.out).1
      have hws : ws.length ≤ 60 := HSY.out.2.1
      have hnz : n.size ≤ 60 := HSY.out.1
      go_wp2_with fail
      refine (cTextsT _ ws w8 (T0.out.later (below_of_grown G8.out)) (by omega)).mono ?_
      rintro e w9 ⟨u9, rfl, hM, hB9⟩
      have g9 := grown_of_below hB9
      obtain ⟨gw, rfl, ho9⟩ := id hM
      have hgw : w8.heap.size ≤ gw ∧ gw < w9.heap.size := by
        rcases ho9.2 with ⟨e4, -⟩ | ⟨g', cap, cur, e4, h1, h2, -⟩
        · cases e4
        · injection e4 with e5 e6 e7
          injection e5 with e5
          injection e5 with e5
          subst e5
          exact ⟨h1, (Array.getElem?_eq_some_iff.1 h2).1⟩
      have BV9 := Lib.hid (heap_grown g9 BV8.out)
      have B9 := Lib.hid (heap_grown g9 B8.out)
      have BW9 := Lib.hid (heap_grown g9 BW8.out)
      have Q9 := Lib.hid (heap_grown g9 Q8.out)
      have G9 := Lib.hid (G8.out.trans g9)
      have gs := grown_setAtV w9 (bw + 1) 1 (.slice (some ⟨gw, 0, none⟩) ws.length (ws.length + 3))
      have SIT := Lib.hid (show Sit I ⟨p, q, ba, bw + 1, gw, pc, bw⟩ w ⟨k, n, ws, lv, hd, .slice a2 ws.length cc2⟩ Fc Z (.slice u1 Z.length u2) F (vbL Z) Z (.slice u1 Z.length u2) true (w9.setCell ⟨bw + 1, 1, none⟩ (.slice (some ⟨gw, 0, none⟩) ws.length (ws.length + 3))) from by
        have hlo := HQ.out
        have hwr := HWR.out
        have hql := HQL.out
        have keepB : ∀ {b : Nat} {x : Obj}, w9.heap[b]? = some x → b ≠ bw + 1 → (w9.setCell ⟨bw + 1, 1, none⟩ (.slice (some ⟨gw, 0, none⟩) ws.length (ws.length + 3))).heap[b]? = some x := fun {b x} hx hb => (gs.block b (Array.getElem?_eq_some_iff.1 hx).1 (by simpa using hb)).trans hx
        have fcs : ∀ b, Fc b → ba < b ∧ b < bw := HFC.out
        have fs : ∀ b, F b → b < ba := HFL.out
        have hrr : VRow (w9.setCell ⟨bw + 1, 1, none⟩ (.slice (some ⟨gw, 0, none⟩) ws.length (ws.length + 3))) (fun b => ¬F b ∧ b ≠ q ∧ b ≠ gw) (.slice u1 Z.length u2) Z :=
          ((R8.out.keep (KeepG.grown g9)).keep (KeepG.but gs fun hf => by have := hf.2; omega)).more fun b hb _ => ⟨hb.1.1, hb.1.2, by have := hb.2; omega⟩
        exact {
          g := grown_two G9.out 1 _ (by omega)
          i := HC.out.keep _ _ _ _ _ (HC.out.keep _ _ _ _ _ I8.out (KeepG.grown g9)) (KeepG.but gs fun hf => by have := fs _ hf; omega)
          f := fun b hb => ⟨(hF.out b hb).1, fun ho => by
            have h1 := fs b hb; have h2 := (hF.out b hb).2
            rcases ho with h | h | h | h | h
            · exact h2 h
            · have h : b = ba := h; omega
            · have h : b = bw + 1 := h; omega
            · have h : b = gw := h; omega
            · have h : b = bw := h; omega, fun hf => by have := fs b hb; have := fcs b hf; omega⟩
          hq := keepB Q9.out (show q ≠ bw + 1 by omega)
          r := hrr
          a := keepB B9.out (show ba ≠ bw + 1 by omega)
          v := heap_setCell_same _ (bw + 1) 1 _ _ _ BV9.out
          ic := HC.out.keep _ _ _ _ _ (HC.out.keep _ _ _ _ _ IC8.out (KeepG.grown g9)) (KeepG.but gs fun hf => by have := fcs _ hf; omega)
          fc := fun b hb => ⟨by have := fcs b hb; omega, fun ho => by
            have h1 := fcs b hb
            rcases ho with h | h | h | h | h
            · have h : b = q := h; omega
            · have h : b = ba := h; omega
            · have h : b = bw + 1 := h; omega
            · have h : b = gw := h; omega
            · have h : b = bw := h; omega⟩
          hw := keepB BW9.out (show bw ≠ bw + 1 by omega)
          rc := hrr
          t := T0.out
          tb := TB0.out
          lo := ⟨show w.heap.size ≤ q by omega, show w.heap.size ≤ ba by omega, show w.heap.size ≤ bw + 1 by omega, show w.heap.size ≤ gw by omega, show w.heap.size ≤ bw by omega⟩
          gl := by have := gs.size; show gw < _; omega
          m := fun _ => mark_up (mark_keep hM (gs.block gw hgw.2 (by simp; omega))) (by have := G8.out.size; omega)
          ne := ⟨by show bw ≠ q; omega, by show ba ≠ q; omega, by show bw + 1 ≠ q; omega, by show gw ≠ q; omega, by show gw ≠ bw + 1; omega, by show gw ≠ ba; omega, by show gw ≠ bw; omega⟩ })
      clear d0 d1 d2 d3 d4
      obtain ⟨d0, d1, d2, d3⟩ := four_vz BV9.out
      have fr := four_free BV9.out
      have m0 := five_ac B9.out
      clear gs hM ho9 hB9 g9 BW8 BV8 B8 Q8 G8 I8 R8 IC8 HFC HFL HWR HQL hF m0
      go_upto_region 13 with fail
      generalize w9.setCell _ _ = wa at SIT ⊢
      clear d0 d1 d2 d3 fr BV9 B9 BW9 Q9 G9 hbv8 hba6 hgw
      obtain ⟨kk, hkk⟩ : ∃ kk, chkV (⟨n, ws, lv, hd, .slice a2 ws.length cc2⟩ : Vz).b = kk := ⟨_, rfl⟩
      have SU := fun u : Gr wa => SIT.out.grown HC.out u.g
      have k0 : ∀ u : Gr wa, u.W.cell? ⟨bw + 1, 0, none⟩ = some (.string n) := fun u => (four_vz (SU u).v).1
      have k1 : ∀ u : Gr wa, u.W.cell? ⟨bw + 1, 1, none⟩ = some (.slice (some ⟨gw, 0, none⟩) ws.length (ws.length + 3)) := fun u => (four_vz (SU u).v).2.1
      have k2 : ∀ u : Gr wa, u.W.cell? ⟨bw + 1, 2, none⟩ = some (.int .i64 lv) := fun u => (four_vz (SU u).v).2.2.1
      have k3 : ∀ u : Gr wa, u.W.cell? ⟨bw + 1, 3, none⟩ = some (.bool hd) := fun u => (four_vz (SU u).v).2.2.2
      have m1 : ∀ u : Gr wa, u.W.cell? ⟨ba, 1, none⟩ = some (.string n) := fun u => (five_ac (SU u).a).2.1
      have m2 : ∀ u : Gr wa, u.W.cell? ⟨ba, 2, none⟩ = some (.slice a2 ws.length cc2) := fun u => (five_ac (SU u).a).2.2.1
      have m3 : ∀ u : Gr wa, u.W.cell? ⟨ba, 3, none⟩ = some (.int .i64 lv) := fun u => (five_ac (SU u).a).2.2.2.1
      have m4 : ∀ u : Gr wa, u.W.cell? ⟨ba, 4, none⟩ = some (.bool hd) := fun u => (five_ac (SU u).a).2.2.2.2
      have CK := Lib.hid (fun u : Gr wa => show Calls Tryd.prog 11 #[.agg #[.string n, .slice (some ⟨gw, 0, none⟩) ws.length (ws.length + 3), .int .i64 lv, .bool hd]] u.W fun e W' => e = .returned (errV A kk) ∧ u.W.grownBy W' none by
        have h := HC.out.check u.W (vOf ⟨p, q, ba, bw + 1, gw, pc, bw⟩ ⟨k, n, ws, lv, hd, .slice a2 ws.length cc2⟩) (HC.out.gr _ _ HE.out (SU u).g) (((SU u).m rfl).row (by show ws.length ≤ 100; omega)) (show n.size ≤ 100 by omega) (by show ws.length ≤ 100; omega)
        rw [← hkk]; exact h)
      have CR := Lib.hid (fun u : Gr wa => show Calls Tryd.prog 12 #[.agg #[.string n, .slice a2 ws.length cc2, .int .i64 lv, .bool hd]] u.W fun e W' => e = .returned (.int .i64 kk) ∧ u.W.grownBy W' none by
        have h := dCheckV ⟨n, ws, lv, hd, .slice a2 ws.length cc2⟩ u.W (show n.size ≤ 100 by omega) (T0.out.later (below_of_grown (SU u).g))
        rw [← hkk]; exact h)
      have CN := Lib.hid (fun u : Gr wa => lNumV A kk (by rw [← hkk]; exact chk_le _) u.W (HN.out.later (below_of_grown (SU u).g)))
      have inst : Nonempty (Gr wa) := ⟨⟨wa, World.grownBy.refl _ _⟩⟩
      clear hkk SU
      refine wp_region_grows (by kernel_rfl) (by kernel_rfl) ?_
      repeat (go_big_quiet_step (first
        | (go_at_call 11; refine (CK.out _).mono ?_; rintro e w11 ⟨he, g11⟩; exact ⟨he, ⟨_, (Gr.g _).trans g11⟩, rfl⟩)
        | (go_at_call 10; refine (CN.out _).mono ?_; rintro e w11 ⟨he, g11⟩; exact ⟨he, ⟨_, (Gr.g _).trans g11⟩, rfl⟩)
        | (go_at_call 12; refine (CR.out _).mono ?_; rintro e w11 ⟨he, g11⟩; exact ⟨he, ⟨_, (Gr.g _).trans g11⟩, rfl⟩)))
      refine wpQuiet_nil ?_
      rintro _ ⟨⟨wb, gg⟩, rfl⟩
      have SITB := Lib.hid (SIT.out.grown HC.out gg)
      clear k0 k1 k2 k3 m1 m2 m3 m4 CK CR CN inst gg SIT
      have S1 := SITB.out
      obtain ⟨⟨d0, d1, d2, d3⟩, f1, f2, f3, f4⟩ := S1.bx
      have f0 := (five_ac S1.a).1
      clear d0 d1 d2 d3 f1 f2 f3 f4 f0 S1
      have S1 := SITB.out
      have f0 := (five_ac S1.a).1
      go_upto_block 2 with fail
      go_cut [10] from 51 to 92 (fun _ wx => ∃ (F2 : Nat → Prop) (Z2 : List Vz) (u2' : Value), Hid (Sit I ⟨p, q, ba, bw + 1, gw, pc, bw⟩ w ⟨k, n, ws, lv, hd, .slice a2 ws.length cc2⟩ Fc Z (.slice u1 Z.length u2) F2 (vbL Z2) Z2 u2' false wx) ∧ Hid (OkZ Z2))
      case first =>
        obtain ⟨⟨d0, d1, d2, d3⟩, f1, f2, f3, f4⟩ := S1.bx
        by_cases hk0 : k = 0
        · subst hk0
          obtain ⟨⟨kz, Z2⟩, hp⟩ : ∃ r, putZ Z (⟨n, ws, lv, hd, .slice a2 ws.length cc2⟩ : Vz) = r := ⟨_, rfl⟩
          have HP := Lib.hid hp
          have hok2 : OkZ Z2 := by have := put_ok (x := (⟨n, ws, lv, hd, .slice a2 ws.length cc2⟩ : Vz)) hZ.out; rw [hp] at this; exact this
          have HOK2 := Lib.hid hok2
          have hkz : kz ≤ 18 := by have := put_le (vbL Z) (⟨n, ws, lv, hd, .slice a2 ws.length cc2⟩ : Vz).b; rw [vb_put, hp] at this; exact this
          clear hp hok2
          go_wp2_with fail
          have SD := S1.drew HC.out
          clear S1 d0 d1 d2 d3 f0 f1 f2 f3 f4
          go_region_held3 (fun W => (W.cell? ⟨bw + 1, 0, none⟩ = some (.string n) ∧ W.cell? ⟨bw + 1, 1, none⟩ = some (.slice (some ⟨gw, 0, none⟩) ws.length (ws.length + 3)) ∧ W.cell? ⟨bw + 1, 2, none⟩ = some (.int .i64 lv) ∧ W.cell? ⟨bw + 1, 3, none⟩ = some (.bool hd)) ∧ (W.cell? ⟨ba, 1, none⟩ = some (.string n) ∧ W.cell? ⟨ba, 2, none⟩ = some (.slice a2 ws.length cc2) ∧ W.cell? ⟨ba, 3, none⟩ = some (.int .i64 lv) ∧ W.cell? ⟨ba, 4, none⟩ = some (.bool hd)))
            (first | exact Sit.bx (I := I) (s := ⟨p, q, ba, bw + 1, gw, pc, bw⟩) (w := w) (y := ⟨0, n, ws, lv, hd, .slice a2 ws.length cc2⟩) (by assumption))
            (first
              | (go_at_call 13; refine (sSetZ (s := ⟨p, q, ba, bw + 1, gw, pc, bw⟩) (y := ⟨0, n, ws, lv, hd, .slice a2 ws.length cc2⟩) HC.out HE.out (by assumption) HSY.out HP.out).mono ?_; rintro e w7 ⟨rfl, F7, hs⟩)
              | (go_at_call 10; refine (sNum (I := I) (s := ⟨p, q, ba, bw + 1, gw, pc, bw⟩) (y := ⟨0, n, ws, lv, hd, .slice a2 ws.length cc2⟩) HC.out HN.out kz hkz (by assumption)).mono ?_; rintro e w7 ⟨rfl, hs⟩)
              | (go_at_call 14; refine (sSetRZ (I := I) (s := ⟨p, q, ba, bw + 1, gw, pc, bw⟩) (y := ⟨0, n, ws, lv, hd, .slice a2 ws.length cc2⟩) HC.out (by assumption) HSY.out hZ.out HP.out).mono ?_; rintro e w7 ⟨rfl, u7, hs⟩)
              | (go_at_call 15; refine (sKept (I := I) (s := ⟨p, q, ba, bw + 1, gw, pc, bw⟩) (y := ⟨0, n, ws, lv, hd, .slice a2 ws.length cc2⟩) HC.out (by assumption) HSY.out).mono ?_; rintro e w7 ⟨rfl, hs⟩))
          all_goals
            have SC := Lib.hid hs
            clear hs
            obtain ⟨⟨d0, d1, d2, d3⟩, -⟩ := SC.out.bx
            have MK := SC.out.m rfl
            have HCUR := Lib.hid (mark_block MK)
            clear MK
            go_wp2
            clear d0 d1 d2 d3
            go_loopw [74] (fun i wx => ∃ m : Nat, m ≤ ws.length ∧ i = .int .i64 m ∧ Hid (∃ cur : Array Value, wx.heap[gw]? = some (.cells cur 9 (0, 0)) ∧ cur.size = ws.length + 3) ∧ Hid (Sit I ⟨p, q, ba, bw + 1, gw, pc, bw⟩ w ⟨0, n, ws, lv, hd, .slice a2 ws.length cc2⟩ Fc Z (.slice u1 Z.length u2) F7 (vbL Z2) Z2 u7 false wx)) (fun i _ => ws.length - (intOf i).toNat)
            case atStart => exact ⟨0, Nat.zero_le _, rfl, HCUR, Lib.hid SC.out.weak⟩
            case round =>
              obtain ⟨m, hm2, rfl, hcur, hS⟩ := hrel
              obtain ⟨⟨d0, d1, d2, d3⟩, -⟩ := hS.out.bx
              by_cases hlm : m < ws.length
              · obtain ⟨cur, hc1, hc2⟩ := hcur.out
                have hcm : wr.cell? ⟨gw, m, none⟩ = some cur[m] := by unfold World.cell?; rw [hc1]; simp
                have hfm := frozen_of_row wr gw m cur _ hc1
                have gm := grown_setAtV wr gw m (.string ⟨#[99, 104, 97, 110, 103, 101, 100]⟩)
                have SM := Lib.hid (hS.out.mark HC.out gm)
                have CM := Lib.hid (show ∃ cur : Array Value, (wr.setCell ⟨gw, m, none⟩ (.string ⟨#[99, 104, 97, 110, 103, 101, 100]⟩)).heap[gw]? = some (.cells cur 9 (0, 0)) ∧ cur.size = ws.length + 3 from ⟨_, heap_setCell_same _ gw m _ _ _ hc1, by simp [hc2]⟩)
                clear hS hcur hc1 gm
                go_wp2
                go_roundw
                case rel => exact ⟨m + 1, hlm, by go_num, CM, SM⟩
                case measure => simp [intOf]; omega
              · have SF := Lib.hid hS.out
                clear hS hcur
                go_wp2_with fail
                go_meet
                exact ⟨F7, Z2, u7, SF, HOK2⟩
        · by_cases hk1 : k = 1
          · subst hk1
            have HUN := Lib.hid (un_ok (s := n) hZ.out)
            cases hz : (idxZ Z n).isSome
            all_goals
              have HIS := Lib.hid hz
              clear hz
              go_wp2_with fail
              have SD := S1.drew HC.out
              clear d0 d1 d2 d3 f0 f1 f2 f3 f4
              go_region_held3 (fun W => W.cell? ⟨bw + 1, 0, none⟩ = some (.string n))
                (first | exact (Sit.bx (I := I) (s := ⟨p, q, ba, bw + 1, gw, pc, bw⟩) (w := w) (y := ⟨1, n, ws, lv, hd, .slice a2 ws.length cc2⟩) (by assumption)).1.1)
                (first
                  | (go_at_call 16; refine (sUnsetZ (s := ⟨p, q, ba, bw + 1, gw, pc, bw⟩) (y := ⟨1, n, ws, lv, hd, .slice a2 ws.length cc2⟩) HC.out HE.out (by assumption) HSY.out hZ.out HIS.out).mono ?_; rintro e w7 ⟨rfl, F7, hs⟩)
                  | (go_at_call 17; refine (sUnsetRZ (I := I) (s := ⟨p, q, ba, bw + 1, gw, pc, bw⟩) (y := ⟨1, n, ws, lv, hd, .slice a2 ws.length cc2⟩) HC.out (by assumption) hZ.out HIS.out).mono ?_; rintro e w7 ⟨rfl, u7, hs⟩))
              all_goals
                have SC := Lib.hid hs.weak
                clear hs
                go_wp2_with fail
                go_meet
                exact ⟨F7, unZ Z n, u7, SC, HUN⟩
          · have e0 : (k == 0) = false := by simpa using hk0
            have e1 : (k == 1) = false := by simpa using hk1
            go_wp2_with fail
            go_meet
            exact ⟨F, Z, _, Lib.hid S1.weak, hZ⟩
      case rest =>
        obtain ⟨F2, Z2, uv2, hS2, hOK⟩ := hcut
        clear S1 f0 SITB
        obtain ⟨⟨d0, d1, d2, d3⟩, -⟩ := hS2.out.bx
        have CF := Lib.hid (HC.out.find wc p F2 (vbL Z2) n (HC.out.gr _ _ HE.out hS2.out.g) hS2.out.i (by omega))
        go_wp2_with fail
        refine CF.out.mono ?_
        rintro e wd ⟨gd, x, he, tx, hx⟩
        obtain ⟨zf, hzf⟩ : ∃ z, ((vbL Z2).find? (isB n)).isSome = z := ⟨_, rfl⟩
        rw [hzf] at he
        subst he
        have HZF := Lib.hid hzf
        clear hzf
        obtain ⟨xn, xws, xlv, xhd, xu⟩ := x
        obtain ⟨xa, xc, hxu, -⟩ := id tx
        simp only at hxu tx
        subst hxu
        have ge := World.grownBy_alloc wd (.cells #[.string xn, .slice xa xws.length xc, .int .i64 xlv, .bool xhd] 33) none
        have BX := Lib.hid (heap_alloc_new wd (.cells #[.string xn, .slice xa xws.length xc, .int .i64 xlv, .bool xhd] 33))
        have SE := Lib.hid ((hS2.out.grown HC.out gd).grown HC.out ge)
        have TX := Lib.hid (tx.later (below_of_grown ge))
        have HXF := Lib.hid hx
        clear d0 d1 d2 d3 CF gd tx ge hS2 hx
        go_upto_region 28 with fail
        generalize wd.alloc _ = we at BX SE TX ⊢
        obtain ⟨xb, hxb⟩ : ∃ xb, wd.heap.size = xb := ⟨_, rfl⟩
        rw [hxb] at BX ⊢
        clear hxb
        obtain ⟨⟨d0, d1, d2, d3⟩, -⟩ := SE.out.bx
        have hqe : we.cell? ⟨q, 0, none⟩ = some uv2 := by unfold World.cell?; rw [SE.out.hq]; rfl
        have CA := Lib.hid (dAtV q uv2 Z2 n _ we hqe SE.out.r)
        go_wp2_with fail
        refine CA.out.mono ?_
        rintro e wf ⟨rfl, gf⟩
        have SX := Lib.hid (show Sx I ⟨p, q, ba, bw + 1, gw, pc, bw⟩ w ⟨k, n, ws, lv, hd, .slice a2 ws.length cc2⟩ Fc Z _ F2 Z2 uv2 xb ⟨xn, xws, xlv, xhd, .slice xa xws.length xc⟩ wf from ⟨SE.out.grown HC.out gf, heap_grown gf BX.out, TX.out.later (below_of_grown gf)⟩)
        clear d0 d1 d2 d3 hqe CA gf SE BX TX
        obtain ⟨ra, rc2, rfl, hrm⟩ := SX.out.1.r.shape
        cases hi : idxZ Z2 n with
        | none =>
          have hat : atZ Z2 n = -1 := by unfold atZ; rw [hi]
          have hfn := find_no hi
          have HWS := Lib.hid (show (((vbL Z2).find? (isB n)).map Vb.ws).getD [] = [] by rw [hfn]; rfl)
          have HGU := Lib.hid (show getU Z2 n = .slice none 0 0 by unfold getU; rw [hi])
          obtain rfl : zf = false := by have := HZF.out; rw [hfn] at this; exact this.symm
          rw [hat]
          clear hi hat hfn HXF HZF hrm TB0 T0
          go_wp2_with fail
          refine wp_region_any2 (by kernel_rfl) (by kernel_rfl) (fun i => 104 + i) (H29 (tbN p q (bw + 1) n) []) [104, 105, 106, 107, 108, 109, 110, 111, 112, 113, 114, 115, 116, 117, 118, 119, 120, 121, 122, 123, 124, 125, 126, 127, 128, 129, 130, 131, 132, 133, 134] (by kernel_rfl) (fitA_of (fun i j _ _ h => by have h : 104 + j = 104 + i := h; omega) (fun i hi => by have hi : i < 31 := hi; show 104 + i < 150; omega) (by kernel_rfl) (hUp _ _)) ?_ ?_
          · intro F L a' w' i o ho R hL hd
            have hi : i < 31 := (Array.getElem?_eq_some_iff.1 ho).1
            have SW := Sx.grown HC.out SX.out R.g
            have gt : ∀ (j : Nat) (hj : j < 31) (hn : j ≠ 23), L j = true → a'.eval (.tmp (104 + j)) = (tbN p q (bw + 1) n) j := fun j hj hn hl => hAt hn (R.at hj hl)
            have gw : L 23 = true → TxRow w' (a'.eval (.tmp 127)) [] := fun hl => by
              have h := R.at (j1 := 23) (by decide +kernel) hl
              unfold H29 at h
              rwa [if_pos rfl] at h
            obtain rfl | rfl | rfl | rfl | rfl | rfl | rfl | rfl | rfl | rfl | rfl | rfl | rfl | rfl | rfl | rfl | rfl | rfl | rfl | rfl | rfl | rfl | rfl | rfl | rfl | rfl | rfl | rfl | rfl | rfl | rfl : i = 0 ∨ i = 1 ∨ i = 2 ∨ i = 3 ∨ i = 4 ∨ i = 5 ∨ i = 6 ∨ i = 7 ∨ i = 8 ∨ i = 9 ∨ i = 10 ∨ i = 11 ∨ i = 12 ∨ i = 13 ∨ i = 14 ∨ i = 15 ∨ i = 16 ∨ i = 17 ∨ i = 18 ∨ i = 19 ∨ i = 20 ∨ i = 21 ∨ i = 22 ∨ i = 23 ∨ i = 24 ∨ i = 25 ∨ i = 26 ∨ i = 27 ∨ i = 28 ∨ i = 29 ∨ i = 30 := by omega
            · cases ho; exact R.move F rfl (wantedA_none rfl) (x := .tmp 12) (.inl rfl) (hIs (by decide) (R.slot (fun j hj => by show 104 + j ≠ 12; omega) rfl))
            · cases ho; exact R.move F rfl (wantedA_none rfl) (x := .tmp 13) (.inl rfl) (hIs (by decide) (R.slot (fun j hj => by show 104 + j ≠ 13; omega) rfl))
            · cases ho; exact R.val F rfl (wantedA_none rfl) (x_geq (by decide) rfl (show a'.eval (.tmp 105) = _ from gt 1 (by decide) (by decide) (hd 1 (by decide +kernel)))) (World.grownBy.refl _ _) (hIs (by decide) rfl)
            · cases ho; exact R.val F rfl (wantedA_none rfl) (x_neq rfl (show a'.eval (.tmp 104) = _ from gt 0 (by decide) (by decide) (hd 0 (by decide +kernel))) (show a'.eval (.tmp 106) = _ from gt 2 (by decide) (by decide) (hd 2 (by decide +kernel)))) (World.grownBy.refl _ _) (hIs (by decide) rfl)
            · cases ho; exact R.move F rfl (wantedA_none rfl) (x := .tmp 107) (.inl rfl) (hIs (by decide) (show a'.eval (.tmp 107) = _ from gt 3 (by decide) (by decide) (hd 3 (by decide +kernel))))
            · cases ho; exact R.move F rfl ((wantedA_is (b := false) rfl rfl rfl (show a'.eval (.tmp 108) = _ from gt 4 (by decide) (by decide) (hd 4 (by decide +kernel)))).trans rfl) (x := .tmp 12) (.inl rfl) (hIs (by decide) (R.slot (fun j hj => by show 104 + j ≠ 12; omega) rfl))
            · cases ho; exact R.move F rfl ((wantedA_is (b := false) rfl rfl rfl (show a'.eval (.tmp 108) = _ from gt 4 (by decide) (by decide) (hd 4 (by decide +kernel)))).trans rfl) (x := .tmp 109) (.inl rfl) (hIs (by decide) (show a'.eval (.tmp 109) = _ from gt 5 (by decide) (by decide) (hd 5 (by decide +kernel))))
            · cases ho; exact R.skip F rfl ((wantedA_is (b := false) rfl rfl rfl (show a'.eval (.tmp 110) = _ from gt 6 (by decide) (by decide) (hd 6 (by decide +kernel)))).trans rfl) (hIs (by decide) rfl)
            · cases ho; exact R.skip F rfl ((wantedA_is (b := false) rfl rfl rfl (show a'.eval (.tmp 110) = _ from gt 6 (by decide) (by decide) (hd 6 (by decide +kernel)))).trans rfl) (hIs (by decide) rfl)
            · cases ho; exact R.skip F rfl ((wantedA_is (b := false) rfl rfl rfl (show a'.eval (.tmp 110) = _ from gt 6 (by decide) (by decide) (hd 6 (by decide +kernel)))).trans rfl) (hIs (by decide) rfl)
            · cases ho; exact R.skip F rfl ((wantedA_is (b := false) rfl rfl rfl (show a'.eval (.tmp 110) = _ from gt 6 (by decide) (by decide) (hd 6 (by decide +kernel)))).trans rfl) (hIs (by decide) rfl)
            · cases ho; exact R.skip F rfl ((wantedA_is (b := false) rfl rfl rfl (show a'.eval (.tmp 110) = _ from gt 6 (by decide) (by decide) (hd 6 (by decide +kernel)))).trans rfl) (hIs (by decide) rfl)
            · cases ho; exact R.skip F rfl ((wantedA_is (b := false) rfl rfl rfl (show a'.eval (.tmp 110) = _ from gt 6 (by decide) (by decide) (hd 6 (by decide +kernel)))).trans rfl) (hIs (by decide) rfl)
            · cases ho; exact R.skip F rfl ((wantedA_is (b := false) rfl rfl rfl (show a'.eval (.tmp 110) = _ from gt 6 (by decide) (by decide) (hd 6 (by decide +kernel)))).trans rfl) (hIs (by decide) rfl)
            · cases ho; exact R.skip F rfl ((wantedA_is (b := false) rfl rfl rfl (show a'.eval (.tmp 110) = _ from gt 6 (by decide) (by decide) (hd 6 (by decide +kernel)))).trans rfl) (hIs (by decide) rfl)
            · cases ho; exact R.skip F rfl ((wantedA_is (b := false) rfl rfl rfl (show a'.eval (.tmp 110) = _ from gt 6 (by decide) (by decide) (hd 6 (by decide +kernel)))).trans rfl) (hIs (by decide) rfl)
            · cases ho; exact R.skip F rfl ((wantedA_is (b := false) rfl rfl rfl (show a'.eval (.tmp 110) = _ from gt 6 (by decide) (by decide) (hd 6 (by decide +kernel)))).trans rfl) (hIs (by decide) rfl)
            · cases ho; exact R.pick F rfl ((wantedA_is (b := false) rfl rfl rfl (show a'.eval (.tmp 108) = _ from gt 4 (by decide) (by decide) (hd 4 (by decide +kernel)))).trans rfl) (c := .tmp 110) (b := false) rfl (show a'.eval (.tmp 110) = _ from gt 6 (by decide) (by decide) (hd 6 (by decide +kernel))) (hIs (by decide) rfl)
            · cases ho; exact R.pick F rfl (wantedA_none rfl) (c := .tmp 108) (b := false) rfl (show a'.eval (.tmp 108) = _ from gt 4 (by decide) (by decide) (hd 4 (by decide +kernel))) (hIs (by decide) (show a'.eval (.tmp 121) = _ from gt 17 (by decide) (by decide) (hd 17 (by decide +kernel))))
            · cases ho; exact R.move F rfl (wantedA_none rfl) (x := .tmp 122) (.inl rfl) (hIs (by decide) (show a'.eval (.tmp 122) = _ from gt 18 (by decide) (by decide) (hd 18 (by decide +kernel))))
            · cases ho; exact R.move F rfl ((wantedA_is (b := false) rfl rfl rfl (show a'.eval (.tmp 123) = _ from gt 19 (by decide) (by decide) (hd 19 (by decide +kernel)))).trans rfl) (x := .tmp 3) (.inl rfl) (hIs (by decide) (R.slot (fun j hj => by show 104 + j ≠ 3; omega) rfl))
            · cases ho; exact R.val F rfl ((wantedA_is (b := false) rfl rfl rfl (show a'.eval (.tmp 123) = _ from gt 19 (by decide) (by decide) (hd 19 (by decide +kernel)))).trans rfl) (x_fldV rfl (R.slot (fun j hj => by show 104 + j ≠ 9; omega) rfl)) (World.grownBy.refl _ _) (hIs (by decide) rfl)
            · cases ho; exact R.val F rfl ((wantedA_is (b := false) rfl rfl rfl (show a'.eval (.tmp 123) = _ from gt 19 (by decide) (by decide) (hd 19 (by decide +kernel)))).trans rfl) (x_ldT rfl (show a'.eval (.tmp 125) = _ from gt 21 (by decide) (by decide) (hd 21 (by decide +kernel))) SW.n) (World.grownBy.refl _ _) (hIs (by decide) rfl)
            · cases ho; exact R.called F rfl ((wantedA_is (b := false) rfl rfl rfl (show a'.eval (.tmp 123) = _ from gt 19 (by decide) (by decide) (hd 19 (by decide +kernel)))).trans rfl) (f := 22) (args := #[a'.eval (.tmp 124), a'.eval (.tmp 126)]) (by kernel_rfl) (by rw [(show a'.eval (.tmp 124) = _ from gt 20 (by decide) (by decide) (hd 20 (by decide +kernel))), (show a'.eval (.tmp 126) = _ from gt 22 (by decide) (by decide) (hd 22 (by decide +kernel)))]; exact (xGet HC.out HE.out SW (Nat.le_trans HSY.out.1 (by decide)) HWS.out).mono fun _ _ ⟨h1, u, h2, h3⟩ => ⟨u, h2, (by unfold H29; rw [if_pos rfl]; exact h3), h1⟩)
            · cases ho; exact R.move F rfl ((wantedA_is (b := false) rfl rfl rfl (show a'.eval (.tmp 123) = _ from gt 19 (by decide) (by decide) (hd 19 (by decide +kernel)))).trans rfl) (x := .tmp 4) (.inl rfl) (hIs (by decide) (R.slot (fun j hj => by show 104 + j ≠ 4; omega) rfl))
            · cases ho; exact R.val F rfl ((wantedA_is (b := false) rfl rfl rfl (show a'.eval (.tmp 123) = _ from gt 19 (by decide) (by decide) (hd 19 (by decide +kernel)))).trans rfl) (x_fldV rfl (R.slot (fun j hj => by show 104 + j ≠ 9; omega) rfl)) (World.grownBy.refl _ _) (hIs (by decide) rfl)
            · cases ho; exact R.val F rfl ((wantedA_is (b := false) rfl rfl rfl (show a'.eval (.tmp 123) = _ from gt 19 (by decide) (by decide) (hd 19 (by decide +kernel)))).trans rfl) (x_ldT rfl (show a'.eval (.tmp 129) = _ from gt 25 (by decide) (by decide) (hd 25 (by decide +kernel))) SW.n) (World.grownBy.refl _ _) (hIs (by decide) rfl)
            · cases ho; exact R.called F rfl ((wantedA_is (b := false) rfl rfl rfl (show a'.eval (.tmp 123) = _ from gt 19 (by decide) (by decide) (hd 19 (by decide +kernel)))).trans rfl) (f := 23) (args := #[a'.eval (.tmp 128), a'.eval (.tmp 130)]) (by kernel_rfl) (by rw [(show a'.eval (.tmp 128) = _ from gt 24 (by decide) (by decide) (hd 24 (by decide +kernel))), (show a'.eval (.tmp 130) = _ from gt 26 (by decide) (by decide) (hd 26 (by decide +kernel)))]; exact (xGetR SW HGU.out).mono fun _ _ ⟨h1, h2⟩ => ⟨_, h1, hIs (by decide) rfl, h2⟩)
            · have h23 := gw (by cases ho; exact hd 23 (by decide +kernel))
              cases ho; exact R.called F rfl ((wantedA_is (b := false) rfl rfl rfl (show a'.eval (.tmp 123) = _ from gt 19 (by decide) (by decide) (hd 19 (by decide +kernel)))).trans rfl) (f := 21) (args := #[a'.eval (.tmp 127), a'.eval (.tmp 131)]) (by kernel_rfl) (by rw [(show a'.eval (.tmp 131) = _ from gt 27 (by decide) (by decide) (hd 27 (by decide +kernel)))]; exact (cSameT _ _ _ w' h23 (tx_nilE)).mono fun _ _ ⟨h1, m, h2⟩ => ⟨_, h1, hIs (by decide) rfl, by rw [h2]; exact grown_drewN (World.grownBy.refl _ _) m⟩)
            · cases ho; exact R.not F rfl ((wantedA_is (b := false) rfl rfl rfl (show a'.eval (.tmp 123) = _ from gt 19 (by decide) (by decide) (hd 19 (by decide +kernel)))).trans rfl) (x := .tmp 132) (b := true) rfl (show a'.eval (.tmp 132) = _ from gt 28 (by decide) (by decide) (hd 28 (by decide +kernel))) (hIs (by decide) rfl)
            · cases ho; exact R.pick F rfl (wantedA_none rfl) (c := .tmp 123) (b := false) rfl (show a'.eval (.tmp 123) = _ from gt 19 (by decide) (by decide) (hd 19 (by decide +kernel))) (hIs (by decide) (show a'.eval (.tmp 133) = _ from gt 29 (by decide) (by decide) (hd 29 (by decide +kernel))))
          · intro uu wg gg hO
            have h134 : uu 134 = .bool false := hAt (i := 30) (by decide) (hO 30 (by decide +kernel))
            have SG := Lib.hid (Sx.grown HC.out SX.out gg)
            clear gg hO SX
            simp only [List.map_cons, List.map_nil, putL, List.foldl_cons, List.foldl_nil, h134]
            clear h134
            go_simp
            have S3 := SG.out.1
            have hq3 := (sit_w S3).2
            have hlz : Z2.length ≤ 60 := by have := hOK.out.2; omega
            have hlz0 : Z.length ≤ 60 := by have := hZ.out.2; omega
            have CS1 := Lib.hid (lShowsV HC.out wg p F2 _ q _ Z2 (HC.out.gr _ _ HE.out S3.g) S3.i hq3 S3.r hlz)
            clear S3 hq3
            go_wp2_with fail
            refine CS1.out.mono ?_
            rintro e w8 ⟨rfl, g8⟩
            have S8 := Lib.hid (SG.out.1.grown HC.out g8)
            clear CS1 g8 SG
            have hw8 := (sit_w S8.out).1
            have CS2 := Lib.hid (lShowsV HC.out w8 pc Fc _ bw _ Z (HC.out.gr _ _ HE.out S8.out.g) S8.out.ic hw8 S8.out.rc hlz0)
            clear hw8
            go_wp2_with fail
            refine CS2.out.mono ?_
            rintro e w9 ⟨rfl, g9⟩
            have S9 := Lib.hid (S8.out.grown HC.out g9)
            clear CS2 g9 S8
            go_wp2
            go_roundw
            case rel => exact ⟨j + 1, F2, Z2, _, hlt, by go_num, Lib.hid S9.out.i, hOK, Lib.hid (fun b hb => ⟨(S9.out.f b hb).1, fun e => (S9.out.f b hb).2.1 (.inl e)⟩), Lib.hid S9.out.hq, Lib.hid (S9.out.r.more fun b hb _ => ⟨hb.1, hb.2.1⟩), Lib.hid S9.out.g⟩
            case measure => simp [intOf]; omega
        | some kk =>
          have hat : atZ Z2 n = (kk : Int) := by unfold atZ; rw [hi]
          obtain ⟨z, hz, hfz⟩ := find_idx hi
          have HWS := Lib.hid (show (((vbL Z2).find? (isB n)).map Vb.ws).getD [] = z.ws by rw [hfz]; rfl)
          have HGU := Lib.hid (show getU Z2 n = z.u by unfold getU; rw [hi]; simp [hz])
          have HXB := Lib.hid (HXF.out _ hfz)
          obtain rfl : zf = true := by have := HZF.out; rw [hfz] at this; exact this.symm
          rw [hat]
          obtain ⟨rb, roff, hra, -⟩ : ∃ rb roff, ra = some ⟨rb, roff, none⟩ ∧ True := by
            obtain ⟨b, off, c, y, ev, -⟩ := SX.out.1.r.at kk (List.getElem?_eq_some_iff.1 hz).1
            injection ev with e1
            exact ⟨b, off, e1, trivial⟩
          subst hra
          have hkl := (List.getElem?_eq_some_iff.1 hz).1
          have HZ := Lib.hid hz
          obtain ⟨za, zc, hzu⟩ : ∃ a c, z.u = .slice a z.ws.length c := by
            obtain ⟨a, c, h, -⟩ := (SX.out.1.r.cells hz).2
            exact ⟨a, c, h⟩
          clear hi hat hfz HXF hz HZF hrm TB0 T0
          rw [hzu] at HGU
          go_wp2_with fail
          refine wp_region_any2 (by kernel_rfl) (by kernel_rfl) (fun i => 104 + i) (H29 (tbY (kk : Int) (.agg #[.string xn, .slice xa xws.length xc, .int .i64 xlv, .bool xhd]) (.agg #[.string z.n, z.u, .int .i64 z.lv, .bool z.hd]) (.slice za z.ws.length zc) p q (bw + 1) rb roff Z2.length rc2 (roff + kk * 4) n) z.ws) [104, 105, 106, 107, 108, 109, 110, 111, 112, 113, 114, 115, 116, 117, 118, 119, 120, 121, 122, 123, 124, 125, 126, 127, 128, 129, 130, 131, 132, 133, 134] (by kernel_rfl) (fitA_of (fun i j _ _ h => by have h : 104 + j = 104 + i := h; omega) (fun i hi => by have hi : i < 31 := hi; show 104 + i < 150; omega) (by kernel_rfl) (hUp _ _)) ?_ ?_
          · intro F L a' w' i o ho R hL hd
            have hi : i < 31 := (Array.getElem?_eq_some_iff.1 ho).1
            have SW := Sx.grown HC.out SX.out R.g
            have rd := SW.reads HZ.out
            have gt : ∀ (j : Nat) (hj : j < 31) (hn : j ≠ 23), L j = true → a'.eval (.tmp (104 + j)) = (tbY (kk : Int) (.agg #[.string xn, .slice xa xws.length xc, .int .i64 xlv, .bool xhd]) (.agg #[.string z.n, z.u, .int .i64 z.lv, .bool z.hd]) (.slice za z.ws.length zc) p q (bw + 1) rb roff Z2.length rc2 (roff + kk * 4) n) j := fun j hj hn hl => hAt hn (R.at hj hl)
            have gw : L 23 = true → TxRow w' (a'.eval (.tmp 127)) z.ws := fun hl => by
              have h := R.at (j1 := 23) (by decide +kernel) hl
              unfold H29 at h
              rwa [if_pos rfl] at h
            obtain rfl | rfl | rfl | rfl | rfl | rfl | rfl | rfl | rfl | rfl | rfl | rfl | rfl | rfl | rfl | rfl | rfl | rfl | rfl | rfl | rfl | rfl | rfl | rfl | rfl | rfl | rfl | rfl | rfl | rfl | rfl : i = 0 ∨ i = 1 ∨ i = 2 ∨ i = 3 ∨ i = 4 ∨ i = 5 ∨ i = 6 ∨ i = 7 ∨ i = 8 ∨ i = 9 ∨ i = 10 ∨ i = 11 ∨ i = 12 ∨ i = 13 ∨ i = 14 ∨ i = 15 ∨ i = 16 ∨ i = 17 ∨ i = 18 ∨ i = 19 ∨ i = 20 ∨ i = 21 ∨ i = 22 ∨ i = 23 ∨ i = 24 ∨ i = 25 ∨ i = 26 ∨ i = 27 ∨ i = 28 ∨ i = 29 ∨ i = 30 := by omega
            · cases ho; exact R.move F rfl (wantedA_none rfl) (x := .tmp 12) (.inl rfl) (hIs (by decide) (R.slot (fun j hj => by show 104 + j ≠ 12; omega) rfl))
            · cases ho; exact R.move F rfl (wantedA_none rfl) (x := .tmp 13) (.inl rfl) (hIs (by decide) (R.slot (fun j hj => by show 104 + j ≠ 13; omega) rfl))
            · cases ho; exact R.val F rfl (wantedA_none rfl) (x_geq (by simp) rfl (show a'.eval (.tmp 105) = _ from gt 1 (by decide) (by decide) (hd 1 (by decide +kernel)))) (World.grownBy.refl _ _) (hIs (by decide) rfl)
            · cases ho; exact R.val F rfl (wantedA_none rfl) (x_neq rfl (show a'.eval (.tmp 104) = _ from gt 0 (by decide) (by decide) (hd 0 (by decide +kernel))) (show a'.eval (.tmp 106) = _ from gt 2 (by decide) (by decide) (hd 2 (by decide +kernel)))) (World.grownBy.refl _ _) (hIs (by decide) rfl)
            · cases ho; exact R.move F rfl (wantedA_none rfl) (x := .tmp 107) (.inl rfl) (hIs (by decide) (show a'.eval (.tmp 107) = _ from gt 3 (by decide) (by decide) (hd 3 (by decide +kernel))))
            · cases ho; exact R.move F rfl ((wantedA_is (b := false) rfl rfl rfl (show a'.eval (.tmp 108) = _ from gt 4 (by decide) (by decide) (hd 4 (by decide +kernel)))).trans rfl) (x := .tmp 12) (.inl rfl) (hIs (by decide) (R.slot (fun j hj => by show 104 + j ≠ 12; omega) rfl))
            · cases ho; exact R.move F rfl ((wantedA_is (b := false) rfl rfl rfl (show a'.eval (.tmp 108) = _ from gt 4 (by decide) (by decide) (hd 4 (by decide +kernel)))).trans rfl) (x := .tmp 109) (.inl rfl) (hIs (by decide) (show a'.eval (.tmp 109) = _ from gt 5 (by decide) (by decide) (hd 5 (by decide +kernel))))
            · cases ho; exact R.val F rfl ((wantedA_is (b := true) rfl rfl rfl (show a'.eval (.tmp 110) = _ from gt 6 (by decide) (by decide) (hd 6 (by decide +kernel)))).trans rfl) (x_ldV rfl (R.slot (fun j hj => by show 104 + j ≠ 11; omega) rfl) rd.1) (World.grownBy.refl _ _) (hIs (by decide) rfl)
            · cases ho; exact R.move F rfl ((wantedA_is (b := true) rfl rfl rfl (show a'.eval (.tmp 110) = _ from gt 6 (by decide) (by decide) (hd 6 (by decide +kernel)))).trans rfl) (x := .tmp 4) (.inl rfl) (hIs (by decide) (R.slot (fun j hj => by show 104 + j ≠ 4; omega) rfl))
            · cases ho; exact R.val F rfl ((wantedA_is (b := true) rfl rfl rfl (show a'.eval (.tmp 110) = _ from gt 6 (by decide) (by decide) (hd 6 (by decide +kernel)))).trans rfl) (x_nil rfl (show a'.eval (.tmp 112) = _ from gt 8 (by decide) (by decide) (hd 8 (by decide +kernel)))) (World.grownBy.refl _ _) (hIs (by decide) rfl)
            · cases ho; exact R.val F rfl ((wantedA_is (b := true) rfl rfl rfl (show a'.eval (.tmp 110) = _ from gt 6 (by decide) (by decide) (hd 6 (by decide +kernel)))).trans rfl) (x_fldE rfl (show a'.eval (.tmp 113) = _ from gt 9 (by decide) (by decide) (hd 9 (by decide +kernel)))) (World.grownBy.refl _ _) (hIs (by decide) rfl)
            · cases ho; exact R.val F rfl ((wantedA_is (b := true) rfl rfl rfl (show a'.eval (.tmp 110) = _ from gt 6 (by decide) (by decide) (hd 6 (by decide +kernel)))).trans rfl) (x_ldS rfl (show a'.eval (.tmp 114) = _ from gt 10 (by decide) (by decide) (hd 10 (by decide +kernel))) rd.2.2.1) (World.grownBy.refl _ _) (hIs (by decide) rfl)
            · cases ho; exact R.move F rfl ((wantedA_is (b := true) rfl rfl rfl (show a'.eval (.tmp 110) = _ from gt 6 (by decide) (by decide) (hd 6 (by decide +kernel)))).trans rfl) (x := .tmp 13) (.inl rfl) (hIs (by decide) (R.slot (fun j hj => by show 104 + j ≠ 13; omega) rfl))
            · cases ho; exact R.val F rfl ((wantedA_is (b := true) rfl rfl rfl (show a'.eval (.tmp 110) = _ from gt 6 (by decide) (by decide) (hd 6 (by decide +kernel)))).trans rfl) (x_idx hkl rfl (show a'.eval (.tmp 115) = _ from gt 11 (by decide) (by decide) (hd 11 (by decide +kernel))) (show a'.eval (.tmp 116) = _ from gt 12 (by decide) (by decide) (hd 12 (by decide +kernel)))) (World.grownBy.refl _ _) (hIs (by decide) rfl)
            · cases ho; exact R.val F rfl ((wantedA_is (b := true) rfl rfl rfl (show a'.eval (.tmp 110) = _ from gt 6 (by decide) (by decide) (hd 6 (by decide +kernel)))).trans rfl) (x_ldR rfl (show a'.eval (.tmp 117) = _ from gt 13 (by decide) (by decide) (hd 13 (by decide +kernel))) rd.2.2.2) (World.grownBy.refl _ _) (hIs (by decide) rfl)
            · cases ho; exact R.called F rfl ((wantedA_is (b := true) rfl rfl rfl (show a'.eval (.tmp 110) = _ from gt 6 (by decide) (by decide) (hd 6 (by decide +kernel)))).trans rfl) (f := 20) (args := #[a'.eval (.tmp 111), a'.eval (.tmp 118)]) (by kernel_rfl) (by rw [(show a'.eval (.tmp 111) = _ from gt 7 (by decide) (by decide) (hd 7 (by decide +kernel))), (show a'.eval (.tmp 118) = _ from gt 14 (by decide) (by decide) (hd 14 (by decide +kernel)))]; exact (xSame SW HZ.out HXB.out).mono fun _ _ ⟨h1, h2⟩ => ⟨_, h1, hIs (by decide) rfl, h2⟩)
            · cases ho; exact R.not F rfl ((wantedA_is (b := true) rfl rfl rfl (show a'.eval (.tmp 110) = _ from gt 6 (by decide) (by decide) (hd 6 (by decide +kernel)))).trans rfl) (x := .tmp 119) (b := true) rfl (show a'.eval (.tmp 119) = _ from gt 15 (by decide) (by decide) (hd 15 (by decide +kernel))) (hIs (by decide) rfl)
            · cases ho; exact R.pick F rfl ((wantedA_is (b := false) rfl rfl rfl (show a'.eval (.tmp 108) = _ from gt 4 (by decide) (by decide) (hd 4 (by decide +kernel)))).trans rfl) (c := .tmp 110) (b := true) rfl (show a'.eval (.tmp 110) = _ from gt 6 (by decide) (by decide) (hd 6 (by decide +kernel))) (hIs (by decide) (show a'.eval (.tmp 120) = _ from gt 16 (by decide) (by decide) (hd 16 (by decide +kernel))))
            · cases ho; exact R.pick F rfl (wantedA_none rfl) (c := .tmp 108) (b := false) rfl (show a'.eval (.tmp 108) = _ from gt 4 (by decide) (by decide) (hd 4 (by decide +kernel))) (hIs (by decide) (show a'.eval (.tmp 121) = _ from gt 17 (by decide) (by decide) (hd 17 (by decide +kernel))))
            · cases ho; exact R.move F rfl (wantedA_none rfl) (x := .tmp 122) (.inl rfl) (hIs (by decide) (show a'.eval (.tmp 122) = _ from gt 18 (by decide) (by decide) (hd 18 (by decide +kernel))))
            · cases ho; exact R.move F rfl ((wantedA_is (b := false) rfl rfl rfl (show a'.eval (.tmp 123) = _ from gt 19 (by decide) (by decide) (hd 19 (by decide +kernel)))).trans rfl) (x := .tmp 3) (.inl rfl) (hIs (by decide) (R.slot (fun j hj => by show 104 + j ≠ 3; omega) rfl))
            · cases ho; exact R.val F rfl ((wantedA_is (b := false) rfl rfl rfl (show a'.eval (.tmp 123) = _ from gt 19 (by decide) (by decide) (hd 19 (by decide +kernel)))).trans rfl) (x_fldV rfl (R.slot (fun j hj => by show 104 + j ≠ 9; omega) rfl)) (World.grownBy.refl _ _) (hIs (by decide) rfl)
            · cases ho; exact R.val F rfl ((wantedA_is (b := false) rfl rfl rfl (show a'.eval (.tmp 123) = _ from gt 19 (by decide) (by decide) (hd 19 (by decide +kernel)))).trans rfl) (x_ldT rfl (show a'.eval (.tmp 125) = _ from gt 21 (by decide) (by decide) (hd 21 (by decide +kernel))) SW.n) (World.grownBy.refl _ _) (hIs (by decide) rfl)
            · cases ho; exact R.called F rfl ((wantedA_is (b := false) rfl rfl rfl (show a'.eval (.tmp 123) = _ from gt 19 (by decide) (by decide) (hd 19 (by decide +kernel)))).trans rfl) (f := 22) (args := #[a'.eval (.tmp 124), a'.eval (.tmp 126)]) (by kernel_rfl) (by rw [(show a'.eval (.tmp 124) = _ from gt 20 (by decide) (by decide) (hd 20 (by decide +kernel))), (show a'.eval (.tmp 126) = _ from gt 22 (by decide) (by decide) (hd 22 (by decide +kernel)))]; exact (xGet HC.out HE.out SW (Nat.le_trans HSY.out.1 (by decide)) HWS.out).mono fun _ _ ⟨h1, u, h2, h3⟩ => ⟨u, h2, (by unfold H29; rw [if_pos rfl]; exact h3), h1⟩)
            · cases ho; exact R.move F rfl ((wantedA_is (b := false) rfl rfl rfl (show a'.eval (.tmp 123) = _ from gt 19 (by decide) (by decide) (hd 19 (by decide +kernel)))).trans rfl) (x := .tmp 4) (.inl rfl) (hIs (by decide) (R.slot (fun j hj => by show 104 + j ≠ 4; omega) rfl))
            · cases ho; exact R.val F rfl ((wantedA_is (b := false) rfl rfl rfl (show a'.eval (.tmp 123) = _ from gt 19 (by decide) (by decide) (hd 19 (by decide +kernel)))).trans rfl) (x_fldV rfl (R.slot (fun j hj => by show 104 + j ≠ 9; omega) rfl)) (World.grownBy.refl _ _) (hIs (by decide) rfl)
            · cases ho; exact R.val F rfl ((wantedA_is (b := false) rfl rfl rfl (show a'.eval (.tmp 123) = _ from gt 19 (by decide) (by decide) (hd 19 (by decide +kernel)))).trans rfl) (x_ldT rfl (show a'.eval (.tmp 129) = _ from gt 25 (by decide) (by decide) (hd 25 (by decide +kernel))) SW.n) (World.grownBy.refl _ _) (hIs (by decide) rfl)
            · cases ho; exact R.called F rfl ((wantedA_is (b := false) rfl rfl rfl (show a'.eval (.tmp 123) = _ from gt 19 (by decide) (by decide) (hd 19 (by decide +kernel)))).trans rfl) (f := 23) (args := #[a'.eval (.tmp 128), a'.eval (.tmp 130)]) (by kernel_rfl) (by rw [(show a'.eval (.tmp 128) = _ from gt 24 (by decide) (by decide) (hd 24 (by decide +kernel))), (show a'.eval (.tmp 130) = _ from gt 26 (by decide) (by decide) (hd 26 (by decide +kernel)))]; exact (xGetR SW HGU.out).mono fun _ _ ⟨h1, h2⟩ => ⟨_, h1, hIs (by decide) rfl, h2⟩)
            · have h23 := gw (by cases ho; exact hd 23 (by decide +kernel))
              cases ho; exact R.called F rfl ((wantedA_is (b := false) rfl rfl rfl (show a'.eval (.tmp 123) = _ from gt 19 (by decide) (by decide) (hd 19 (by decide +kernel)))).trans rfl) (f := 21) (args := #[a'.eval (.tmp 127), a'.eval (.tmp 131)]) (by kernel_rfl) (by rw [(show a'.eval (.tmp 131) = _ from gt 27 (by decide) (by decide) (hd 27 (by decide +kernel)))]; exact (cSameT _ _ _ w' h23 (tx_z SW HZ.out hzu)).mono fun _ _ ⟨h1, m, h2⟩ => ⟨_, h1, hIs (by decide) rfl, by rw [h2]; exact grown_drewN (World.grownBy.refl _ _) m⟩)
            · cases ho; exact R.not F rfl ((wantedA_is (b := false) rfl rfl rfl (show a'.eval (.tmp 123) = _ from gt 19 (by decide) (by decide) (hd 19 (by decide +kernel)))).trans rfl) (x := .tmp 132) (b := true) rfl (show a'.eval (.tmp 132) = _ from gt 28 (by decide) (by decide) (hd 28 (by decide +kernel))) (hIs (by decide) rfl)
            · cases ho; exact R.pick F rfl (wantedA_none rfl) (c := .tmp 123) (b := false) rfl (show a'.eval (.tmp 123) = _ from gt 19 (by decide) (by decide) (hd 19 (by decide +kernel))) (hIs (by decide) (show a'.eval (.tmp 133) = _ from gt 29 (by decide) (by decide) (hd 29 (by decide +kernel))))
          · intro uu wg gg hO
            have h134 : uu 134 = .bool false := hAt (i := 30) (by decide) (hO 30 (by decide +kernel))
            have SG := Lib.hid (Sx.grown HC.out SX.out gg)
            clear gg hO SX
            simp only [List.map_cons, List.map_nil, putL, List.foldl_cons, List.foldl_nil, h134]
            clear h134
            go_simp
            have S3 := SG.out.1
            have hq3 := (sit_w S3).2
            have hlz : Z2.length ≤ 60 := by have := hOK.out.2; omega
            have hlz0 : Z.length ≤ 60 := by have := hZ.out.2; omega
            have CS1 := Lib.hid (lShowsV HC.out wg p F2 _ q _ Z2 (HC.out.gr _ _ HE.out S3.g) S3.i hq3 S3.r hlz)
            clear S3 hq3
            go_wp2_with fail
            refine CS1.out.mono ?_
            rintro e w8 ⟨rfl, g8⟩
            have S8 := Lib.hid (SG.out.1.grown HC.out g8)
            clear CS1 g8 SG
            have hw8 := (sit_w S8.out).1
            have CS2 := Lib.hid (lShowsV HC.out w8 pc Fc _ bw _ Z (HC.out.gr _ _ HE.out S8.out.g) S8.out.ic hw8 S8.out.rc hlz0)
            clear hw8
            go_wp2_with fail
            refine CS2.out.mono ?_
            rintro e w9 ⟨rfl, g9⟩
            have S9 := Lib.hid (S8.out.grown HC.out g9)
            clear CS2 g9 S8
            go_wp2
            go_roundw
            case rel => exact ⟨j + 1, F2, Z2, _, hlt, by go_num, Lib.hid S9.out.i, hOK, Lib.hid (fun b hb => ⟨(S9.out.f b hb).1, fun e => (S9.out.f b hb).2.1 (.inl e)⟩), Lib.hid S9.out.hq, Lib.hid (S9.out.r.more fun b hb _ => ⟨hb.1, hb.2.1⟩), Lib.hid S9.out.g⟩
            case measure => simp [intOf]; omega
    · go_wp2
      go_ret
      exact ⟨rfl, hG.out⟩
end Go.Proofs.YtaihpgjimhifcaaDoor

/- ends walked. -/
import Derived.Test.YtlkjejmmoalliaaGreatDoorDenStart
import Derived.Deep.RegionHeld3
import Derived.Deep.RegionLaw
namespace Go.Proofs.YtlkjejmmoalliaaGreatDoor
open Go.RowKit

theorem own_low {w : World} {b b' s n : Nat} {e : TypeId} {v : Value} {xs : List Value} (h : w.ownsRow b e s v n xs) (hb : b' ≤ b) : w.ownsRow b' e s v n xs := by
  refine ⟨h.1, h.2.imp_right ?_⟩
  rintro ⟨g, cap, cur, e1, hg, h3⟩
  exact ⟨g, cap, cur, e1, Nat.le_trans hb hg, h3⟩
/-- the walk comes to the next place -/
theorem ExW.place {w0 wb w w1 : World} {base P Lb p fr : Nat} {s : ByteArray} {G : List Pr} {X : List (Value × Option Nat)} {fz : Nat → Prop} {F : List (Nat × Nat)} {st : List Nat} {vh hs vn ns vl}
    (h : StW w0 wb base P Lb s G X fz F p vh hs (hrF G st fr F p) vn ns (hrF G st fr F (p + 1)) vl w) (e : w1 = w.setCell ⟨P, 1, none⟩ (.int .i64 ((p : Int) + 1))) : EntW w0 wb base P Lb s G X fz st fr (p + 1) F w1 := by
  subst e
  have g := grown_cell w P 1 (.int .i64 ((p : Int) + 1))
  have hne : ∀ b, b ≠ P → some b ≠ some P := fun b hb e => hb (by cases e; rfl)
  have hPL : Lb ≠ P := fun e => by have := h.wL; rw [e, h.wP] at this; simp at this
  have q := heap_setCell_same w P 1 _ _ (.int .i64 ((p : Int) + 1)) h.wP
  have hPb := h.hP
  refine ⟨vh, hs, _, vn, ns, vl, h.turn (h.gr.andThen g (fun k e => .inl (by cases e; exact hPb.1))) (Nat.le_trans h.bs g.size) (fun b hb => g.block b (by have := (h.sep b hb).1; have := h.bs; omega) (hne b (h.sep b hb).2.1)) (p' := p + 1) (by simpa using q) ((g.block Lb h.ltL (hne Lb hPL)).trans h.wL)
    (h.oH.kept g (.inr (own_type h.oH h.wP (by decide)))) (h.oN.kept g (.inr (own_type h.oN h.wP (by decide)))) (h.oL.kept g (.inr (own_type h.oL h.wP (by decide)))) h.ap h.lH h.lN h.aH h.aN ?_ (fun x hx => Nat.le_succ_of_le (h.le x hx))⟩
  intro u t hu
  obtain ⟨v, bb, z, h1, h2, h3⟩ := h.be u t hu
  exact ⟨v, bb, z, h1, (g.block bb (cells_lt h2) (hne bb (h.bsp u v bb h1).2.2.1)).trans h2, h3⟩

/-- what ends answers -/
def EndsOut (n : Ni) (s : ByteArray) (fr last : Int) (w : World) (e : Ending) (w' : World) : Prop :=
  w.grownBy w' none ∧ ∃ (v : Value) (l : List Nat), e = .returned v ∧ w'.ownsRow w.heap.size 3 1 v l.length (l.map fun (r : Nat) => Value.int .i64 r) ∧ l.Pairwise (· < ·) ∧ ∀ r : Nat, r ∈ l ↔ (0 ≤ fr ∧ fr ≤ s.size ∧ rgtN n = true ∧ (r : Int) ≤ last ∧ SpN s n fr.toNat r)
theorem endsNo {n : Ni} {s : ByteArray} {fr last : Int} {w w' : World} (g : w.grownBy w' none) (h : ¬(0 ≤ fr ∧ fr ≤ s.size ∧ rgtN n = true)) : EndsOut n s fr last w (.returned (.slice none 0 0)) w' :=
  ⟨g, _, [], rfl, World.ownsRow_nil _ _ _ _, by simp, fun r => by
    constructor
    · intro h; cases h
    · rintro ⟨h1, h2, h3, -⟩; exact (h ⟨h1, h2, h3⟩).elim⟩
theorem own_newS {w : World} {base g : Nat} {e : TypeId} {v : Value} (hg : base ≤ g) (h : w.heap[g]? = some (.cells #[v] e (0, 0))) : w.ownsRow base e 1 (.slice (some ⟨g, 0, none⟩) 1 1) 1 [v] :=
  ⟨rfl, .inr ⟨g, 1, #[v], rfl, hg, h, Nat.le_refl _, by unfold maxLen; omega, by simp, by simp⟩⟩
theorem endsYes {n : Ni} {s : ByteArray} {fr p base P Lb : Nat} {last : Int} {w w' wb : World} {X : List (Value × Option Nat)} {fz : Nat → Prop} {F : List (Nat × Nat)} {vh hs H vn ns N vl}
    (h : StW w wb base P Lb s (stgN s.size n) X fz F p vh hs H vn ns N vl w') (hb : w.heap.size ≤ base) (hr : rgtN n = true) (hfr : fr ≤ s.size)
    (hl : (outF (stgN s.size n) F).Pairwise (· < ·) ∧ ∀ r, r ∈ outF (stgN s.size n) F ↔ ((r : Int) ≤ last ∧ ∃ k, AccL (stgN s.size n) s k (strN s.size n) fr r)) : EndsOut n s fr last w (.returned vl) w' := by
  refine ⟨h.gr, vl, outF (stgN s.size n) F, rfl, ?_, hl.1, fun r => ?_⟩
  · have := own_low h.oL hb
    unfold outV at this
    simpa using this
  · rw [hl.2, stg_acc hr]
    constructor
    · rintro ⟨h1, h2⟩; exact ⟨by omega, by omega, hr, h1, by simpa using h2⟩
    · rintro ⟨-, -, -, h1, h2⟩; exact ⟨h1, by simpa using h2⟩
set_option maxRecDepth 100000 in
set_option maxHeartbeats 8000000 in
theorem cEnds_yes {n : Ni} {a : Option Addr} {m c fr : Nat} {last : Int} {s : ByteArray} {w : World} (hsz : szN n ≤ 200) (hs : s.size ≤ 1000) (hlast : last ≤ s.size + 1) (hfr : fr ≤ s.size) (hr : rgtN n = true) (hB : (stgN s.size n).length * (s.size + 3) ≤ 50000) (hK : KidsE w (.slice a m c) n.kids) :
    Calls Tryz.prog 21 #[niV n (.slice a m c), .string s, .int .i64 fr, .int .i64 last] w fun e w' => EndsOut n s fr last w e w' := by
  have HR := Lib.hid (fun w h => cRight 200 n a m c w hsz (Nat.le_refl _) h)
  rw [hr] at HR
  have ga := World.grownBy_alloc w (.cells #[.int .i64 n.kind, .int .i64 n.index, .int .u64 (wd n.set 0), .int .u64 (wd n.set 1), .int .u64 (wd n.set 2), .int .u64 (wd n.set 3), .slice a m c] 28) none
  have B1 := Lib.hid (heap_alloc_new w (.cells #[.int .i64 n.kind, .int .i64 n.index, .int .u64 (wd n.set 0), .int .u64 (wd n.set 1), .int .u64 (wd n.set 2), .int .u64 (wd n.set 3), .slice a m c] 28))
  have K1 := Lib.hid (hK.grown ga)
  have G1 := Lib.hid ga
  have HT := Lib.hid (fun P w hW bv hb hk => cThrough P s 200 n hsz (Nat.le_refl _) bv a m c w hW hb hr hk)
  have HBB := Lib.hid hB
  have HSZ := Lib.hid hsz
  have HL := Lib.hid hlast
  have HRT := Lib.hid hr
  clear ga hK hr hB hsz hlast
  go_enter Tryz.func21, Tryz.ntmps21
  go_upto_region 1 with fail
  generalize w.alloc _ = w1 at B1 K1 G1 ⊢
  generalize w.heap.size = q at B1 ⊢
  obtain ⟨c0, c1, c2, c3, c4, c5, c6⟩ := seven_cells B1.out
  have hgt : ¬ ((s.size : Int) < fr) := by omega
  go_upto_region 5 with (go_at_call 28; refine (HR.out _ K1.out).mono ?_; rintro e w2 ⟨rfl, g2⟩)
  have h3 := heap3 w2 (.cells #[.slice none 0 0] 37) (.cells #[.string s, .int .i64 fr, .slice none 0 0, .slice none 0 0] 93) (.cells #[ptrV (w2.heap.size + 1)] 90)
  have H3 := Lib.hid h3
  have gq := Lib.hid (g2.trans h3.2.2.2)
  have HL0 := Lib.hid (show w.heap.size ≤ w2.heap.size from (G1.out.trans g2).size)
  clear h3 c0 c1 c2 c3 c4 c5 c6 g2
  generalize ((w2.alloc _).alloc _).alloc _ = w3 at H3 gq ⊢
  generalize w2.heap.size = L at H3 HL0 ⊢
  have B3 := Lib.hid (heap_grown gq.out B1.out)
  obtain ⟨s0, s1, s2, s3, s4, s5, s6⟩ := seven_cells B3.out
  have z0 := one_cell H3.out.2.2.1
  have CT := Lib.hid (fun W (g : w3.grownBy W none) => HT.out (L + 1) W ⟨_, _, _, heap_grown g H3.out.2.1⟩ (clo 43 #[ptrV L, ptrV (L + 1 + 1)]) ⟨_, _, rfl⟩ (K1.out.grown (gq.out.trans g)))
  go_cut [] from 28 to 35 (fun wx => ∃ (base : Nat) (X : List (Value × Option Nat)) (fz : Nat → Prop), Hid (EntW w wx base (L + 1) L s (stgN s.size n) X fz (strN s.size n) fr fr [] wx) ∧ Hid (fz (L + 1 + 1) ∧ wx.heap[L + 1 + 1]? = some (.cells #[ptrV (L + 1)] 90 (0, 0))) ∧ Hid (w.heap.size ≤ base))
  case first =>
    go_region_law (first
      | (refine step_callP (by rfl) 42 #[ptrV (L + 1), niV n (.slice a m c), clo 43 #[ptrV L, ptrV (L + 1 + 1)]] (by go_simp) (CT.out _ (grown_drew (World.grownBy.refl _ _))) ?_; rintro e w5 ⟨g5, v, xs, rfl, hfv, hM⟩; obtain ⟨vf, vcl, rfl⟩ := hfv; refine ⟨_, rfl, ?_⟩; have Q5 := Lib.hid (heap_grown ((grown_drew (World.grownBy.refl _ _)).trans g5) H3.out.2.1); obtain ⟨q0, q1, q2, q5⟩ := four_cells Q5.out; have q6 := fun ob => (World.grownBy_alloc w5 ob none).cell q5 (by simp); have f6 := fun ob => four_free (heap_grown (World.grownBy_alloc w5 ob none) Q5.out) 3; have Y5 := Lib.hid (heap_grown ((grown_drew (World.grownBy.refl _ _)).trans g5) H3.out.2.2.1); have y5 := one_cell Y5.out; have y6 := fun ob => (World.grownBy_alloc w5 ob none).cell y5 (by simp)))
    all_goals
      go_wp2_with fail
      go_meet
      have gd := grown_drew (World.grownBy.refl w3 none)
      have gW := (World.grownBy_alloc w5 (.cells #[clo vf vcl] 94) (some (L + 1))).andThen (grown_cell _ (L + 1) 3 (.slice (some ⟨w5.heap.size, 0, none⟩) 1 1)) (fun k e => .inr e)
      have q3 := heap_setCell_same _ (L + 1) 3 _ _ (.slice (some ⟨w5.heap.size, 0, none⟩) 1 1) (heap_grown (World.grownBy_alloc w5 (.cells #[clo vf vcl] 94) none) Q5.out)
      have l1 := cells_lt H3.out.1
      have l2 := cells_lt H3.out.2.1
      have l3 := cells_lt H3.out.2.2.1
      have l4 := (gd.trans g5).size
      have L5 := heap_grown (gd.trans g5) H3.out.1
      have HL5 := HL0.out
      have b' := (gW.block (L + 1 + 1) (by omega) (fun e => by cases e)).trans Y5.out
      refine ⟨w5.heap.size, _, _, Lib.hid (start_w hM ⟨by omega, l2⟩ ⟨by omega, l1⟩ l3 (by omega) (by omega) (grown_drew (G1.out.trans gq.out)) g5 gW q3 ((gW.block L (by omega) (fun e => by cases e)).trans L5) b' ?_), Lib.hid ⟨.inr rfl, b'⟩, Lib.hid ((G1.out.trans gq.out).trans (gd.trans g5)).size⟩
      exact own_newS (by simp) (heap_setCell_other _ ⟨L + 1, 3, none⟩ w5.heap.size _ (by simp; omega) |>.trans (heap_alloc_new w5 _))
  case rest =>
    obtain ⟨base, X, fz, HE, HBW, HBS⟩ := hcut
    clear s0 s1 s2 s3 s4 s5 s6 z0 CT B3 H3 gq B1 K1 G1 HT HR HL0
    go_wp2
    go_loopw [] (fun wr => ∃ (p : Nat) (F : List (Nat × Nat)), wr.cell? ⟨L + 1, 1, none⟩ = some (.int .i64 p) ∧ Hid (PI (stgN s.size n) s (strN s.size n) fr F p 0 []) ∧ Hid ((∀ x ∈ F, x.2 < p ∧ (x.2 : Int) ≤ last) ∧ p ≤ s.size + 2) ∧ Hid (EntW w wc base (L + 1) L s (stgN s.size n) X fz (strN s.size n) fr p F wr)) (fun wr => 1200 - (match wr.cell? ⟨L + 1, 1, none⟩ with | some v => (intOf v).toNat | none => 0))
    case atStart =>
      refine ⟨fr, [], ?_, Lib.hid (PI.start _ _ _ _), Lib.hid ⟨by simp, by omega⟩, HE⟩
      obtain ⟨_, _, _, _, _, _, hS⟩ := HE.out
      exact (four_cells hS.wP).2.1
    case round =>
      obtain ⟨p, F, hp, HPI, HF, HE2⟩ := hrel
      obtain ⟨vh, hs', H, vn, ns, vl, hS0⟩ := HE2.out
      have hS := Lib.hid hS0
      clear hS0
      obtain ⟨na, nc, rfl⟩ := owns_shape hS.out.oN
      obtain ⟨p0, p1, p2, p3⟩ := four_cells hS.out.wP
      have zb := one_cell ((hS.out.fx _ HBW.out.1).trans HBW.out.2)
      have hln := hS.out.lN
      have hps := HF.out.2
      by_cases h1 : (p : Int) ≤ last
      · by_cases h2 : 0 < ns.length
        · have h12 : (0 : Int) < ns.length := by omega
          have hp2 := HL.out
          have HD := Lib.hid (cAllHere (fun u h => stg_lin h) (stg_shrt HSZ.out) rfl HPI.out (fun x hx => (HF.out.1 x hx).1) (Nat.le_trans (Nat.mul_le_mul_left _ (by omega)) HBB.out) HE2.out)
          clear hS hln p0 p2 HE2 hp2
          go_wp2_with (go_at_call 44; (with_reducible refine (HD.out).mono ?_); rintro e w3 ⟨rfl, F', k1, k2, vh2, hs2, vn2, ns2, vl2, k3⟩; have HS3 := Lib.hid k3; have K1 := Lib.hid k1; have K2 := Lib.hid k2; obtain ⟨y0, y1, y2, y3⟩ := four_cells HS3.out.wP; have y4 := one_cell ((HS3.out.fx _ HBW.out.1).trans HBW.out.2); have y5 := four_free HS3.out.wP; clear k1 k2 k3 HD)
          have hnew := (four_cells (show (w3.setCell ⟨L + 1, 1, none⟩ (.int .i64 ((p : Int) + 1))).heap[L + 1]? = some (.cells #[_, .int .i64 ((p + 1 : Nat) : Int), _, _] _ (0, 0)) from heap_setCell_same w3 (L + 1) 1 _ _ (.int .i64 ((p : Int) + 1)) HS3.out.wP)).2.1
          go_roundw
          case rel => exact ⟨p + 1, F', hnew, K1, Lib.hid ⟨fun x hx => ⟨by have := K2.out x hx; omega, by have := K2.out x hx; omega⟩, by have := HL.out; omega⟩, Lib.hid (ExW.place HS3.out rfl)⟩
          case measure => simp only [hp, hnew, intOf, Int.toNat_natCast]; exact Nat.sub_lt_sub_left (by omega) (Nat.lt_succ_self p)
        · have h12 : ¬ (0 : Int) < ns.length := by omega
          have hz := one_cell hS.out.wL
          go_wp2
          go_ret
          exact endsYes hS.out HBS.out HRT.out hfr (run_list HPI.out (fun x hx => (HF.out.1 x hx).1) (fun x hx => (HF.out.1 x hx).2) (.inr (List.length_eq_zero_iff.1 (by omega))) rfl (fun u h => stg_add h))
      · have hz := one_cell hS.out.wL
        go_wp2
        go_ret
        exact endsYes hS.out HBS.out HRT.out hfr (run_list HPI.out (fun x hx => (HF.out.1 x hx).1) (fun x hx => (HF.out.1 x hx).2) (.inl (by omega)) rfl (fun u h => stg_add h))
set_option maxRecDepth 100000 in
set_option maxHeartbeats 4000000 in
theorem cEnds_no {n : Ni} {a : Option Addr} {m c : Nat} {fr last : Int} {s : ByteArray} {w : World} (hsz : szN n ≤ 200) (h : ¬(0 ≤ fr ∧ fr ≤ s.size ∧ rgtN n = true)) (hK : KidsE w (.slice a m c) n.kids) :
    Calls Tryz.prog 21 #[niV n (.slice a m c), .string s, .int .i64 fr, .int .i64 last] w fun e w' => EndsOut n s fr last w e w' := by
  have HN := Lib.hid (fun w' (g : w.grownBy w' none) => endsNo (n := n) (s := s) (fr := fr) (last := last) g h)
  have HR := Lib.hid (fun w h => cRight 200 n a m c w hsz (Nat.le_refl _) h)
  have ga := World.grownBy_alloc w (.cells #[.int .i64 n.kind, .int .i64 n.index, .int .u64 (wd n.set 0), .int .u64 (wd n.set 1), .int .u64 (wd n.set 2), .int .u64 (wd n.set 3), .slice a m c] 28) none
  have B1 := Lib.hid (heap_alloc_new w (.cells #[.int .i64 n.kind, .int .i64 n.index, .int .u64 (wd n.set 0), .int .u64 (wd n.set 1), .int .u64 (wd n.set 2), .int .u64 (wd n.set 3), .slice a m c] 28))
  have K1 := Lib.hid (hK.grown ga)
  have G1 := Lib.hid ga
  clear ga hK hsz
  by_cases h1 : fr < 0
  · clear h
    go_enter Tryz.func21, Tryz.ntmps21
    go_upto_region 1 with fail
    generalize w.alloc _ = w1 at B1 K1 G1 ⊢
    generalize w.heap.size = q at B1 ⊢
    go_wp2
    go_ret
    exact HN.out _ G1.out
  by_cases h2 : (s.size : Int) < fr
  · clear h
    go_enter Tryz.func21, Tryz.ntmps21
    go_upto_region 1 with fail
    generalize w.alloc _ = w1 at B1 K1 G1 ⊢
    generalize w.heap.size = q at B1 ⊢
    go_wp2
    go_ret
    exact HN.out _ G1.out
  have hr : rgtN n = false := by
    cases e : rgtN n
    · rfl
    · exact (h ⟨by omega, by omega, e⟩).elim
  rw [hr] at HR
  have h3 : 0 ≤ fr := by omega
  have h4 : fr ≤ s.size := by omega
  clear h hr h1
  go_enter Tryz.func21, Tryz.ntmps21
  go_upto_region 1 with fail
  generalize w.alloc _ = w1 at B1 K1 G1 ⊢
  generalize w.heap.size = q at B1 ⊢
  obtain ⟨c0, c1, c2, c3, c4, c5, c6⟩ := seven_cells B1.out
  go_wp2_with (go_at_call 28; refine (HR.out _ K1.out).mono ?_; rintro e w2 ⟨rfl, g2⟩; have G2 := Lib.hid (G1.out.trans g2); clear g2)
  go_ret
  exact HN.out _ G2.out
/-- how often all could go on -/
theorem stg_small {n : Ni} {e : Nat} (h : szN n ≤ 200) (he : e ≤ 100) : (stgN e n).length * (e + 3) ≤ 50000 := by
  have h1 := stg_len e n
  have h2 := cn_le n
  have h3 : (stgN e n).length ≤ 401 := by omega
  exact Nat.le_trans (Nat.mul_le_mul h3 (show e + 3 ≤ 103 by omega)) (by omega)
theorem cEnds (n : Ni) (a : Option Addr) (m c : Nat) (fr last : Int) (s : ByteArray) (w : World) (hsz : szN n ≤ 200) (hs : s.size ≤ 100) (hlast : last ≤ s.size + 1) (hK : KidsE w (.slice a m c) n.kids) :
    Calls Tryz.prog 21 #[niV n (.slice a m c), .string s, .int .i64 fr, .int .i64 last] w fun e w' => EndsOut n s fr last w e w' := by
  by_cases h : 0 ≤ fr ∧ fr ≤ s.size ∧ rgtN n = true
  · obtain ⟨h1, h2, h3⟩ := h
    obtain ⟨k, rfl⟩ := Int.eq_ofNat_of_zero_le h1
    exact cEnds_yes hsz (by omega) hlast (by omega) h3 (stg_small hsz hs) hK
  · exact cEnds_no hsz h hK
end Go.Proofs.YtlkjejmmoalliaaGreatDoor

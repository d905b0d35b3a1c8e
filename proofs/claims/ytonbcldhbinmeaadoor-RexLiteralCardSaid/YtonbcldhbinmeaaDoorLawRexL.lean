/- The law RexLiteral, walked. -/
import Derived.Test.YtonbcldhbinmeaaDoorRexLit
import Derived.Test.YtonbcldhbinmeaaDoorClsCnt
namespace Go.Proofs.YtonbcldhbinmeaaDoor
open Go.RowKit

/-- the document's node as a value, opaque -/
theorem eqN_same {a b : Nd} (h : a = b) : eqN a b = true := by rw [h]; exact eqN_refl b

set_option maxRecDepth 100000 in
set_option maxHeartbeats 4000000 in
theorem lRexLiteral (A : Nat → Addr) (s : ByteArray) (w : World) (hE : PEnv A w) (hs : s.size ≤ 9223372036854775807) :
    Calls Tryd.prog 5 #[.string s] w fun e w' => e = .returned (.bool true) ∧ w.grownBy w' none := by
  have HE := Lib.hid hE
  clear hE
  go_enter Tryd.func5, Tryd.ntmps5
  go_wp2_with fail
  refine (lAlive7 A w HE.out).mono ?_
  rintro e w1 ⟨rfl, g1⟩
  have G1 := Lib.hid g1
  have E1 := Lib.hid (HE.out.grown g1)
  clear g1 HE
  by_cases h30 : s.size > 30
  · have hd : decide ((s.size : Int) > 30) = true := by simp; omega
    go_wp2
    go_ret
    exact ⟨rfl, G1.out⟩
  · have hd : decide ((s.size : Int) > 30) = false := by simp; omega
    have h30' : s.size ≤ 30 := by omega
    clear hs h30
    go_wp2
    go_loop [3, 4] (fun t i => ∃ (k : Nat) (x : ByteArray), k ≤ s.size ∧ i = .int .i64 k ∧ t = .string x ∧ x.size ≤ 60 ∧ Hid (EscT s k x)) (fun _ i => s.size - (intOf i).toNat)
    case atStart => exact ⟨0, ⟨#[]⟩, Nat.zero_le _, rfl, rfl, by decide, Lib.hid rfl⟩
    case round =>
      obtain ⟨k, x, hk, rfl, rfl, hx, hT⟩ := hrel
      by_cases hlt : k < s.size
      · have HS := Lib.hid (hT.out.step hlt)
        have HZ := Lib.hid (HS.out.size (Nat.succ_le_of_lt hlt))
        go_wp2
        go_round
        case rel => exact ⟨k + 1, _, by omega, by go_num, rfl, by rw [HZ.out]; omega, HS⟩
        case measure => simp [intOf]; omega
      · obtain rfl : k = s.size := by omega
        have HP := Lib.hid (par_esc hT.out h30')
        have CP := Lib.hid (cParse A x w1 (by omega) E1.out)
        have CL := Lib.hid (fun w => cLiteral s (by omega) w)
        clear hT hlt hk
        go_wp2_with fail
        refine CP.out.mono ?_
        rintro e w2 ⟨⟨a, m, c, he, hK⟩, g2⟩
        rw [HP.out] at he hK
        have HLS := Lib.hid (show sizN (litN s) ≤ 200 by have := par_siz x; rwa [HP.out] at this)
        obtain ⟨n, hn⟩ : ∃ n, n = litN s := ⟨_, rfl⟩
        simp only [← hn, errV_zero] at he hK HLS
        have HN := Lib.hid hn
        clear hn
        subst he
        have ga := World.grownBy_alloc w2 (.cells #[.int .i64 n.kind, .int .i64 n.index, .int .u64 (wd n.set 0), .int .u64 (wd n.set 1), .int .u64 (wd n.set 2), .int .u64 (wd n.set 3), .slice a m c] 28) none
        have G3 := Lib.hid ((G1.out.trans g2).trans ga)
        have K3 := Lib.hid (hK.grown ga)
        have B3 := Lib.hid (heap_alloc_new w2 (.cells #[.int .i64 n.kind, .int .i64 n.index, .int .u64 (wd n.set 0), .int .u64 (wd n.set 1), .int .u64 (wd n.set 2), .int .u64 (wd n.set 3), .slice a m c] 28))
        clear g2 ga hK
        go_upto_region 11 with fail
        generalize w2.alloc _ = w3 at G3 K3 B3 ⊢
        generalize w2.heap.size = q at B3 ⊢
        go_wp2_with fail
        refine (CL.out _).mono ?_
        rintro e w4 ⟨⟨a', m', c', he, hK'⟩, g4⟩
        rw [← HN.out] at he hK'
        subst he
        have ga := World.grownBy_alloc w4 (.cells #[.int .i64 n.kind, .int .i64 n.index, .int .u64 (wd n.set 0), .int .u64 (wd n.set 1), .int .u64 (wd n.set 2), .int .u64 (wd n.set 3), .slice a' m' c'] 28) none
        have G5 := Lib.hid ((G3.out.trans g4).trans ga)
        have K5 := Lib.hid ((K3.out.grown g4).grown ga)
        have K5' := Lib.hid (hK'.grown ga)
        have B5 := Lib.hid (heap_grown ga (heap_grown g4 B3.out))
        have B5' := Lib.hid (heap_alloc_new w4 (.cells #[.int .i64 n.kind, .int .i64 n.index, .int .u64 (wd n.set 0), .int .u64 (wd n.set 1), .int .u64 (wd n.set 2), .int .u64 (wd n.set 3), .slice a' m' c'] 28))
        clear g4 ga hK' G3 K3 B3
        go_upto_region 12 with fail
        generalize w4.alloc _ = w5 at G5 K5 K5' B5 B5' ⊢
        generalize w4.heap.size = q' at B5' ⊢
        obtain ⟨c0, c1, c2, c3, c4, c5, c6⟩ := seven_cells B5.out
        obtain ⟨d0, d1, d2, d3, d4, d5, d6⟩ := seven_cells B5'.out
        have CS := Lib.hid (eqN_refl n ▸ cSameP 200 n n a m c a' m' c' w5 HLS.out (Nat.le_refl _) K5.out K5'.out)
        go_upto_region 14 with (go_at_call 15; refine CS.out.mono ?_; rintro e w6 ⟨rfl, g6⟩; have G6 := Lib.hid (G5.out.trans g6); have K6 := Lib.hid (K5'.out.grown g6); have B6 := Lib.hid (heap_grown g6 B5'.out); clear g6 c0 c1 c2 c3 c4 c5 c6 d0 d1 d2 d3 d4 d5 d6)
        clear G5 K5 K5' B5 B5' CS
        obtain ⟨d0, d1, d2, d3, d4, d5, d6⟩ := seven_cells B6.out
        by_cases h2 : s.size < 2
        · obtain ⟨z1, z2⟩ := lit_small h2
          have h2' : decide ((s.size : Int) < 2) = true := by simp; omega
          have Z1 := Lib.hid (show sizN n = 1 by rw [HN.out]; exact z1)
          have hk : ((n.kind : Int) == (s.size : Int)) = true := by rw [HN.out, z2]; simp
          have CZ := Lib.hid (Z1.out ▸ cSize n a' m' c' w6 HLS.out K6.out)
          clear z1 z2 h2
          go_wp2_with (go_at_call 13; refine CZ.out.mono ?_; rintro e w7 ⟨rfl, g7⟩; have G7 := Lib.hid (G6.out.trans g7); have e0 := g7.cell d0 (by simp); clear g7)
          go_ret
          exact ⟨rfl, G7.out⟩
        · obtain ⟨z1, z2⟩ := lit_kids (s := s) (by omega)
          have h2' : decide ((s.size : Int) < 2) = false := by simp; omega
          have hk : (n.kind : Int) = 2 := by rw [HN.out, z1]; rfl
          have hm := K6.out.len
          have hml : m' = s.size := by rw [hm, HN.out, z2, ones_len s (Nat.le_refl _)]
          have ZK := Lib.hid (show n.kids = onesOf s s.size by rw [HN.out, z2])
          have HK2 := Lib.hid hk
          clear z1 z2 h2 hm hk
          subst hml
          go_wp2
          go_loopw [8, 9, 60] (fun _ _ i wr => ∃ j : Nat, j ≤ s.size ∧ i = .int .i64 j ∧ Hid (w6.grownBy wr none)) (fun _ _ i _ => s.size - (intOf i).toNat)
          case atStart => exact ⟨0, Nat.zero_le _, rfl, Lib.hid (World.grownBy.refl _ _)⟩
          case round =>
            obtain ⟨j, hj, rfl, hG⟩ := hrel
            by_cases hlt : j < s.size
            · have hlen : j < n.kids.length := by rw [ZK.out, ones_len s (Nat.le_refl _)]; exact hlt
              obtain ⟨n', hn'⟩ : ∃ n', n.kids[j]? = some n' := ⟨_, List.getElem?_eq_getElem hlen⟩
              obtain ⟨hjs, en⟩ := ones_get (s := s) (by rw [← ZK.out]; exact hn')
              obtain ⟨b0, off, x0, y0, z0, rfl, hc, -⟩ := (K6.out.grown hG.out).at hn'
              obtain ⟨bb, hbb⟩ : ∃ bb, bb = s[j].toNat := ⟨_, rfl⟩
              have HB := Lib.hid (show bb < 256 by rw [hbb]; exact UInt8.toNat_lt _)
              rw [← hbb] at en
              subst en
              have HBB := Lib.hid hbb
              clear hbb
              have e0 : wr.cell? ⟨b0, off + j * 7, none⟩ = some (.int .i64 1) := hc 0 (.int .i64 1) rfl
              have e1 : wr.cell? ⟨b0, off + j * 7 + 1, none⟩ = some (.int .i64 0) := hc 1 (.int .i64 0) rfl
              have e2 : wr.cell? ⟨b0, off + j * 7 + 2, none⟩ = some (.int .u64 (wd (one bb) 0)) := hc 2 _ rfl
              have e3 : wr.cell? ⟨b0, off + j * 7 + 3, none⟩ = some (.int .u64 (wd (one bb) 1)) := hc 3 _ rfl
              have e4 : wr.cell? ⟨b0, off + j * 7 + 4, none⟩ = some (.int .u64 (wd (one bb) 2)) := hc 4 _ rfl
              have e5 : wr.cell? ⟨b0, off + j * 7 + 5, none⟩ = some (.int .u64 (wd (one bb) 3)) := hc 5 _ rfl
              have e6 : wr.cell? ⟨b0, off + j * 7 + 6, none⟩ = some (.slice x0 y0 z0) := hc 6 _ rfl
              have ga := World.grownBy_alloc wr (.cells #[.int .i64 1, .int .i64 0, .int .u64 (wd (one bb) 0), .int .u64 (wd (one bb) 1), .int .u64 (wd (one bb) 2), .int .u64 (wd (one bb) 3), .slice x0 y0 z0] 28) none
              have B7 := Lib.hid (heap_alloc_new wr (.cells #[.int .i64 1, .int .i64 0, .int .u64 (wd (one bb) 0), .int .u64 (wd (one bb) 1), .int .u64 (wd (one bb) 2), .int .u64 (wd (one bb) 3), .slice x0 y0 z0] 28))
              have G7 := Lib.hid (hG.out.trans ga)
              have CH := Lib.hid (fun w => (show inn (one bb) bb = true by rw [inn_one bb bb HB.out]; simp) ▸ cHas (one bb) bb w HB.out)
              have CC := Lib.hid (fun w => (show Calls Tryd.prog 19 #[setV (one bb)] w fun e w' => e = .returned (.int .i64 1) ∧ w.grownBy w' none from (cCount (one bb) w).mono fun e w' h => ⟨by rw [h.1, cnt_one1 bb HB.out]; rfl, h.2⟩))
              clear hn' hc ga
              go_upto_region 19 with fail
              clear e0 e1 e2 e3 e4 e5 e6
              generalize wr.alloc _ = w7 at B7 G7 ⊢
              generalize wr.heap.size = kb at B7 ⊢
              have f0 : ∀ u : Gr w7, u.W.cell? ⟨kb, 0, none⟩ = some (.int .i64 1) := fun u => (seven_cells (heap_grown u.g B7.out)).1
              have f2 : ∀ u : Gr w7, u.W.cell? ⟨kb, 2, none⟩ = some (.int .u64 (wd (one bb) 0)) := fun u => (seven_cells (heap_grown u.g B7.out)).2.2.1
              have f3 : ∀ u : Gr w7, u.W.cell? ⟨kb, 3, none⟩ = some (.int .u64 (wd (one bb) 1)) := fun u => (seven_cells (heap_grown u.g B7.out)).2.2.2.1
              have f4 : ∀ u : Gr w7, u.W.cell? ⟨kb, 4, none⟩ = some (.int .u64 (wd (one bb) 2)) := fun u => (seven_cells (heap_grown u.g B7.out)).2.2.2.2.1
              have f5 : ∀ u : Gr w7, u.W.cell? ⟨kb, 5, none⟩ = some (.int .u64 (wd (one bb) 3)) := fun u => (seven_cells (heap_grown u.g B7.out)).2.2.2.2.2.1
              have inst : Nonempty (Gr w7) := ⟨⟨w7, World.grownBy.refl _ _⟩⟩
              have hge : decide (s.size ≤ j) = false := decide_eq_false (by omega)
              refine wp_region_grows (by kernel_rfl) (by kernel_rfl) ?_
              repeat (go_big_quiet_step (first
                | (go_at_call 18; rw [← HBB.out]; refine (CH.out _).mono ?_; rintro e w9 ⟨he, g9⟩; exact ⟨he, ⟨_, (Gr.g _).trans g9⟩, rfl⟩)
                | (go_at_call 19; refine (CC.out _).mono ?_; rintro e w9 ⟨he, g9⟩; exact ⟨he, ⟨_, (Gr.g _).trans g9⟩, rfl⟩)))
              refine wpQuiet_nil ?_
              rintro _ ⟨⟨w9, gg⟩, rfl⟩
              have G9 := Lib.hid (G7.out.trans gg)
              clear gg f0 f2 f3 f4 f5 inst
              go_wp2
              go_roundw
              case rel => exact ⟨j + 1, by omega, by go_num, G9⟩
              case measure => simp [intOf]; omega
            · obtain rfl : j = s.size := by omega
              have D := Lib.hid (heap_grown hG.out B6.out)
              clear d0 d1 d2 d3 d4 d5 d6
              obtain ⟨d0, d1, d2, d3, d4, d5, d6⟩ := seven_cells D.out
              have hk := HK2.out
              have G7 := Lib.hid (G6.out.trans hG.out)
              go_wp2
              go_ret
              exact ⟨rfl, G7.out⟩
end Go.Proofs.YtonbcldhbinmeaaDoor

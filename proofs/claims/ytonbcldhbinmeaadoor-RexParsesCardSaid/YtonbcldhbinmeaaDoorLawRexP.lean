/- The law RexParses, walked. -/
import Derived.Test.YtonbcldhbinmeaaDoorRexPD
import Derived.Test.YtonbcldhbinmeaaDoorRexOfB
import Derived.Test.YtonbcldhbinmeaaDoorRexLit
import Derived.Test.YtonbcldhbinmeaaDoorErrNum
import Derived.Deep.RegionHeld3
namespace Go.Proofs.YtonbcldhbinmeaaDoor
open Go.RowKit

theorem par_num (s : ByteArray) : (parN s).2 ≤ 18 := by
  unfold parN
  split
  · decide
  · split
    · decide
    · split
      · decide
      · exact Nat.zero_le _

set_option maxRecDepth 100000 in
set_option maxHeartbeats 4000000 in
theorem lRexParses (A : Nat → Addr) (s : ByteArray) (w : World) (hE : PEnv A w) (hN : ErrEnv A w) (hs : s.size ≤ 9223372036854775807) :
    Calls Tryd.prog 3 #[.string s] w fun e w' => e = .returned (.bool true) ∧ w.grownBy w' none := by
  have HE := Lib.hid hE; have HN := Lib.hid hN
  clear hE hN
  go_enter Tryd.func3, Tryd.ntmps3
  go_wp2_with fail
  refine (lAlive7 A w HE.out).mono ?_
  rintro e w1 ⟨rfl, g1⟩
  have G0 := Lib.hid g1
  have E0 := Lib.hid (HE.out.grown g1)
  clear g1 HE
  by_cases h1 : s.size > 100
  · have hd : decide ((s.size : Int) > 100) = true := by simp; omega
    go_wp2
    go_ret
    exact ⟨rfl, G0.out⟩
  have hd1 : decide ((s.size : Int) > 100) = false := by simp; omega
  obtain ⟨n, hn⟩ : ∃ n, n = (parN s).1 := ⟨_, rfl⟩
  have Z := Lib.hid (show sizN n ≤ 200 by rw [hn]; exact par_siz s)
  obtain ⟨k, hk⟩ : ∃ k, k = (parN s).2 := ⟨_, rfl⟩
  have HK18 := Lib.hid (show k ≤ 18 by rw [hk]; exact par_num s)
  obtain ⟨x1, hx1⟩ : ∃ x, x = errV A k := ⟨_, rfl⟩
  have P1 := Lib.hid (show ∀ w, PEnv A w → Calls Tryd.prog 7 #[.string s] w fun e w' => (∃ a m k, e = .returned (.tuple #[ndV n (.slice a m k), x1]) ∧ Kids w' (.slice a m k) n.kids) ∧ w.grownBy w' none from fun w hE => by rw [hn, hx1, hk]; exact cParse A s w (by omega) hE)
  have P3 := Lib.hid (show ∀ w, Calls Tryd.prog 8 #[.string s] w fun e w' => (∃ a m c, e = .returned (.tuple #[ndV n (.slice a m c), .int .i64 k]) ∧ Kids w' (.slice a m c) n.kids) ∧ w.grownBy w' none from fun w => by rw [hn, hk]; exact cParseD s w (by omega))
  have CN := Lib.hid (show ∀ w, ErrEnv A w → Calls Tryd.prog 9 #[x1] w fun e w' => e = .returned (.int .i64 k) ∧ w.grownBy w' none from fun w hE => by rw [hx1]; exact lNumV A k HK18.out w hE)
  clear hn hk hx1
  go_upto_region 6 with (go_at_call 7; (with_reducible refine (P1.out _ E0.out).mono ?_); rintro e wc ⟨⟨a1, m1, c1, rfl, hK⟩, gc⟩)
  have ga := World.grownBy_alloc wc (.cells #[.int .i64 n.kind, .int .i64 n.index, .int .u64 (wd n.set 0), .int .u64 (wd n.set 1), .int .u64 (wd n.set 2), .int .u64 (wd n.set 3), .slice a1 m1 c1] 28) none
  have gg := gc.trans ga
  have G1 := Lib.hid (G0.out.trans gg)
  have B1 := Lib.hid (heap_alloc_new wc (.cells #[.int .i64 n.kind, .int .i64 n.index, .int .u64 (wd n.set 0), .int .u64 (wd n.set 1), .int .u64 (wd n.set 2), .int .u64 (wd n.set 3), .slice a1 m1 c1] 28))
  have K1 := Lib.hid (hK.grown ga)
  clear ga gg gc hK E0 G0 P1
  generalize wc.heap.size = q1 at B1 ⊢
  generalize wc.alloc _ = v1 at G1 B1 K1  ⊢
  go_upto_region 7 with (go_at_call 8; (with_reducible refine (P3.out _).mono ?_); rintro e wc ⟨⟨a3, m3, c3, rfl, hK⟩, gc⟩)
  have ga := World.grownBy_alloc wc (.cells #[.int .i64 n.kind, .int .i64 n.index, .int .u64 (wd n.set 0), .int .u64 (wd n.set 1), .int .u64 (wd n.set 2), .int .u64 (wd n.set 3), .slice a3 m3 c3] 35) none
  have gg := gc.trans ga
  have G3 := Lib.hid (G1.out.trans gg)
  have B3 := Lib.hid (heap_alloc_new wc (.cells #[.int .i64 n.kind, .int .i64 n.index, .int .u64 (wd n.set 0), .int .u64 (wd n.set 1), .int .u64 (wd n.set 2), .int .u64 (wd n.set 3), .slice a3 m3 c3] 35))
  have K3 := Lib.hid (hK.grown ga)
  have B1 := Lib.hid (heap_grown gg B1.out)
  have K1 := Lib.hid (K1.out.grown gg)
  have N3 := Lib.hid (HN.out.later (below_of_grown G3.out))
  clear ga gg gc hK P3 HN G1
  generalize wc.heap.size = q3 at B3 ⊢
  generalize wc.alloc _ = v3 at G3 B3 K3 B1 K1 N3 ⊢
  have CO := Lib.hid (fun W (g : v3.grownBy W none) => cLawOf 200 n a1 m1 c1 W Z.out (Nat.le_refl _) (K1.out.grown g))
  have CS := Lib.hid (fun W (g : v3.grownBy W none) a m c (h : Kids W (.slice a m c) n.kids) => eqN_refl n ▸ cSameD 200 n n a m c a3 m3 c3 W Z.out (Nat.le_refl _) h (K3.out.grown g))
  have CNN := Lib.hid (fun W (g : v3.grownBy W none) => CN.out W (N3.out.later (below_of_grown g)))
  have SK := Lib.hid (show ∀ W, v3.grownBy W none → ((W.cell? ⟨q1, 0, none⟩ = some (.int .i64 n.kind) ∧ W.cell? ⟨q1, 1, none⟩ = some (.int .i64 n.index) ∧ W.cell? ⟨q1, 2, none⟩ = some (.int .u64 (wd n.set 0)) ∧ W.cell? ⟨q1, 3, none⟩ = some (.int .u64 (wd n.set 1)) ∧ W.cell? ⟨q1, 4, none⟩ = some (.int .u64 (wd n.set 2)) ∧ W.cell? ⟨q1, 5, none⟩ = some (.int .u64 (wd n.set 3)) ∧ W.cell? ⟨q1, 6, none⟩ = some (.slice a1 m1 c1)) ∧ W.cell? ⟨q3, 0, none⟩ = some (.int .i64 n.kind) ∧ W.cell? ⟨q3, 1, none⟩ = some (.int .i64 n.index) ∧ W.cell? ⟨q3, 2, none⟩ = some (.int .u64 (wd n.set 0)) ∧ W.cell? ⟨q3, 3, none⟩ = some (.int .u64 (wd n.set 1)) ∧ W.cell? ⟨q3, 4, none⟩ = some (.int .u64 (wd n.set 2)) ∧ W.cell? ⟨q3, 5, none⟩ = some (.int .u64 (wd n.set 3)) ∧ W.cell? ⟨q3, 6, none⟩ = some (.slice a3 m3 c3)) from fun W g => ⟨seven_cells (heap_grown g B1.out), seven_cells (heap_grown g B3.out)⟩)
  obtain ⟨⟨s0, s1, s2, s3, s4, s5, s6⟩, t0, t1, t2, t3, t4, t5, t6⟩ := SK.out v3 (World.grownBy.refl _ _)
  have gd := grown_drew (World.grownBy.refl v3 none)
  go_region_held3 (fun W => (W.cell? ⟨q1, 0, none⟩ = some (.int .i64 n.kind) ∧ W.cell? ⟨q1, 1, none⟩ = some (.int .i64 n.index) ∧ W.cell? ⟨q1, 2, none⟩ = some (.int .u64 (wd n.set 0)) ∧ W.cell? ⟨q1, 3, none⟩ = some (.int .u64 (wd n.set 1)) ∧ W.cell? ⟨q1, 4, none⟩ = some (.int .u64 (wd n.set 2)) ∧ W.cell? ⟨q1, 5, none⟩ = some (.int .u64 (wd n.set 3)) ∧ W.cell? ⟨q1, 6, none⟩ = some (.slice a1 m1 c1)) ∧ W.cell? ⟨q3, 0, none⟩ = some (.int .i64 n.kind) ∧ W.cell? ⟨q3, 1, none⟩ = some (.int .i64 n.index) ∧ W.cell? ⟨q3, 2, none⟩ = some (.int .u64 (wd n.set 0)) ∧ W.cell? ⟨q3, 3, none⟩ = some (.int .u64 (wd n.set 1)) ∧ W.cell? ⟨q3, 4, none⟩ = some (.int .u64 (wd n.set 2)) ∧ W.cell? ⟨q3, 5, none⟩ = some (.int .u64 (wd n.set 3)) ∧ W.cell? ⟨q3, 6, none⟩ = some (.slice a3 m3 c3))
    (first
      | exact SK.out _ ((gd.trans g5).trans (g6.trans g7))
      | exact SK.out _ (gd.trans (g5.trans g6))
      | exact SK.out _ (gd.trans g5)
      | exact SK.out _ gd
      | (go_keep; done))
    (first
      | (go_at_call 9; (with_reducible refine (CNN.out _ gd).mono ?_); rintro e w5 ⟨rfl, g5⟩)
      | (go_at_call 11; (with_reducible refine (CO.out _ (gd.trans g5)).mono ?_); rintro e w6 ⟨⟨ao, mo, co, rfl, hko⟩, g6⟩)
      | (go_at_call 10; (with_reducible refine (CS.out _ (gd.trans (g5.trans g6)) _ _ _ hko.any).mono ?_); rintro e w7 ⟨rfl, g7⟩))
  have GX := gd.trans (g5.trans (g6.trans g7))
  have G7 := Lib.hid (G3.out.trans GX)
  have CU := Lib.hid (fun W (g : w7.grownBy W none) => cSums 200 n a3 m3 c3 W Z.out (Nat.le_refl _) (K3.out.grown (GX.trans g)))
  have CZ := Lib.hid (fun W (g : w7.grownBy W none) => cSize n a1 m1 c1 W Z.out (K1.out.grown (GX.trans g)))
  have CG := Lib.hid (fun W (g : w7.grownBy W none) => cGroups n a1 m1 c1 W Z.out (K1.out.grown (GX.trans g)))
  have B1 := Lib.hid (heap_grown GX B1.out)
  have B3 := Lib.hid (heap_grown GX B3.out)
  clear g5 g6 g7 gd GX hko CO CS CNN SK N3 CN G3 K1 K3 s0 s1 s2 s3 s4 s5 s6 t0 t1 t2 t3 t4 t5 t6
  obtain ⟨t0, t1, t2, t3, t4, t5, t6⟩ := seven_cells B3.out
  generalize sizN n = zn at CU CZ
  generalize grpN n = zg at CU CG
  go_upto_region 10 with (go_at_call 12; (with_reducible refine (CU.out _ (World.grownBy.refl _ _)).mono ?_); rintro e w8 ⟨rfl, g8⟩)
  clear t0 t1 t2 t3 t4 t5 t6
  have B8 := Lib.hid (heap_grown g8 B1.out)
  have G8 := Lib.hid (G7.out.trans g8)
  have H8 := Lib.hid g8
  clear g8
  obtain ⟨s0, s1, s2, s3, s4, s5, s6⟩ := seven_cells B8.out
  go_wp2_with (first
    | (go_at_call 13; (with_reducible refine (CZ.out _ H8.out).mono ?_); rintro e w9 ⟨rfl, g9⟩; have G9 := Lib.hid (G8.out.trans g9); have H9 := Lib.hid (H8.out.trans g9); have B9 := Lib.hid (heap_grown g9 B8.out); clear g9 s0 s1 s2 s3 s4 s5 s6; obtain ⟨s0, s1, s2, s3, s4, s5, s6⟩ := seven_cells B9.out)
    | (go_at_call 14; (with_reducible refine (CG.out _ H9.out).mono ?_); rintro e w10 ⟨rfl, g10⟩; have G10 := Lib.hid (G9.out.trans g10); clear g10))
  go_ret
  exact ⟨rfl, G10.out⟩
end Go.Proofs.YtonbcldhbinmeaaDoor

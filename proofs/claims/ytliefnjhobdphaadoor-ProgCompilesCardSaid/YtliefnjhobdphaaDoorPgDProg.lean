/- The document's codes and programs of all right nodes. -/
import Derived.Test.YtliefnjhobdphaaDoorPgDRow
import Derived.Test.YtliefnjhobdphaaDoorPgDGrp
namespace Go.Proofs.YtliefnjhobdphaaDoor
open Go.RowKit

theorem dCode : ∀ (N : Nat) (n : Ni), szN n ≤ N → N ≤ 200 → rgtN n = true → DocC n := by
  intro N
  induction N with
  | zero => intro n h; rw [sz_eq] at h; omega
  | succ N ih =>
    intro n hN hN2 hR
    have hz := sz_eq n
    have hr := hR
    rw [rgt_eq, Bool.and_eq_true] at hr
    have HC : ∀ n' ∈ n.kids, DocC n' := fun n' h' => ih n' (by have := szL_mem h'; omega) (by omega) (rgtL_mem hr.2 h')
    by_cases h2 : n.kind = 2
    · exact dCat n (by omega) hR h2 HC
    by_cases h3 : n.kind = 3
    · exact dAlt n (by omega) hR h3 HC
    by_cases h7 : n.kind = 7
    · exact dGroup n (by omega) hR h7 HC
    exact dCode1 n (by omega) hR h2 h3 h7 HC

set_option maxRecDepth 100000 in
set_option maxHeartbeats 4000000 in
theorem dProgram (n : Ni) (hs : szN n ≤ 200) (hR : rgtN n = true) (hl : lenN n ≤ 8000) (a : Option Addr) (m c : Nat) (w : World) (hK : KidsE w (.slice a m c) n.kids) :
    Calls Tryd.prog 10 #[niV n (.slice a m c)] w (CodOut w (prgN n)) := by
  have HC := Lib.hid (fun W h => (show Calls Tryd.prog 26 #[niV n (.slice a m c), .int .i64 1] W (CodOut W (codN n 1)) from dCode 200 n hs (Nat.le_refl _) hR 1 a m c W (by omega) h))
  have HCL := Lib.hid (show (codN n 1).length ≤ 9000 by rw [cod_len n 1 hR]; omega)
  have HQ := Lib.hid (show [(⟨3, 0, 0, emp⟩ : Ins)] ++ codN n 1 ++ [⟨3, 1, 0, emp⟩, ⟨6, 0, 0, emp⟩] = prgN n by unfold prgN; simp)
  have ga := World.grownBy_alloc w (.cells #[.int .i64 n.kind, .int .i64 n.index, .int .u64 (wd n.set 0), .int .u64 (wd n.set 1), .int .u64 (wd n.set 2), .int .u64 (wd n.set 3), .slice a m c] 32) none
  have B1 := Lib.hid (heap_alloc_new w (.cells #[.int .i64 n.kind, .int .i64 n.index, .int .u64 (wd n.set 0), .int .u64 (wd n.set 1), .int .u64 (wd n.set 2), .int .u64 (wd n.set 3), .slice a m c] 32))
  have K1 := Lib.hid (hK.grown ga)
  have G1 := Lib.hid ga
  clear ga hK hs hR hl
  go_enter Tryd.func10, Tryd.ntmps10
  go_upto_region 1 with fail
  generalize w.alloc _ = w1 at B1 K1 G1 ⊢
  generalize w.heap.size = q at B1 ⊢
  have hbd := HCL.out
  obtain ⟨c0, c1, c2, c3, c4, c5, c6⟩ := seven_cells B1.out
  have k0 := fun ob => cell_al c0 ob
  have k1 := fun ob => cell_al c1 ob
  have k2 := fun ob => cell_al c2 ob
  have k3 := fun ob => cell_al c3 ob
  have k4 := fun ob => cell_al c4 ob
  have k5 := fun ob => cell_al c5 ob
  have k6 := fun ob => cell_al c6 ob
  go_wp2_with (first
    | (go_at_call 26; (with_reducible refine (HC.out _ (K1.out.grown (World.grownBy_alloc _ _ _))).mono ?_); rintro e w4 ⟨⟨u, rfl, o4⟩, g4⟩; have O4 := Lib.hid o4; have OL := Lib.hid ((own_plain w1 3 0 0 66 w.heap.size G1.out.size).kept g4 (.inr (by simp [Value.ownBlock]))); have G4 := Lib.hid ((G1.out.trans (World.grownBy_alloc w1 _ none)).trans g4); clear g4 o4 c0 c1 c2 c3 c4 c5 c6 k0 k1 k2 k3 k4 k5 k6 HC B1 K1 G1)
    | (at_builtin; refine wp_app2 _ _ _ rfl rfl w.heap.size _ _ _ _ _ _ _ rfl rfl OL.out O4.out (by omega) G4.out.size ?_; intro v5 w5 o5 g5; have O5 := Lib.hid o5; have G5 := Lib.hid (grown_own G4.out g5 OL.out (Nat.le_refl _)); clear o5 g5 OL O4 G4)
    | (at_builtin; refine wp_app2 _ _ _ rfl rfl w.heap.size _ _ _ _ _ _ _ rfl rfl (O5.out.alloc _) (own_two w5 3 1 6 0 66 w5.heap.size (Nat.le_refl _)) (by omega) (by have := G5.out.size; simp; omega) ?_; intro v7 w7 o7 g7; have O7 := Lib.hid o7; have G7 := Lib.hid (grown_own (G5.out.trans (World.grownBy_alloc w5 _ none)) g7 (O5.out.alloc _) (Nat.le_refl _)); clear o7 g7 O5))
  go_ret
  exact ⟨⟨_, rfl, own_is O7.out HQ.out⟩, G7.out⟩
end Go.Proofs.YtliefnjhobdphaaDoor

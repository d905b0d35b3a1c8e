/- The document's Same; a law's Of and sums. -/
import Derived.Test.YtonbcldhbinmeaaDoorRexU
import Derived.Test.YtonbcldhbinmeaaDoorRexY
namespace Go.Proofs.YtonbcldhbinmeaaDoor
open Go.RowKit

theorem bool_ne (a b : Nat) : ((a : Int) != (b : Int)) = !(a == b) := by unfold bne; rw [bool_int]
set_option maxRecDepth 100000 in
set_option maxHeartbeats 3000000 in
theorem cSameD : ∀ (N : Nat) (n n' : Nd) (a : Option Addr) (m k : Nat) (a' : Option Addr) (m' k' : Nat) (w : World), sizN n ≤ N → N ≤ 200 → Kids w (.slice a m k) n.kids → Kids w (.slice a' m' k') n'.kids →
    Calls Tryd.prog 10 #[ndV n (.slice a m k), ndV n' (.slice a' m' k')] w fun e w' => e = .returned (.bool (eqN n n')) ∧ w.grownBy w' none := by
  intro N
  induction N with
  | zero => intro n n' a m k a' m' k' w h _ _; rw [sizN, cntN_eq] at h; simp at h
  | succ N ih =>
    intro n n' a m k a' m' k' w hN hN2 hK hK'
    obtain rfl := hK.len
    obtain rfl := hK'.len
    have HI := Lib.hid (fun n n' a m k a' m' k' w h h1 h2 => ih n n' a m k a' m' k' w h (by omega) h1 h2)
    have hsz : sizN n = 1 + cntL (fun _ => true) n.kids := by rw [sizN, cntN_eq]; simp
    have HQ := Lib.hid (eqN_eq n n')
    obtain ⟨l, hl⟩ : ∃ l, n.kids = l := ⟨_, rfl⟩
    obtain ⟨l', hl'⟩ : ∃ l', n'.kids = l' := ⟨_, rfl⟩
    rw [hl] at hK hsz HQ ⊢
    rw [hl'] at hK' HQ ⊢
    have hl200 : l.length ≤ 200 := by have := len_le_cnt l; omega
    have HS := Lib.hid (show ∀ n' ∈ l, sizN n' ≤ N by
      intro n' h'; have := cntL_mem (fun _ => true) h'; simp only [sizN] at hsz hN ⊢; omega)
    clear ih hN hN2 hsz hl hl'
    obtain ⟨b1, b2, gg⟩ := heap2 w (.cells #[.int .i64 n.kind, .int .i64 n.index, .int .u64 (wd n.set 0), .int .u64 (wd n.set 1), .int .u64 (wd n.set 2), .int .u64 (wd n.set 3), .slice a l.length k] 35) (.cells #[.int .i64 n'.kind, .int .i64 n'.index, .int .u64 (wd n'.set 0), .int .u64 (wd n'.set 1), .int .u64 (wd n'.set 2), .int .u64 (wd n'.set 3), .slice a' l'.length k'] 35)
    have B1 := Lib.hid b1; have B2 := Lib.hid b2; have G := Lib.hid gg
    have K := Lib.hid (hK.grown gg); have K' := Lib.hid (hK'.grown gg)
    have he := eq_run 24 Tryd.underlying24 n.set n'.set
    clear b1 b2 gg hK hK'
    go_enter Tryd.func10, Tryd.ntmps10
    go_upto_region 1 with fail
    generalize (w.alloc _).alloc _ = w1 at B1 B2 G K K' ⊢
    generalize w.heap.size + 1 = q at B2 ⊢
    generalize w.heap.size = p at B1 ⊢
    obtain ⟨c0, c1, c2, c3, c4, c5, c6⟩ := seven_cells B1.out
    obtain ⟨d0, d1, d2, d3, d4, d5, d6⟩ := seven_cells B2.out
    have hk := bool_ne n.kind n'.kind
    have hi := bool_ne n.index n'.index
    have hle := bool_ne l.length l'.length
    cases h1 : n.kind == n'.kind with
    | false =>
      have HR := Lib.hid (show eqN n n' = false by rw [HQ.out, h1]; rfl)
      rw [h1] at hk
      clear h1 hi he hle
      go_wp2
      go_ret
      exact ⟨ret_bool (by rw [HR.out]), G.out⟩
    | true =>
      rw [h1] at hk
      cases h2 : n.index == n'.index with
      | false =>
        have HR := Lib.hid (show eqN n n' = false by rw [HQ.out, h1, h2]; rfl)
        rw [h2] at hi
        clear h1 h2 he hle
        go_wp2
        go_ret
        exact ⟨ret_bool (by rw [HR.out]), G.out⟩
      | true =>
        rw [h2] at hi
        cases h3 : n.set == n'.set with
        | false =>
          have HR := Lib.hid (show eqN n n' = false by rw [HQ.out, h1, h2, h3]; rfl)
          rw [h3] at he
          clear h1 h2 h3 hle
          go_wp2
          go_ret
          exact ⟨ret_bool (by rw [HR.out]), G.out⟩
        | true =>
          have HR := Lib.hid (show eqN n n' = eqL l l' by rw [HQ.out, h1, h2, h3]; rfl)
          rw [h3] at he
          clear h1 h2 h3
          cases h4 : l.length == l'.length with
          | false =>
            have HF := Lib.hid (HR.out.trans (eqL_len l l' (by simpa using h4)))
            rw [h4] at hle
            clear h4
            go_wp2
            go_ret
            exact ⟨ret_bool (by rw [HF.out]), G.out⟩
          | true =>
            have HLL := Lib.hid (show l.length = l'.length by simpa using h4)
            rw [h4] at hle
            clear h4
            go_wp2
            clear he hk hi hle c0 c1 c2 c3 c4 c5 c6 d0 d1 d2 d3 d4 d5 d6
            go_loopw [5, 37] (fun _ i wr => ∃ j : Nat, j ≤ l.length ∧ i = .int .i64 j ∧ Hid (eqL l l' = eqL (l.drop j) (l'.drop j)) ∧ Hid (w1.grownBy wr none)) (fun _ i _ => l.length - (intOf i).toNat)
            case atStart => exact ⟨0, Nat.zero_le _, rfl, Lib.hid (by rw [List.drop_zero, List.drop_zero]), Lib.hid (World.grownBy.refl _ _)⟩
            case round =>
              obtain ⟨j, hj, rfl, hQ, hG⟩ := hrel
              by_cases hlt : j < l.length
              · have hlt' : j < l'.length := by have := HLL.out; omega
                obtain ⟨x, hx⟩ : ∃ n, l[j]? = some n := ⟨_, List.getElem?_eq_getElem hlt⟩
                obtain ⟨x', hx'⟩ : ∃ n', l'[j]? = some n' := ⟨_, List.getElem?_eq_getElem hlt'⟩
                have HD := Lib.hid (hQ.out.trans (eqL_drop l l' j hx hx'))
                have HN := Lib.hid (HS.out x (List.mem_of_getElem? hx))
                obtain ⟨b0, off, s, y, z, rfl, hc, hkk⟩ := (K.out.grown hG.out).at hx
                obtain ⟨b0', off', s', y', z', rfl, hc', hkk'⟩ := (K'.out.grown hG.out).at hx'
                have B3 := Lib.hid (heap_grown hG.out B1.out); have B4 := Lib.hid (heap_grown hG.out B2.out)
                have c0 : ∀ u : Gr wr, u.W.cell? ⟨b0, off + j * 7, none⟩ = some (.int .i64 x.kind) := fun u => u.g.cell (hc 0 _ rfl) (by simp)
                have c1 : ∀ u : Gr wr, u.W.cell? ⟨b0, off + j * 7 + 1, none⟩ = some (.int .i64 x.index) := fun u => u.g.cell (hc 1 _ rfl) (by simp)
                have c2 : ∀ u : Gr wr, u.W.cell? ⟨b0, off + j * 7 + 2, none⟩ = some (.int .u64 (wd x.set 0)) := fun u => u.g.cell (hc 2 _ rfl) (by simp)
                have c3 : ∀ u : Gr wr, u.W.cell? ⟨b0, off + j * 7 + 3, none⟩ = some (.int .u64 (wd x.set 1)) := fun u => u.g.cell (hc 3 _ rfl) (by simp)
                have c4 : ∀ u : Gr wr, u.W.cell? ⟨b0, off + j * 7 + 4, none⟩ = some (.int .u64 (wd x.set 2)) := fun u => u.g.cell (hc 4 _ rfl) (by simp)
                have c5 : ∀ u : Gr wr, u.W.cell? ⟨b0, off + j * 7 + 5, none⟩ = some (.int .u64 (wd x.set 3)) := fun u => u.g.cell (hc 5 _ rfl) (by simp)
                have c6 : ∀ u : Gr wr, u.W.cell? ⟨b0, off + j * 7 + 6, none⟩ = some (.slice s y z) := fun u => u.g.cell (hc 6 _ rfl) (by simp)
                have d0 : ∀ u : Gr wr, u.W.cell? ⟨b0', off' + j * 7, none⟩ = some (.int .i64 x'.kind) := fun u => u.g.cell (hc' 0 _ rfl) (by simp)
                have d1 : ∀ u : Gr wr, u.W.cell? ⟨b0', off' + j * 7 + 1, none⟩ = some (.int .i64 x'.index) := fun u => u.g.cell (hc' 1 _ rfl) (by simp)
                have d2 : ∀ u : Gr wr, u.W.cell? ⟨b0', off' + j * 7 + 2, none⟩ = some (.int .u64 (wd x'.set 0)) := fun u => u.g.cell (hc' 2 _ rfl) (by simp)
                have d3 : ∀ u : Gr wr, u.W.cell? ⟨b0', off' + j * 7 + 3, none⟩ = some (.int .u64 (wd x'.set 1)) := fun u => u.g.cell (hc' 3 _ rfl) (by simp)
                have d4 : ∀ u : Gr wr, u.W.cell? ⟨b0', off' + j * 7 + 4, none⟩ = some (.int .u64 (wd x'.set 2)) := fun u => u.g.cell (hc' 4 _ rfl) (by simp)
                have d5 : ∀ u : Gr wr, u.W.cell? ⟨b0', off' + j * 7 + 5, none⟩ = some (.int .u64 (wd x'.set 3)) := fun u => u.g.cell (hc' 5 _ rfl) (by simp)
                have d6 : ∀ u : Gr wr, u.W.cell? ⟨b0', off' + j * 7 + 6, none⟩ = some (.slice s' y' z') := fun u => u.g.cell (hc' 6 _ rfl) (by simp)
                have e6 : ∀ u : Gr wr, u.W.cell? ⟨p, 6, none⟩ = some (.slice (some ⟨b0, off, none⟩) l.length k) := fun u => (seven_cells (heap_grown u.g B3.out)).2.2.2.2.2.2
                have f6 : ∀ u : Gr wr, u.W.cell? ⟨q, 6, none⟩ = some (.slice (some ⟨b0', off', none⟩) l'.length k') := fun u => (seven_cells (heap_grown u.g B4.out)).2.2.2.2.2.2
                have CI := Lib.hid (fun (u : Gr wr) => HI.out x x' s y z s' y' z' u.W HN.out (hkk.grown u.g) (hkk'.grown u.g))
                have inst : Nonempty (Gr wr) := ⟨⟨wr, World.grownBy.refl _ _⟩⟩
                clear hx hx' hc hc' hkk hkk' hQ B3 B4
                cases hb : eqN x x' with
                | true =>
                  rw [hb] at HD CI
                  clear hb
                  go_upto_region 6 with fail
                  refine wp_region_grows (by kernel_rfl) (by kernel_rfl) ?_
                  repeat (go_big_quiet_step (first
                    | (go_at_call 10; refine (CI.out _).mono ?_; rintro e w9 ⟨he, g9⟩; exact ⟨he, ⟨_, (Gr.g _).trans g9⟩, rfl⟩)))
                  refine wpQuiet_nil ?_
                  rintro _ ⟨⟨w9, gg⟩, rfl⟩
                  have G9 := Lib.hid (hG.out.trans gg)
                  clear c0 c1 c2 c3 c4 c5 c6 d0 d1 d2 d3 d4 d5 d6 e6 f6 inst gg
                  go_wp2
                  go_roundw
                  case rel => exact ⟨j + 1, by omega, by go_num, Lib.hid (by have := HD.out; rwa [Bool.true_and] at this), G9⟩
                  case measure => simp [intOf]; omega
                | false =>
                  rw [hb] at HD CI
                  clear hb
                  go_upto_region 6 with fail
                  refine wp_region_grows (by kernel_rfl) (by kernel_rfl) ?_
                  repeat (go_big_quiet_step (first
                    | (go_at_call 10; refine (CI.out _).mono ?_; rintro e w9 ⟨he, g9⟩; exact ⟨he, ⟨_, (Gr.g _).trans g9⟩, rfl⟩)))
                  refine wpQuiet_nil ?_
                  rintro _ ⟨⟨w9, gg⟩, rfl⟩
                  have G9 := Lib.hid (hG.out.trans gg)
                  clear c0 c1 c2 c3 c4 c5 c6 d0 d1 d2 d3 d4 d5 d6 e6 f6 inst gg
                  go_wp2
                  go_ret
                  exact ⟨ret_bool (by rw [HR.out, HD.out]; rfl), G.out.trans G9.out⟩
              · obtain rfl : j = l.length := by omega
                have HT := Lib.hid (show eqL l l' = true by rw [hQ.out, List.drop_length, List.drop_of_length_le (by have := HLL.out; omega)]; rw [eqL])
                go_wp2
                go_ret
                exact ⟨ret_bool (by rw [HR.out, HT.out]), G.out.trans hG.out⟩
end Go.Proofs.YtonbcldhbinmeaaDoor

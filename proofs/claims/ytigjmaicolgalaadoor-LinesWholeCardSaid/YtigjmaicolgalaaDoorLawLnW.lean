/- The law LinesWhole, walked. -/
import Derived.Test.YtigjmaicolgalaaDoorLnMore
namespace Go.Proofs.YtigjmaicolgalaaDoor
open Go.RowKit

theorem rise_at {O : List Lb} {n : Nat} (h : RiseQ (lnQ O) n) : (∀ (i j : Nat) (x y : Lb), i < j → O[i]? = some x → O[j]? = some y → x.n < y.n) ∧ (∀ (i : Nat) (x : Lb), O[i]? = some x → 1 ≤ x.n ∧ x.n ≤ n) ∧ O.length ≤ n := by
  obtain ⟨h1, h2, h3⟩ := h
  refine ⟨fun i j x y hij hx hy => ?_, fun i x hx => ?_, by simpa using h3⟩
  · obtain ⟨hi, rfl⟩ := List.getElem?_eq_some_iff.1 hx
    obtain ⟨hj, rfl⟩ := List.getElem?_eq_some_iff.1 hy
    have := List.pairwise_iff_getElem.1 h1 i j (by simpa using hi) (by simpa using hj) hij
    simpa [Lb.q] using this
  · exact h2 x.q (List.mem_map_of_mem (List.mem_of_getElem? hx))
theorem ns_take {l : List UInt8} {i : Nat} {b : UInt8} (h : l[i]? = some b) : (l.take (i + 1)).all nsQ = ((l.take i).all nsQ && nsQ b) := by
  rw [List.take_add_one, h, List.all_append]; simp
set_option maxRecDepth 100000 in
set_option maxHeartbeats 4000000 in
theorem lLinesWhole {A : Nat → Addr} {E : World → Prop} (C : LnC A E) (s : ByteArray) (w : World) (hE : E w) :
    Calls Tryd.prog 4 #[.string s] w fun e w' => e = .returned (.bool true) ∧ w.grownBy w' none := by
  have CA := Lib.hid (lAlive12 C w hE)
  have HE := Lib.hid hE
  have HC := Lib.hid C
  clear hE C
  go_enter Tryd.func4, Tryd.ntmps4
  by_cases h5 : 5000 < s.size
  · go_wp2_with (go_at_call 7; refine CA.out.mono ?_; rintro e w1 ⟨rfl, g1⟩; have G1 := Lib.hid g1; clear g1)
    go_ret
    exact ⟨rfl, G1.out⟩
  have hs : s.size ≤ 5000 := by omega
  cases hz : spL s.data.toList with
  | error p =>
    obtain ⟨bad, line⟩ := p
    have HZ := Lib.hid hz
    clear hz
    go_wp2_with (first
      | (go_at_call 7; refine CA.out.mono ?_; rintro e w1 ⟨rfl, g1⟩; have G1 := Lib.hid g1; clear g1)
      | (go_at_call 8; refine (HC.out.split s _ (HC.out.gr _ _ HE.out G1.out) hs).mono ?_; rintro e w2 ⟨g2, h2⟩; rw [HZ.out] at h2; obtain ⟨a2, c2, q, rfl, -⟩ := h2; have G2 := Lib.hid (G1.out.trans g2); clear g2))
    go_ret
    exact ⟨rfl, G2.out⟩
  | ok L =>
    have HZ := Lib.hid hz
    have HRise := spL_rise hz
    have HPl := Lib.hid (fun hl => spL_plain (l := s.data.toList) hl hz)
    have HLL := Lib.hid (show (linQ s.data.toList).length ≤ 5000 by have := linQ_len s.data.toList; simp at this; omega)
    obtain ⟨n, hn⟩ : ∃ n, (linQ s.data.toList).length = n := ⟨_, rfl⟩
    have CN := Lib.hid (fun W hW => HC.out.count s W hW hs)
    rw [hn] at HRise HPl HLL CN
    have hnb := HLL.out
    clear hz hn
    go_wp2_with (first
      | (go_at_call 7; refine CA.out.mono ?_; rintro e w1 ⟨rfl, g1⟩; have G1 := Lib.hid g1; clear g1)
      | (go_at_call 8; refine (HC.out.split s _ (HC.out.gr _ _ HE.out G1.out) hs).mono ?_; rintro e w2 ⟨g2, h2⟩; rw [HZ.out] at h2; obtain ⟨v, O, rfl, hR, hO⟩ := h2; obtain ⟨a, c, rfl, hR'⟩ := hR; have G2 := Lib.hid (G1.out.trans g2); have R2 := Lib.hid (show LnRow w2 (.slice a O.length c) O from ⟨a, c, rfl, hR'⟩); have HO := Lib.hid hO; clear g2 hR' hO))
    rw [← HO.out] at HRise HPl
    obtain ⟨r1, r2, r3⟩ := rise_at HRise
    have R1 := Lib.hid r1
    have RB := Lib.hid r2
    have HPl2 := Lib.hid (show s.data.toList.all nsQ = true → O.length = n from fun hl => by have := HPl.out hl; simpa using this)
    clear r1 r2 HRise HPl HO
    go_loopw [5, 26] (fun la i wr => ∃ k last : Nat, k ≤ O.length ∧ i = .int .i64 k ∧ la = .int .i64 last ∧ Hid (∀ (j : Nat) (x : Lb), k ≤ j → O[j]? = some x → last < x.n) ∧ Hid (w2.grownBy wr none)) (fun _ i _ => O.length - (intOf i).toNat)
    case atStart => exact ⟨0, 0, Nat.zero_le _, rfl, rfl, Lib.hid (fun j x _ hx => by have := RB.out j x hx; omega), Lib.hid (World.grownBy.refl _ _)⟩
    case round =>
      obtain ⟨k, last, hk, rfl, rfl, hLast, hG⟩ := hrel
      by_cases hlt : k < O.length
      · obtain ⟨b1, o1, c1', x, e1, hx, hb1, x0, x1, x2⟩ := (R2.out.grown hG.out).at k hlt
        cases e1
        have hl1 := hLast.out k x (Nat.le_refl _) hx
        have hl2 := RB.out k x hx
        have d1 : decide (x.n ≤ last) = false := decide_eq_false (by omega)
        have d2 : decide (n < x.n) = false := decide_eq_false (by omega)
        have HN := Lib.hid (show ∀ (j : Nat) (y : Lb), k + 1 ≤ j → O[j]? = some y → x.n < y.n from fun j y hj hy => R1.out k j x y (by omega) hx hy)
        clear hx
        have G3 := Lib.hid (hG.out.trans (World.grownBy_alloc wr (.cells #[.string x.t, .int .i64 x.n, .bool x.r] 33) none))
        have k0 : ∀ u : Gr (wr.alloc (.cells #[.string x.t, .int .i64 x.n, .bool x.r] 33)), u.W.cell? ⟨wr.heap.size, 0, none⟩ = some (.string x.t) := fun u => u.g.cell (by simp) (by simp)
        have k1 : ∀ u : Gr (wr.alloc (.cells #[.string x.t, .int .i64 x.n, .bool x.r] 33)), u.W.cell? ⟨wr.heap.size, 1, none⟩ = some (.int .i64 x.n) := fun u => u.g.cell (by simp) (by simp)
        have X1 := Lib.hid k1
        have EX := Lib.hid (show ∀ u : Gr (wr.alloc (.cells #[.string x.t, .int .i64 x.n, .bool x.r] 33)), E u.W from fun u => HC.out.gr _ _ HE.out ((G2.out.trans G3.out).trans u.g))
        have inst : Nonempty (Gr (wr.alloc (.cells #[.string x.t, .int .i64 x.n, .bool x.r] 33))) := ⟨⟨_, World.grownBy.refl _ _⟩⟩
        go_upto_region 12 with fail
        generalize (wr.alloc (.cells #[.string x.t, .int .i64 x.n, .bool x.r] 33)) = wx at *
        generalize wr.heap.size = p at *
        refine wp_region_grows (by kernel_rfl) (by kernel_rfl) ?_
        repeat (go_big_quiet_step (first
          | (go_at_call 11; (with_reducible refine (CN.out _ (EX.out _)).mono ?_); rintro e w9 ⟨he, g9⟩; exact ⟨he, ⟨_, (Gr.g _).trans g9⟩, rfl⟩)))
        refine wpQuiet_nil ?_
        rintro w9 ⟨⟨_, g9⟩, rfl⟩
        have kc := X1.out ⟨w9, g9⟩
        have G9 := Lib.hid (G3.out.trans g9)
        simp only at kc
        clear k0 k1 inst X1 g9
        go_wp2
        go_roundw
        case rel => exact ⟨k + 1, x.n, by omega, by go_num, rfl, HN, G9⟩
        case measure => simp [intOf]; omega
      · obtain ⟨wo, rfl⟩ : ∃ wo : World, wo = wr := ⟨_, rfl⟩
        go_wp2
        go_loopw [8] (fun i wr => ∃ j : Nat, j ≤ s.size ∧ i = .int .i64 j ∧ Hid ((s.data.toList.take j).all nsQ = true) ∧ Hid (w2.grownBy wr none)) (fun i _ => s.size - (intOf i).toNat)
        case atStart => exact ⟨0, Nat.zero_le _, rfl, Lib.hid rfl, hG⟩
        case round =>
          obtain ⟨j, hj, rfl, hA, hG3⟩ := hrel
          by_cases hjt : j < s.size
          · have HJ := Lib.hid (list_at hjt)
            cases hb : nsQ s[j]
            · have hw : (((s[j]).toNat : Int) == 39) = true ∨ ((((s[j]).toNat : Int) == 39) = false ∧ (((s[j]).toNat : Int) == 92) = true) ∨ ((((s[j]).toNat : Int) == 39) = false ∧ (((s[j]).toNat : Int) == 92) = false ∧ (((s[j]).toNat : Int) == 35) = true) := by
                unfold nsQ at hb
                simp only [Bool.and_eq_false_iff, bne_eq_false_iff_eq, ← UInt8.toNat_inj] at hb
                have hb : ((s[j]).toNat = 39 ∨ (s[j]).toNat = 92) ∨ (s[j]).toNat = 35 := hb
                simp only [beq_iff_eq, beq_eq_false_iff_ne, ne_eq]
                omega
              have hle : decide ((O.length : Int) ≤ (n : Int)) = true := by simp; omega
              clear hb
              rcases hw with d1 | ⟨d1, d2⟩ | ⟨d1, d2, d3⟩
              all_goals
                go_wp2_with (go_at_call 11; (with_reducible refine (CN.out _ (HC.out.gr _ _ HE.out (G2.out.trans hG3.out))).mono ?_); rintro e w9 ⟨rfl, g9⟩; have G9 := Lib.hid (hG3.out.trans g9); clear g9)
                go_ret
                exact ⟨by first | rfl | simp [hle] | (simp; omega), G2.out.trans G9.out⟩
            · have hw : (((s[j]).toNat : Int) == 39) = false ∧ (((s[j]).toNat : Int) == 92) = false ∧ (((s[j]).toNat : Int) == 35) = false := by
                unfold nsQ at hb
                simp only [Bool.and_eq_true, bne_iff_ne, ne_eq, ← UInt8.toNat_inj] at hb
                have hb : (¬(s[j]).toNat = 39 ∧ ¬(s[j]).toNat = 92) ∧ ¬(s[j]).toNat = 35 := hb
                simp only [beq_eq_false_iff_ne, ne_eq]
                omega
              have HA := Lib.hid (show (s.data.toList.take (j + 1)).all nsQ = true by rw [ns_take HJ.out, hA.out, hb]; rfl)
              obtain ⟨d1, d2, d3⟩ := hw
              clear hb
              go_wp2
              go_roundw
              case rel => exact ⟨j + 1, by omega, by go_num, HA, hG3⟩
              case measure => simp [intOf]; omega
          · have hEq : O.length = n := HPl2.out (by have := hA.out; rwa [List.take_of_length_le (by simp; omega)] at this)
            have hle : ((O.length : Int) == (n : Int)) = true := by simp; omega
            go_wp2_with (go_at_call 11; (with_reducible refine (CN.out _ (HC.out.gr _ _ HE.out (G2.out.trans hG3.out))).mono ?_); rintro e w9 ⟨rfl, g9⟩; have G9 := Lib.hid (hG3.out.trans g9); clear g9)
            go_ret
            exact ⟨by first | rfl | simp [hle] | (simp; omega), G2.out.trans G9.out⟩
end Go.Proofs.YtigjmaicolgalaaDoor

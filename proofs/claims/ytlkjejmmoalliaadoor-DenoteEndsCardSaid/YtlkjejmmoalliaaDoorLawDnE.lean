/- The law DenoteEnds, walked. -/
import Derived.Test.YtlkjejmmoalliaaDoorDenAlive
import Derived.Test.YtlkjejmmoalliaaDoorDenRef
import Derived.Test.YtlkjejmmoalliaaDoorPgLenL
import Derived.Test.YtlkjejmmoalliaaDoorPgLOf
import Derived.Test.YtlkjejmmoalliaaDoorPgDoc
namespace Go.Proofs.YtlkjejmmoalliaaDoor
open Go.RowKit

theorem ownI_zero (w : World) (T : TypeId) (base : Nat) (hb : base ≤ w.heap.size) : (w.alloc (.cells #[] T)).ownsRow base T 1 (.slice (some ⟨w.heap.size, 0, none⟩) 0 0) 0 (intsN []) :=
  ⟨rfl, .inr ⟨w.heap.size, 0, _, rfl, hb, heap_alloc_new w _, Nat.le_refl _, by decide, rfl, rfl⟩⟩
/-- the places up to one at which a node's spans end -/
noncomputable def wantL (n : Ni) (s : ByteArray) (fr : Nat) (j : Nat) : List Nat := (List.range j).filter fun k => dB (fr ≤ k ∧ SpN s n fr k)
theorem want_snoc (n : Ni) (s : ByteArray) (fr j : Nat) : wantL n s fr (j + 1) = wantL n s fr j ++ (if dB (fr ≤ j ∧ SpN s n fr j) then [j] else []) := by
  unfold wantL
  rw [List.range_succ, List.filter_append]
  congr 1
  by_cases h : dB (fr ≤ j ∧ SpN s n fr j) = true <;> simp [h]
theorem want_none (n : Ni) (s : ByteArray) (fr : Nat) : wantL n s fr fr = [] := by
  unfold wantL
  rw [List.filter_eq_nil_iff]
  intro k hk
  rw [List.mem_range] at hk
  rw [dB_no (fun h => by omega)]; simp
theorem want_len (n : Ni) (s : ByteArray) (fr j : Nat) : (wantL n s fr j).length ≤ j := by
  have := List.length_filter_le (fun k => dB (fr ≤ k ∧ SpN s n fr k)) (List.range j)
  rw [List.length_range] at this; exact this
theorem want_ends {n : Ni} {s : ByteArray} {fr : Nat} (hr : rgtN n = true) (hf : fr ≤ s.size) : EndsL n s fr (wantL n s fr (s.size + 1)) := by
  refine ⟨List.Pairwise.filter _ List.pairwise_lt_range, fun r => ?_⟩
  unfold wantL
  rw [List.mem_filter, List.mem_range, dB_iff]
  constructor
  · rintro ⟨h1, h2, h3⟩; exact ⟨by omega, by omega, hr, by simpa using h3⟩
  · rintro ⟨-, -, -, h⟩
    have h : SpN s n fr r := by simpa using h
    have := sp_goes s n _ _ hf h
    exact ⟨by omega, by omega, h⟩
theorem none_ends {n : Ni} {s : ByteArray} {fr : Int} (h : ¬(rgtN n = true ∧ 0 ≤ fr ∧ fr ≤ s.size)) : EndsL n s fr [] := by
  refine ⟨by simp, fun r => ⟨fun h => by simp at h, ?_⟩⟩
  rintro ⟨h1, h2, h3, -⟩; exact (h ⟨h3, h1, h2⟩).elim
theorem spB_ends {n : Ni} {s : ByteArray} {fr t : Int} {l : List Nat} (h : EndsL n s fr l) : spB n s fr t = (castN l).contains t := by
  unfold spB
  rw [Bool.eq_iff_iff, dB_iff, List.contains_iff_mem, List.mem_map]
  constructor
  · rintro ⟨h1, h2, h3, h4, h5⟩
    exact ⟨t.toNat, (h.2 _).2 ⟨h1, h2, h3, h5⟩, by omega⟩
  · rintro ⟨r, hr, rfl⟩
    obtain ⟨h1, h2, h3, h4⟩ := (h.2 r).1 hr
    exact ⟨h1, h2, h3, by omega, by simpa using h4⟩
theorem spB_no (n : Ni) : spB n noB 0 0 = (rgtN n && dB (SpN noB n 0 0)) := by
  unfold spB
  rw [Bool.eq_iff_iff, dB_iff, Bool.and_eq_true, dB_iff]
  constructor
  · rintro ⟨-, -, h, -, h'⟩; exact ⟨h, by simpa using h'⟩
  · rintro ⟨h, h'⟩; exact ⟨by omega, by decide, h, by omega, by simpa using h'⟩
theorem any_takeI {l : List Int} {j : Nat} {x t : Int} (h : l[j]? = some x) : (l.take (j + 1)).contains t = ((l.take j).contains t || x == t) := by
  rw [List.take_add_one, h, Bool.eq_iff_iff, List.contains_iff_mem, List.mem_append, Bool.or_eq_true, List.contains_iff_mem, beq_iff_eq]
  exact or_congr Iff.rfl (by simp only [Option.toList_some, List.mem_singleton]; exact eq_comm)

set_option maxRecDepth 100000 in
set_option maxHeartbeats 8000000 in
theorem lDenoteEnds (A : Nat → Addr) (n : Ni) (a : Option Addr) (m c : Nat) (s : ByteArray) (fr : Int) (w : World) (hE : PEnv A w) (hS : s.size ≤ maxLen) (hK : KidsE w (.slice a m c) n.kids) :
    Calls Tryd.prog 3 #[niV n (.slice a m c), .string s, .int .i64 fr] w fun e w' => e = .returned (.bool true) ∧ w.grownBy w' none := by
  have HSM := Lib.hid hS
  clear hS
  have ga := World.grownBy_alloc w (.cells #[.int .i64 n.kind, .int .i64 n.index, .int .u64 (wd n.set 0), .int .u64 (wd n.set 1), .int .u64 (wd n.set 2), .int .u64 (wd n.set 3), .slice a m c] 27) none
  have B1 := Lib.hid (heap_alloc_new w (.cells #[.int .i64 n.kind, .int .i64 n.index, .int .u64 (wd n.set 0), .int .u64 (wd n.set 1), .int .u64 (wd n.set 2), .int .u64 (wd n.set 3), .slice a m c] 27))
  have K1 := Lib.hid (hK.grown ga)
  have E1 := Lib.hid (hE.grown ga)
  have G1 := Lib.hid ga
  clear ga hE hK
  go_enter Tryd.func3, Tryd.ntmps3
  go_upto_region 1 with fail
  generalize w.alloc _ = w1 at B1 K1 E1 G1 ⊢
  generalize w.heap.size = q at B1 ⊢
  have HA := Lib.hid (lAlive10 A w1 E1.out)
  go_upto_region 3 with (go_at_call 6; refine HA.out.mono ?_; rintro e w2 ⟨rfl, g2⟩)
  have B2 := Lib.hid (heap_grown g2 B1.out)
  have K2 := Lib.hid (K1.out.grown g2)
  have G2 := Lib.hid (G1.out.trans g2)
  clear g2 B1 K1 E1 G1 HA
  by_cases hs8 : (s.size : Int) > 8
  · go_wp2
    go_ret
    exact ⟨rfl, G2.out⟩
  obtain ⟨c0, c1, c2, c3, c4, c5, c6⟩ := seven_cells B2.out
  have HG := Lib.hid (cGreatT n 14 a m c w2 (by omega) (by omega) K2.out)
  obtain ⟨y1, y2, y3⟩ := lftN_is n 14 (by omega)
  obtain ⟨t, ht⟩ : ∃ t, t = lftN n 14 := ⟨_, rfl⟩
  rw [← ht] at HG y1 y2 y3
  clear ht
  by_cases htn : t < 0
  · have hd : decide (t < 0) = true := by simpa using htn
    rw [hd] at HG
    clear htn y1 y2 y3 hd
    go_wp2_with (go_at_call 7; (with_reducible refine HG.out.mono ?_); rintro e w3 ⟨rfl, g3⟩; have G3 := Lib.hid (G2.out.trans g3); clear g3)
    go_ret
    exact ⟨rfl, G3.out⟩
  have hd : decide (t < 0) = false := by simpa using htn
  rw [hd] at HG
  have HSZ := Lib.hid (show szN n ≤ 14 by have := y3 (by omega); omega)
  clear htn y1 y2 y3 hd
  go_upto_region 5 with (go_at_call 7; (with_reducible refine HG.out.mono ?_); rintro e w3 ⟨rfl, g3⟩)
  clear c0 c1 c2 c3 c4 c5 c6 HG
  have B3 := Lib.hid (heap_grown g3 B2.out)
  have K3 := Lib.hid (K2.out.grown g3)
  have G3 := Lib.hid (G2.out.trans g3)
  clear g3 B2 K2 G2
  obtain ⟨c0, c1, c2, c3, c4, c5, c6⟩ := seven_cells B3.out
  have HO := Lib.hid (cLawOfI 200 n a m c w3 (by have := HSZ.out; omega) (Nat.le_refl _) K3.out)
  go_upto_region 6 with (go_at_call 8; (with_reducible refine HO.out.mono ?_); rintro e w4 ⟨⟨a4, m4, k4, rfl, hk4⟩, g4⟩)
  clear c0 c1 c2 c3 c4 c5 c6 HO
  have ga := World.grownBy_alloc w4 (.cells #[.int .i64 n.kind, .int .i64 n.index, .int .u64 (wd n.set 0), .int .u64 (wd n.set 1), .int .u64 (wd n.set 2), .int .u64 (wd n.set 3), .slice a4 m4 k4] 32) none
  have gg := g4.trans ga
  have D5 := Lib.hid (heap_alloc_new w4 (.cells #[.int .i64 n.kind, .int .i64 n.index, .int .u64 (wd n.set 0), .int .u64 (wd n.set 1), .int .u64 (wd n.set 2), .int .u64 (wd n.set 3), .slice a4 m4 k4] 32))
  have B5 := Lib.hid (heap_grown gg B3.out)
  have K5 := Lib.hid (K3.out.grown gg)
  have J5 := Lib.hid (hk4.any.grown ga)
  have G5 := Lib.hid (G3.out.trans gg)
  clear ga gg g4 hk4 B3 K3 G3
  generalize w4.heap.size = q5 at D5 ⊢
  generalize w4.alloc _ = w5 at D5 B5 K5 J5 G5 ⊢
  have O6 := Lib.hid (ownI_zero w5 3 w5.heap.size (Nat.le_refl _))
  have Z6 := Lib.hid (World.grownBy_alloc w5 (.cells #[] 3) none)
  have CE := Lib.hid (fun W (g : w5.grownBy W none) => cEndsF n a m c fr s W (by have := HSZ.out; omega) (by omega) (K5.out.grown g))
  have CS := Lib.hid (fun (tq : Int) (htq : tq ≤ s.size + 1) W (g : w5.grownBy W none) => cSpansF n a m c fr tq s W (by have := HSZ.out; omega) (by omega) htq (K5.out.grown g))
  have CM := Lib.hid (fun W (g : w5.grownBy W none) => (spB_no n ▸ cEmptyD n a m c W (by have := HSZ.out; omega) (K5.out.grown g)))
  have DR := Lib.hid (fun W (g : w5.grownBy W none) => dRight 200 n a4 m4 k4 W (by have := HSZ.out; omega) (Nat.le_refl _) (J5.out.grown g))
  have DS := Lib.hid (fun hr i j h1 h2 W (g : w5.grownBy W none) => dSpans 200 (by omega) n s i j a4 m4 k4 W (by have := HSZ.out; omega) hr h1 h2 (by omega) (J5.out.grown g))
  have DN := Lib.hid (fun hr W (g : w5.grownBy W none) => (show Calls Tryd.prog 10 #[niV n (.slice a4 m4 k4), .string noB, .int .i64 0, .int .i64 0] W fun e w' => e = .returned (.bool (dB (SpN noB n 0 0))) ∧ W.grownBy w' none from dSpans 200 (by omega) n noB 0 0 a4 m4 k4 W (by have := HSZ.out; omega) hr (Nat.le_refl _) (Nat.le_refl _) (by decide) (J5.out.grown g)))
  have SK := Lib.hid (show ∀ W, w5.grownBy W none → ((W.cell? ⟨q, 0, none⟩ = some (.int .i64 n.kind) ∧ W.cell? ⟨q, 1, none⟩ = some (.int .i64 n.index) ∧ W.cell? ⟨q, 2, none⟩ = some (.int .u64 (wd n.set 0)) ∧ W.cell? ⟨q, 3, none⟩ = some (.int .u64 (wd n.set 1)) ∧ W.cell? ⟨q, 4, none⟩ = some (.int .u64 (wd n.set 2)) ∧ W.cell? ⟨q, 5, none⟩ = some (.int .u64 (wd n.set 3)) ∧ W.cell? ⟨q, 6, none⟩ = some (.slice a m c)) ∧ (W.cell? ⟨q5, 0, none⟩ = some (.int .i64 n.kind) ∧ W.cell? ⟨q5, 1, none⟩ = some (.int .i64 n.index) ∧ W.cell? ⟨q5, 2, none⟩ = some (.int .u64 (wd n.set 0)) ∧ W.cell? ⟨q5, 3, none⟩ = some (.int .u64 (wd n.set 1)) ∧ W.cell? ⟨q5, 4, none⟩ = some (.int .u64 (wd n.set 2)) ∧ W.cell? ⟨q5, 5, none⟩ = some (.int .u64 (wd n.set 3)) ∧ W.cell? ⟨q5, 6, none⟩ = some (.slice a4 m4 k4))) from fun W g => ⟨seven_cells (heap_grown g B5.out), seven_cells (heap_grown g D5.out)⟩)
  clear D5 B5 K5 J5
  go_upto_region 7 with fail
  generalize w5.alloc _ = w6 at O6 Z6 ⊢
  obtain ⟨base, hbase⟩ : ∃ base, base = w5.heap.size := ⟨_, rfl⟩
  rw [← hbase] at O6 ⊢
  have HBL := Lib.hid (show w5.heap.size = base from hbase.symm)
  clear hbase
  obtain ⟨⟨c0, c1, c2, c3, c4, c5, c6⟩, d0, d1, d2, d3, d4, d5, d6⟩ := SK.out _ Z6.out
  obtain ⟨rr, hrr⟩ : ∃ rr, rr = rgtN n := ⟨_, rfl⟩
  have DR2 := DR.out w6 Z6.out
  rw [← hrr] at DR2
  have DR3 := Lib.hid DR2
  have HRR := Lib.hid hrr
  clear DR2 hrr
  go_upto_region 8 with (go_at_call 9; (with_reducible refine (DR3.out).mono ?_); rintro e w7 ⟨rfl, g7⟩)
  have O7 := Lib.hid (owns_kept O6.out g7)
  have Z7 := Lib.hid (Z6.out.trans g7)
  clear g7 O6 Z6 c0 c1 c2 c3 c4 c5 c6 d0 d1 d2 d3 d4 d5 d6 DR DR3
  obtain ⟨B, hB⟩ : ∃ B, B = (rr && decide (0 ≤ fr) && decide (fr ≤ s.size)) := ⟨_, rfl⟩
  have HB := Lib.hid hB
  clear hB
  go_cut [40] from 30 to 39 (fun s40 wx => s40 = .bool B ∧ wx = w7)
  case first =>
    cases rr
    · go_wp2
      go_meet
      exact ⟨by rw [HB.out]; rfl, rfl⟩
    · by_cases h1 : 0 ≤ fr
      · by_cases h2 : fr ≤ s.size
        · go_wp2
          go_meet
          exact ⟨by rw [HB.out]; simp [h1, h2], rfl⟩
        · go_wp2
          go_meet
          exact ⟨by rw [HB.out]; simp [h1, h2], rfl⟩
      · go_wp2
        go_meet
        exact ⟨by rw [HB.out]; simp; omega, rfl⟩
  case rest =>
    obtain ⟨rfl, rfl⟩ := hcut
    go_upto_if 40 with fail
    have hs8' : s.size ≤ 8 := by omega
    clear hs8
    go_cut [8, 10] from 41 to 56 (fun s8 _ wx => ∃ (va : Option Addr) (vc : Nat) (l : List Nat), s8 = .slice va l.length vc ∧ Hid (EndsL n s fr l) ∧ Hid (wx.ownsRow base 3 1 (.slice va l.length vc) l.length (intsN l)) ∧ Hid (w5.grownBy wx none))
    case first =>
      cases B
      · have HN := Lib.hid (none_ends (n := n) (s := s) (fr := fr) (fun ⟨h1, h2, h3⟩ => by
          have := HB.out
          rw [HRR.out, h1] at this
          simp [h2, h3] at this))
        go_wp2
        go_meet
        exact ⟨_, _, [], rfl, HN, O7, Z7⟩
      · obtain ⟨hr, h1, h2⟩ : rgtN n = true ∧ 0 ≤ fr ∧ fr ≤ s.size := by
          have := HB.out
          rw [HRR.out] at this
          simpa [and_assoc] using this.symm
        obtain ⟨f, rfl⟩ := Int.eq_ofNat_of_zero_le h1
        have HE := Lib.hid (want_ends hr (show f ≤ s.size by omega))
        have DS2 := Lib.hid (DS.out hr)
        have hf : f ≤ s.size := by omega
        obtain ⟨iu, hiu, hu0, hu1, hu2⟩ := info_parts infoI10
        have IU := Lib.hid hiu; have ZU0 := Lib.hid hu0; have ZU1 := Lib.hid hu1; have ZU2 := Lib.hid hu2
        have OS := Lib.hid (show wc.ownsRow base 3 1 (.slice (some ⟨base, 0, none⟩) (wantL n s f f).length 0) (wantL n s f f).length (intsN (wantL n s f f)) by rw [want_none]; exact O7.out)
        have HL0 := Lib.hid (show (wantL n s f f).length = 0 by rw [want_none]; rfl)
        clear hiu hu0 hu1 hu2 hr h1 h2
        go_wp2
        go_loopw [8, 10] (fun v i wr => ∃ (j : Nat) (va : Option Addr) (vc : Nat), f ≤ j ∧ j ≤ s.size + 1 ∧ i = .int .i64 j ∧ v = .slice va (wantL n s f j).length vc ∧ Hid (wr.ownsRow base 3 1 (.slice va (wantL n s f j).length vc) (wantL n s f j).length (intsN (wantL n s f j))) ∧ Hid (w5.grownBy wr none)) (fun _ i _ => s.size + 1 - (intOf i).toNat)
        case atStart => exact ⟨f, _, _, Nat.le_refl _, by omega, rfl, by rw [HL0.out], OS, Z7⟩
        case round =>
          obtain ⟨j, va, vc, hj1, hj2, rfl, rfl, hO, hG⟩ := hrel
          by_cases hlt : j ≤ s.size
          · have HT := Lib.hid (want_snoc n s f j)
            have HL := Lib.hid (want_len n s f j)
            have HD := Lib.hid (show dB (f ≤ j ∧ SpN s n f j) = dB (SpN s n f j) from dB_same ⟨And.right, fun h => ⟨hj1, h⟩⟩)
            rw [HD.out] at HT
            generalize wantL n s f j = L at hO HT HL
            have hLL := HL.out
            have DS3 := Lib.hid (DS2.out f j hj1 hlt wr hG.out)
            obtain ⟨-, d0, d1, d2, d3, d4, d5, d6⟩ := SK.out _ hG.out
            generalize dB (SpN s n f j) = bb at HT DS3
            clear HD HL
            cases bb
            · have HT2 := Lib.hid (show wantL n s f (j + 1) = L by rw [HT.out]; simp)
              have HO2 := Lib.hid (show ∀ W, wr.grownBy W none → W.ownsRow base 3 1 (.slice va (wantL n s f (j + 1)).length vc) (wantL n s f (j + 1)).length (intsN (wantL n s f (j + 1))) from fun W g => by rw [HT2.out]; exact owns_kept hO.out g)
              have HL2 := Lib.hid (show (wantL n s f (j + 1)).length = L.length by rw [HT2.out])
              clear HT
              go_wp2_with (go_at_call 10; (with_reducible refine (DS3.out).mono ?_); rintro e w8 ⟨rfl, g8⟩; have G8 := Lib.hid (hG.out.trans g8); have O8 := Lib.hid (HO2.out _ g8); clear g8)
              go_roundw
              case rel => exact ⟨j + 1, _, _, by omega, by omega, by go_num, by rw [HL2.out], O8, G8⟩
              case measure => simp [intOf]; omega
            · have HT2 := Lib.hid (show wantL n s f (j + 1) = L ++ [j] by rw [HT.out]; simp)
              clear HT
              go_wp2_with (first
                | (go_at_call 10; (with_reducible refine (DS3.out).mono ?_); rintro e w8 ⟨rfl, g8⟩; have G8 := Lib.hid (hG.out.trans g8); have O8 := Lib.hid (owns_kept hO.out g8); have S8 := Lib.hid (show base ≤ w8.heap.size by have := G8.out.size; have := HBL.out; omega); clear g8)
                | (at_builtin; refine wpList_append_own _ rfl _ _ 34 rfl base 3 iu _ 1 8 Tryd.underlying34 IU.out ZU0.out ZU1.out ZU2.out rfl (by decide) _ _ _ rfl (O8.out.alloc _) ⟨_, 0, none⟩ 1 1 [.int .i64 j] rfl rfl (new_step _ _ _ _ (by simp)) (int_one _) (by unfold maxLen; omega) (by omega) (by have := S8.out; simp; omega) ?_; intro v9 w9 hown9 hgrow9 _; have G9 := Lib.hid ((G8.out.trans (World.grownBy_alloc _ _ _)).andThen hgrow9 (fun k hk => .inl (by have := (O8.out.lt k hk).1; have := HBL.out; omega))); have O9 := Lib.hid hown9; clear hown9 hgrow9))
              obtain ⟨va9, vc9, rfl⟩ := owns_shape O9.out
              have HL2 := Lib.hid (show (wantL n s f (j + 1)).length = L.length + 1 by rw [HT2.out]; simp)
              have OA := Lib.hid (show w9.ownsRow base 3 1 (.slice va9 (wantL n s f (j + 1)).length vc9) (wantL n s f (j + 1)).length (intsN (wantL n s f (j + 1))) by rw [HT2.out, List.length_append, intsN, List.map_append]; exact O9.out)
              go_wp2
              go_roundw
              case rel => exact ⟨j + 1, _, _, by omega, by omega, by go_num, by rw [HL2.out], OA, G9⟩
              case measure => simp [intOf]; omega
          · obtain rfl : j = s.size + 1 := by omega
            go_wp2
            go_meet
            exact ⟨_, _, _, rfl, HE, hO, hG⟩
    case rest =>
      obtain ⟨va, vc, l, rfl, HE, HO, HZ⟩ := hcut
      clear O7 Z7 HB DS
      have HLE := Lib.hid HE.out.len
      have hll : l.length ≤ 9 := by have := HLE.out; omega
      have CE1 := Lib.hid (CE.out _ HZ.out)
      obtain ⟨⟨c0, c1, c2, c3, c4, c5, c6⟩, -⟩ := SK.out _ HZ.out
      have IR := Lib.hid (irow_owns HO.out)
      have HCL := Lib.hid (show (castN l).length = l.length by simp)
      have HSI := Lib.hid (fun w8 v (g : wc.grownBy w8 none) (hv : IRow w8 v (castN l)) => cSameI v (.slice va l.length vc) (castN l) w8 (by rw [HCL.out]; omega) hv (IR.out.grown g))
      go_upto_region 15 with (go_at_call 11; (with_reducible refine (CE1.out).mono ?_); rintro e w8 ⟨g8, v, l2, rfl, ho, hl⟩; obtain rfl : l = l2 := (hl.same HE.out).symm; have CI8 := Lib.hid (HSI.out w8 v g8 (irow_owns ho)); have G8 := Lib.hid (HZ.out.trans g8); have I8 := Lib.hid (IR.out.grown g8); obtain ⟨va8, vc8, rfl⟩ := owns_shape ho; clear ho hl g8)
      clear c0 c1 c2 c3 c4 c5 c6 HSI CE1 HO HZ IR
      go_upto_region 17 with (go_at_call 12; (with_reducible refine (CI8.out).mono ?_); rintro e w9 ⟨rfl, g9⟩; have G9 := Lib.hid (G8.out.trans g9); have I9 := Lib.hid (I8.out.grown g9); clear g9)
      clear G8 I8 CI8
      have HSB := Lib.hid (fun x : Int => spB_ends (t := x) HE.out)
      clear HE
      go_wp2
      go_loopw [12] (fun i wr => ∃ x : Int, -1 ≤ x ∧ x ≤ s.size + 2 ∧ i = .int .i64 x ∧ Hid (w5.grownBy wr none) ∧ Hid (IRow wr (.slice va l.length vc) (castN l))) (fun i _ => (s.size + 2 - intOf i).toNat)
      case atStart => exact ⟨-1, by omega, by omega, rfl, G9, I9⟩
      case round =>
        obtain ⟨x, hx1, hx2, rfl, hG, hI⟩ := hrel
        by_cases hlt : x < s.size + 2
        · have CS1 := CS.out x (by omega) wr hG.out
          rw [HSB.out x] at CS1
          have CS2 := Lib.hid CS1
          clear CS1
          obtain ⟨⟨c0, c1, c2, c3, c4, c5, c6⟩, -⟩ := SK.out _ hG.out
          go_wp2
          go_loop [13, 74] (fun b i => ∃ (j : Nat) (z : Bool), j ≤ l.length ∧ i = .int .i64 j ∧ b = .bool z ∧ Hid (z = ((castN l).take j).contains x)) (fun _ i => l.length - (intOf i).toNat)
          case atStart => exact ⟨0, false, Nat.zero_le _, rfl, rfl, Lib.hid (by simp)⟩
          case round =>
            obtain ⟨j, z, hj, rfl, rfl, hZ⟩ := hrel
            by_cases hjl : j < l.length
            · obtain ⟨y, hy⟩ : ∃ y, (castN l)[j]? = some y := ⟨_, List.getElem?_eq_getElem (by rw [HCL.out]; exact hjl)⟩
              have HT := Lib.hid (any_takeI (t := x) hy)
              obtain ⟨a', c', e1, h1⟩ := hI.out
              obtain ⟨rfl, rfl⟩ : va = a' ∧ vc = c' := by injection e1 with h1 h2 h3; exact ⟨h1, h3⟩
              obtain ⟨p, o, rfl, z1⟩ := h1 j y hy
              clear h1 hy
              cases z
              · have HT2 := Lib.hid (show (y == x) = ((castN l).take (j + 1)).contains x by rw [HT.out, ← hZ.out, Bool.false_or])
                clear HT hZ
                go_wp2
                go_round
                case rel => exact ⟨j + 1, _, by omega, by go_num, rfl, HT2⟩
                case measure => simp [intOf]; omega
              · have HT2 := Lib.hid (show true = ((castN l).take (j + 1)).contains x by rw [HT.out, ← hZ.out, Bool.true_or])
                clear HT hZ
                go_wp2
                go_round
                case rel => exact ⟨j + 1, _, by omega, by go_num, rfl, HT2⟩
                case measure => simp [intOf]; omega
            · obtain rfl : j = l.length := by omega
              have hz : (castN l).contains x = z := by have := hZ.out; rw [← HCL.out, List.take_length] at this; exact this.symm
              rw [hz] at CS2
              clear hz hZ
              cases z
              all_goals
                go_wp2_with (go_at_call 13; (with_reducible refine (CS2.out).mono ?_); rintro e w10 ⟨rfl, g10⟩; have G10 := Lib.hid (hG.out.trans g10); have I10 := Lib.hid (hI.out.grown g10); clear g10)
                go_roundw
                case rel => exact ⟨x + 1, by omega, by omega, rfl, G10, I10⟩
                case measure => simp [intOf]; omega
        · have CM1 := CM.out _ hG.out
          rw [← HRR.out] at CM1
          obtain ⟨e0, he0⟩ : ∃ e0, e0 = dB (SpN noB n 0 0) := ⟨_, rfl⟩
          rw [← he0] at CM1 DN
          have CM2 := Lib.hid CM1
          clear he0 CM1 CM
          obtain ⟨⟨c0, c1, c2, c3, c4, c5, c6⟩, -⟩ := SK.out _ hG.out
          cases rr
          · rw [Bool.false_and] at CM2
            go_wp2_with (go_at_call 14; (with_reducible refine (CM2.out).mono ?_); rintro e w10 ⟨rfl, g10⟩; have G10 := Lib.hid (hG.out.trans g10); clear g10)
            go_ret
            exact ⟨rfl, G5.out.trans G10.out⟩
          · rw [Bool.true_and] at CM2
            have DN2 := Lib.hid (fun W g => DN.out HRR.out.symm W g)
            cases e0
            all_goals
              go_wp2_with (first
                | (go_at_call 14; (with_reducible refine (CM2.out).mono ?_); rintro e w10 ⟨rfl, g10⟩; have G10 := Lib.hid (hG.out.trans g10); have DN3 := Lib.hid (DN2.out _ G10.out); clear g10 c0 c1 c2 c3 c4 c5 c6; obtain ⟨-, d0, d1, d2, d3, d4, d5, d6⟩ := SK.out _ G10.out)
                | (go_at_call 10; (with_reducible refine (DN3.out).mono ?_); rintro e w11 ⟨rfl, g11⟩; have G11 := Lib.hid (G10.out.trans g11); clear g11))
              go_ret
              exact ⟨rfl, G5.out.trans G11.out⟩
end Go.Proofs.YtlkjejmmoalliaaDoor

/- What is done to one file of a tree leaves all others as they were. No condition on the files or on what is done. -/
import Derived.Test.YtpedamncnimgpaaDoorTreeK
import Derived.Test.YtpedamncnimgpaaDoorApartA
import Derived.Test.YtpedamncnimgpaaDoorTreeD
import Derived.Test.YtpedamncnimgpaaDoorTreeH
namespace Go.Proofs.YtpedamncnimgpaaDoor.treeApart
open Go.RowKit Go.Maps

theorem neq_same (f : Fl) (w : World) : (binOp .neq 31 (.agg #[.string f.n, .string f.c, .int .i64 f.t]) (.agg #[.string f.n, .string f.c, .int .i64 f.t])).run Tryd.prog w = .ok (.bool false) w := by
  rw [neqF, eqFl_self]; rfl

set_option maxRecDepth 100000 in
set_option maxHeartbeats 4000000 in
theorem walk (v : Value) (l : List Fl) (q : Int) (n c : ByteArray) (t : Int) (A : Nat → Addr) (w : World) (h : FRow w v l) (hS : Sents L6 A w) (hn : n.size ≤ maxLen) (hc : c.size ≤ maxLen) :
    Calls Tryd.prog 5 #[v, .agg #[.int .i64 q, .string n, .string c, .int .i64 t]] w fun e w' => e = .returned (.bool true) ∧ Below w.heap.size w w' := by
  have hn' := hn
  have hc' := hc
  unfold maxLen at hn' hc'
  have HR := Lib.hid h; have HS := Lib.hid hS
  have HN := Lib.hid hn; have HC := Lib.hid hc
  obtain ⟨av, cv, rfl, hln, -, -⟩ := h
  clear hS hn hc
  go_enter Tryd.func5, Tryd.ntmps5
  go_wp2_with fail
  -- the box of what is done
  have g0 := World.grownBy_alloc w (.cells #[.int .i64 q, .string n, .string c, .int .i64 t] 33) none
  have a0 : (w.alloc (.cells #[.int .i64 q, .string n, .string c, .int .i64 t] 33)).cell? ⟨w.heap.size, 0, none⟩ = some (.int .i64 q) := by go_simp
  have a1 : (w.alloc (.cells #[.int .i64 q, .string n, .string c, .int .i64 t] 33)).cell? ⟨w.heap.size, 1, none⟩ = some (.string n) := by go_simp
  have a2 : (w.alloc (.cells #[.int .i64 q, .string n, .string c, .int .i64 t] 33)).cell? ⟨w.heap.size, 2, none⟩ = some (.string c) := by go_simp
  have a3 : (w.alloc (.cells #[.int .i64 q, .string n, .string c, .int .i64 t] 33)).cell? ⟨w.heap.size, 3, none⟩ = some (.int .i64 t) := by go_simp
  generalize (w.alloc (.cells #[.int .i64 q, .string n, .string c, .int .i64 t] 33)) = w1 at g0 a0 a1 a2 a3 ⊢
  have G0 := Lib.hid g0
  have R1 := Lib.hid (HR.out.later (below_of_grown g0)); have S1 := Lib.hid (HS.out.grown g0)
  have A0 := Lib.hid a0; have A1 := Lib.hid a1; have A2 := Lib.hid a2; have A3 := Lib.hid a3
  generalize w.heap.size = qb at a0 a1 a2 a3 A0 A1 A2 A3 ⊢
  clear g0 a0 a1 a2 a3
  refine (lAliveT A _ S1.out.five).mono ?_
  rintro e w2 ⟨rfl, g2⟩
  have G2 := Lib.hid g2
  clear g2
  go_wp2_with fail
  refine (lLongF _ l 50 _ (R1.out.later (below_of_grown G2.out))).mono ?_
  rintro e w3 ⟨rfl, b3⟩
  have G3 := Lib.hid (G2.out.trans (grown_of_below b3))
  clear b3 G2
  have a1 := G3.out.cell A1.out (by simp)
  have a2 := G3.out.cell A2.out (by simp)
  by_cases hl : longF 50 l = true
  · go_wp2
    go_ret
    exact ⟨rfl, below_of_grown (G0.out.trans G3.out)⟩
  have hl' : longF 50 l = false := by simpa using hl
  clear hl
  by_cases hz1 : (100 : Int) < n.size
  · go_wp2
    go_ret
    exact ⟨rfl, below_of_grown (G0.out.trans G3.out)⟩
  by_cases hz2 : (1000 : Int) < c.size
  · go_wp2
    go_ret
    exact ⟨rfl, below_of_grown (G0.out.trans G3.out)⟩
  have hd1 : decide ((100 : Int) < n.size) = false := decide_eq_false hz1
  have hd2 : decide ((1000 : Int) < c.size) = false := decide_eq_false hz2
  clear hz1 hz2
  go_wp2_with fail
  refine (tOf _ l A _ (R1.out.later (below_of_grown G3.out)) (S1.out.grown G3.out).five).mono ?_
  intro e w4 hof
  have hl50 := longF_len hl'
  clear a1 a2 hl'
  rcases hof with ⟨k, hk, h1, rfl, g4⟩ | ⟨h1, rfl, t4, g4⟩
  · have G4 := Lib.hid (G3.out.trans g4)
    clear g4 hk h1
    go_wp2
    go_ret
    exact ⟨rfl, below_of_grown (G0.out.trans G4.out)⟩
  have G4 := Lib.hid (G3.out.trans g4)
  have hofg : ofG l [] = (0, (ofG l []).2) := by rw [← h1]
  generalize (ofG l []).2 = ts at hofg t4
  have HOF := Lib.hid hofg
  have lp : w1.heap.size ≤ w3.heap.size := G3.out.size
  have hpb : w3.heap.size ≤ w3.heap.size + 1 := Nat.le_succ _
  generalize hp1 : w3.heap.size + 1 = p1 at t4 hpb ⊢
  generalize hb1 : w3.heap.size = b1 at t4 hpb lp
  have T4 := Lib.hid t4
  have LP := Lib.hid lp
  clear g4 h1 hofg t4 lp hp1 hb1 hpb
  go_wp2_with fail
  refine (tCopy p1 b1 ts _ T4.out).mono ?_
  rintro e w5 ⟨rfl, t5, g5⟩
  have T5 := Lib.hid (T4.out.kept g5 (by simp) (by simp))
  have lt4 := T4.out.lt
  have ne1 : b1 ≠ w4.heap.size := by omega
  have ne2 : b1 ≠ w4.heap.size + 1 := by omega
  have G5 := Lib.hid (G4.out.trans g5)
  generalize hp2 : w4.heap.size + 1 = p2 at t5 ne2 ⊢
  generalize hb2 : w4.heap.size = b2 at t5 ne1
  have C5 := Lib.hid t5
  have NE1 := Lib.hid ne1; have NE2 := Lib.hid ne2
  clear g5 t5 lt4 ne1 ne2 hp2 hb2 T4 G4
  have R5 := Lib.hid (R1.out.later (below_of_grown G5.out)); have S5 := Lib.hid (S1.out.grown G5.out)
  have a0 := G5.out.cell A0.out (by simp)
  have a1 := G5.out.cell A1.out (by simp)
  have a2 := G5.out.cell A2.out (by simp)
  have a3 := G5.out.cell A3.out (by simp)
  -- what is done leads to one state
  have DONE : Hid (∀ (w6 : World) (t2 : List Fl), IsTree w6 p1 b1 t2 → w5.grownBy w6 (some b1) → Apart l n ts t2 → ApSt l (.slice av l.length cv) n p1 b1 p2 b2 w1 w6) :=
    fun w6 t2 t6 g6 ha => ⟨ts, t2, t6, C5.out.kept g6 (fun e => NE2.out (Option.some.inj e).symm) (fun e => NE1.out (Option.some.inj e).symm), R5.out.kept_map g6 T5.out.2.1, grown_none G5.out g6 LP.out, ha⟩
  rcases kinds q with rfl | rfl | rfl | ⟨e0, e1, e2⟩
  · have hcon := tPut p1 b1 ts ⟨n, c, t⟩ A
    simp only at hcon
    go_wp2_with (go_at_call 10; refine (hcon _ T5.out S5.out.five HN.out HC.out).mono ?_; rintro e w6 ⟨rfl, t6, g6⟩; have ST := Lib.hid (DONE.out _ _ t6 g6 (apart_set HOF.out _ ⟨n, c, t⟩)); clear t6 g6 hcon)
    clear a0 a1 a2 a3 DONE
    go_loopw [77] (fun i wr => ∃ k : Nat, k ≤ l.length ∧ i = .int .i64 k ∧ Hid (ApSt l (.slice av l.length cv) n p1 b1 p2 b2 w1 wr)) (fun i _ => l.length - (intOf i).toNat)
    case atStart => exact ⟨0, Nat.zero_le _, rfl, ST⟩
    case round =>
      obtain ⟨k, hk, rfl, hst⟩ := hrel
      have GW := Lib.hid hst.out.grown1
      by_cases hlt : k < l.length
      · obtain ⟨fb, off, c', f, e, hf, sn, sc, hb, c0, c1, c2⟩ := hst.out.row.at k hlt
        cases e
        have Hf := Lib.hid hf; have SN := Lib.hid sn
        have b1w := cell_al (GW.out.cell A1.out (by simp))
        clear hf sn sc
        by_cases hfn : (f.n.toList == n.toList) = true
        · go_wp2
          go_roundw
          case rel => exact ⟨k + 1, by omega, by go_num, Lib.hid (hst.out.grown (World.grownBy_alloc _ _ _))⟩
          case measure => simp [intOf]; omega
        have hfn' : (f.n.toList == n.toList) = false := by simpa using hfn
        have HFN := Lib.hid (show f.n ≠ n from fun e => hfn (by rw [e]; simp))
        clear hfn
        have tok1 : True := trivial
        have hgd := guardF
        have hnq := neq_same f
        go_wp2_with (first
          | (go_at_call 16; have _t := tok1; refine ((hst.out.grown (World.grownBy_alloc _ _ _)).get1 Hf.out HFN.out SN.out).mono ?_; rintro e w7 ⟨rfl, g7⟩; have G7 := Lib.hid ((World.grownBy_alloc wr _ none).trans g7); have d0 := Lib.hid (box_kept g7); have d3 := box_al d0.out; clear g7 tok1)
          | (go_at_call 16; refine ((hst.out.grown (G7.out.trans (World.grownBy_alloc _ _ _))).get2 Hf.out SN.out).mono ?_; rintro e w8 ⟨rfl, g8⟩; have G8 := Lib.hid ((World.grownBy_alloc w7 _ none).trans g8); have d1 := box_al (box_later d0.out G8.out); have d2 := box_al (box_kept g8); clear g8))
        go_roundw
        case rel => exact ⟨k + 1, by omega, by go_num, Lib.hid (hst.out.grown ((G7.out.trans G8.out).trans (World.grownBy_alloc _ _ _)))⟩
        case measure => simp [intOf]; omega
      · obtain ⟨t1, t2, h1, h2, h3, h4, h5⟩ := hst.out
        have hle : t2.length ≤ l.length + 1 := h5.2.2
        have h40 : t2.length ≤ 40 := h1.2.2
        have HH := Lib.hid h1
        clear h1 h2 h3 h4 h5
        go_wp2_with (go_at_call 26; refine (tNames p1 b1 t2 _ HH.out).mono ?_; rintro e w7 ⟨a7, c7, rfl, o7, b7⟩; have B7 := Lib.hid b7; clear o7 b7)
        go_ret
        exact ⟨ret_bool' (by simp; omega), below_of_grown (G0.out.trans (GW.out.trans (grown_of_below B7.out)))⟩
  · have hcon := tTouch p1 b1 ts n t A
    go_wp2_with (go_at_call 12; refine (hcon _ T5.out S5.out.five HN.out).mono ?_; rintro e w6 ⟨rfl, t6, g6⟩; have ST := Lib.hid (DONE.out _ _ t6 g6 (apart_set HOF.out _ (touF ts n t))); clear t6 g6 hcon)
    clear a0 a1 a2 a3 DONE
    go_loopw [77] (fun i wr => ∃ k : Nat, k ≤ l.length ∧ i = .int .i64 k ∧ Hid (ApSt l (.slice av l.length cv) n p1 b1 p2 b2 w1 wr)) (fun i _ => l.length - (intOf i).toNat)
    case atStart => exact ⟨0, Nat.zero_le _, rfl, ST⟩
    case round =>
      obtain ⟨k, hk, rfl, hst⟩ := hrel
      have GW := Lib.hid hst.out.grown1
      by_cases hlt : k < l.length
      · obtain ⟨fb, off, c', f, e, hf, sn, sc, hb, c0, c1, c2⟩ := hst.out.row.at k hlt
        cases e
        have Hf := Lib.hid hf; have SN := Lib.hid sn
        have b1w := cell_al (GW.out.cell A1.out (by simp))
        clear hf sn sc
        by_cases hfn : (f.n.toList == n.toList) = true
        · go_wp2
          go_roundw
          case rel => exact ⟨k + 1, by omega, by go_num, Lib.hid (hst.out.grown (World.grownBy_alloc _ _ _))⟩
          case measure => simp [intOf]; omega
        have hfn' : (f.n.toList == n.toList) = false := by simpa using hfn
        have HFN := Lib.hid (show f.n ≠ n from fun e => hfn (by rw [e]; simp))
        clear hfn
        have tok1 : True := trivial
        have hgd := guardF
        have hnq := neq_same f
        go_wp2_with (first
          | (go_at_call 16; have _t := tok1; refine ((hst.out.grown (World.grownBy_alloc _ _ _)).get1 Hf.out HFN.out SN.out).mono ?_; rintro e w7 ⟨rfl, g7⟩; have G7 := Lib.hid ((World.grownBy_alloc wr _ none).trans g7); have d0 := Lib.hid (box_kept g7); have d3 := box_al d0.out; clear g7 tok1)
          | (go_at_call 16; refine ((hst.out.grown (G7.out.trans (World.grownBy_alloc _ _ _))).get2 Hf.out SN.out).mono ?_; rintro e w8 ⟨rfl, g8⟩; have G8 := Lib.hid ((World.grownBy_alloc w7 _ none).trans g8); have d1 := box_al (box_later d0.out G8.out); have d2 := box_al (box_kept g8); clear g8))
        go_roundw
        case rel => exact ⟨k + 1, by omega, by go_num, Lib.hid (hst.out.grown ((G7.out.trans G8.out).trans (World.grownBy_alloc _ _ _)))⟩
        case measure => simp [intOf]; omega
      · obtain ⟨t1, t2, h1, h2, h3, h4, h5⟩ := hst.out
        have hle : t2.length ≤ l.length + 1 := h5.2.2
        have h40 : t2.length ≤ 40 := h1.2.2
        have HH := Lib.hid h1
        clear h1 h2 h3 h4 h5
        go_wp2_with (go_at_call 26; refine (tNames p1 b1 t2 _ HH.out).mono ?_; rintro e w7 ⟨a7, c7, rfl, o7, b7⟩; have B7 := Lib.hid b7; clear o7 b7)
        go_ret
        exact ⟨ret_bool' (by simp; omega), below_of_grown (G0.out.trans (GW.out.trans (grown_of_below B7.out)))⟩
  · have hcon := tRemove p1 b1 ts n A
    go_wp2_with (go_at_call 14; refine (hcon _ T5.out S5.out HN.out).mono ?_; rintro e w6 ⟨rfl, t6, g6⟩; have ST := Lib.hid (DONE.out _ _ t6 g6 (apart_del HOF.out n)); clear t6 g6 hcon)
    clear a0 a1 a2 a3 DONE
    go_loopw [77] (fun i wr => ∃ k : Nat, k ≤ l.length ∧ i = .int .i64 k ∧ Hid (ApSt l (.slice av l.length cv) n p1 b1 p2 b2 w1 wr)) (fun i _ => l.length - (intOf i).toNat)
    case atStart => exact ⟨0, Nat.zero_le _, rfl, ST⟩
    case round =>
      obtain ⟨k, hk, rfl, hst⟩ := hrel
      have GW := Lib.hid hst.out.grown1
      by_cases hlt : k < l.length
      · obtain ⟨fb, off, c', f, e, hf, sn, sc, hb, c0, c1, c2⟩ := hst.out.row.at k hlt
        cases e
        have Hf := Lib.hid hf; have SN := Lib.hid sn
        have b1w := cell_al (GW.out.cell A1.out (by simp))
        clear hf sn sc
        by_cases hfn : (f.n.toList == n.toList) = true
        · go_wp2
          go_roundw
          case rel => exact ⟨k + 1, by omega, by go_num, Lib.hid (hst.out.grown (World.grownBy_alloc _ _ _))⟩
          case measure => simp [intOf]; omega
        have hfn' : (f.n.toList == n.toList) = false := by simpa using hfn
        have HFN := Lib.hid (show f.n ≠ n from fun e => hfn (by rw [e]; simp))
        clear hfn
        have tok1 : True := trivial
        have hgd := guardF
        have hnq := neq_same f
        go_wp2_with (first
          | (go_at_call 16; have _t := tok1; refine ((hst.out.grown (World.grownBy_alloc _ _ _)).get1 Hf.out HFN.out SN.out).mono ?_; rintro e w7 ⟨rfl, g7⟩; have G7 := Lib.hid ((World.grownBy_alloc wr _ none).trans g7); have d0 := Lib.hid (box_kept g7); have d3 := box_al d0.out; clear g7 tok1)
          | (go_at_call 16; refine ((hst.out.grown (G7.out.trans (World.grownBy_alloc _ _ _))).get2 Hf.out SN.out).mono ?_; rintro e w8 ⟨rfl, g8⟩; have G8 := Lib.hid ((World.grownBy_alloc w7 _ none).trans g8); have d1 := box_al (box_later d0.out G8.out); have d2 := box_al (box_kept g8); clear g8))
        go_roundw
        case rel => exact ⟨k + 1, by omega, by go_num, Lib.hid (hst.out.grown ((G7.out.trans G8.out).trans (World.grownBy_alloc _ _ _)))⟩
        case measure => simp [intOf]; omega
      · obtain ⟨t1, t2, h1, h2, h3, h4, h5⟩ := hst.out
        have hle : t2.length ≤ l.length + 1 := h5.2.2
        have h40 : t2.length ≤ 40 := h1.2.2
        have HH := Lib.hid h1
        clear h1 h2 h3 h4 h5
        go_wp2_with (go_at_call 26; refine (tNames p1 b1 t2 _ HH.out).mono ?_; rintro e w7 ⟨a7, c7, rfl, o7, b7⟩; have B7 := Lib.hid b7; clear o7 b7)
        go_ret
        exact ⟨ret_bool' (by simp; omega), below_of_grown (G0.out.trans (GW.out.trans (grown_of_below B7.out)))⟩
  · have ST := Lib.hid (DONE.out w5 ts T5.out (World.grownBy.refl _ _) (apart_same HOF.out n))
    go_wp2
    clear a0 a1 a2 a3 DONE
    go_loopw [77] (fun i wr => ∃ k : Nat, k ≤ l.length ∧ i = .int .i64 k ∧ Hid (ApSt l (.slice av l.length cv) n p1 b1 p2 b2 w1 wr)) (fun i _ => l.length - (intOf i).toNat)
    case atStart => exact ⟨0, Nat.zero_le _, rfl, ST⟩
    case round =>
      obtain ⟨k, hk, rfl, hst⟩ := hrel
      have GW := Lib.hid hst.out.grown1
      by_cases hlt : k < l.length
      · obtain ⟨fb, off, c', f, e, hf, sn, sc, hb, c0, c1, c2⟩ := hst.out.row.at k hlt
        cases e
        have Hf := Lib.hid hf; have SN := Lib.hid sn
        have b1w := cell_al (GW.out.cell A1.out (by simp))
        clear hf sn sc
        by_cases hfn : (f.n.toList == n.toList) = true
        · go_wp2
          go_roundw
          case rel => exact ⟨k + 1, by omega, by go_num, Lib.hid (hst.out.grown (World.grownBy_alloc _ _ _))⟩
          case measure => simp [intOf]; omega
        have hfn' : (f.n.toList == n.toList) = false := by simpa using hfn
        have HFN := Lib.hid (show f.n ≠ n from fun e => hfn (by rw [e]; simp))
        clear hfn
        have tok1 : True := trivial
        have hgd := guardF
        have hnq := neq_same f
        go_wp2_with (first
          | (go_at_call 16; have _t := tok1; refine ((hst.out.grown (World.grownBy_alloc _ _ _)).get1 Hf.out HFN.out SN.out).mono ?_; rintro e w7 ⟨rfl, g7⟩; have G7 := Lib.hid ((World.grownBy_alloc wr _ none).trans g7); have d0 := Lib.hid (box_kept g7); have d3 := box_al d0.out; clear g7 tok1)
          | (go_at_call 16; refine ((hst.out.grown (G7.out.trans (World.grownBy_alloc _ _ _))).get2 Hf.out SN.out).mono ?_; rintro e w8 ⟨rfl, g8⟩; have G8 := Lib.hid ((World.grownBy_alloc w7 _ none).trans g8); have d1 := box_al (box_later d0.out G8.out); have d2 := box_al (box_kept g8); clear g8))
        go_roundw
        case rel => exact ⟨k + 1, by omega, by go_num, Lib.hid (hst.out.grown ((G7.out.trans G8.out).trans (World.grownBy_alloc _ _ _)))⟩
        case measure => simp [intOf]; omega
      · obtain ⟨t1, t2, h1, h2, h3, h4, h5⟩ := hst.out
        have hle : t2.length ≤ l.length + 1 := h5.2.2
        have h40 : t2.length ≤ 40 := h1.2.2
        have HH := Lib.hid h1
        clear h1 h2 h3 h4 h5
        go_wp2_with (go_at_call 26; refine (tNames p1 b1 t2 _ HH.out).mono ?_; rintro e w7 ⟨a7, c7, rfl, o7, b7⟩; have B7 := Lib.hid b7; clear o7 b7)
        go_ret
        exact ⟨ret_bool' (by simp; omega), below_of_grown (G0.out.trans (GW.out.trans (grown_of_below B7.out)))⟩
end Go.Proofs.YtpedamncnimgpaaDoor.treeApart

/- The sets of all lists, and between any two bytes. -/
import Derived.Test.YtkemhpjgmnibpaaClsF
namespace Go.Proofs.Ytkemhpjgmnibpaa.classSets
open Go.RowKit

theorem infoArr : (Try.prog.info? 24).map (fun i => (i.zero, i.size)) = some (some (.agg (arrV fun _ => false)), 256) := by kernel_rfl

theorem row_same {w : World} {g : Nat} {cs : Array Value} {t : TypeId} (hg : w.heap[g]? = some (.cells cs t (0, 0))) : w.setRow g cs = w := by
  obtain ⟨heap, tape, drawn, os, output⟩ := w
  simp only [World.setRow]
  congr 1
  apply Array.ext_getElem?
  intro i
  rw [Array.getElem?_modify]
  by_cases h : g = i
  · subst h
    simp only at hg
    simp [hg]
  · simp [h]
theorem arr_one (f : Nat → Bool) : (arrV f).all (·.oneCell') = true := by
  unfold arrV; rw [Array.all_eq_true']; intro x hx; simp at hx; obtain ⟨b, -, rfl⟩ := hx; rfl
/-- an array laid onto itself -/
theorem store_same {P : Program} {w : World} {g : Nat} {t : TypeId} {cs : Array Value} (hg : w.heap[g]? = some (.cells cs t (0, 0))) (hi : (P.info? t).map (·.size) = some cs.size) (h1 : cs.all (·.oneCell') = true) :
    (storeCells ⟨g, 0, none⟩ cs.toList 0).run P w = .ok () w := by
  have := run_storeVar_row (P := P) w g t t cs cs hg hi rfl h1
  rw [row_same hg] at this
  cases hq : P.info? t with
  | none => simp [hq] at hi
  | some i =>
    have hs : cs.size = i.size := by simp [hq] at hi; omega
    simpa [storeVar, sizeOf, typeInfo, hq, Value.cells, hs] using this

theorem arr_set (f g : Nat → Bool) (x : Nat) (hg : ∀ b, b < 256 → g b = (f b || b == x)) : (arrV f).setIfInBounds x (.bool true) = arrV g := by
  apply Array.ext_getElem?; intro i
  by_cases hi : i < 256
  · rw [arr_get g i hi, hg i hi, Array.getElem?_setIfInBounds]
    by_cases h : x = i
    · subst h; simp [arr_size, hi]
    · have h' : ¬ i = x := fun e => h e.symm
      simp [h, arr_get f i hi, h']
  · rw [Array.getElem?_eq_none (by simp [arr_size]; omega), Array.getElem?_eq_none (by simp [arr_size]; omega)]
theorem arr_ext {f g : Nat → Bool} (h : ∀ b, b < 256 → f b = g b) : arrV f = arrV g := by
  apply Array.ext_getElem?; intro i
  by_cases hi : i < 256
  · rw [arr_get f i hi, arr_get g i hi, h i hi]
  · rw [Array.getElem?_eq_none (by simp [arr_size]; omega), Array.getElem?_eq_none (by simp [arr_size]; omega)]
theorem load_row {P : Program} {w : World} {g n : Nat} {t : TypeId} {cs : Array Value} (hg : w.heap[g]? = some (.cells cs t (0, 0))) (hn : cs.size = n) :
    (loadCellsFrom ⟨g, 0, none⟩ 0 n #[]).run P w = .ok cs w := by
  subst hn
  have := run_loadCells_list (P := P) w ⟨g, 0, none⟩ cs.toList (fun j v hv => by
    have hadd : (⟨g, 0, none⟩ : Addr).add j = ⟨g, j, none⟩ := by unfold Addr.add; split <;> simp_all
    rw [hadd, cell_of_row _ _ j cs t (0, 0) hg]
    simpa using hv)
  simpa [loadCells] using this
/-- a whole array read in a region that draws -/
theorem wpQuiet_load_row {P : Program} {ops : Array Oper} {C : World → Prop} {Q : Act → Prop} {o : Oper} {rest : List Oper} {a : Act} (T : TypeId) (x : Operand) (ho : o.op = .load T x)
    (hw : Region.wanted o (yielded ops a.tmps) = true) (g : Nat) (hx : a.eval x = .pointer (some ⟨g, 0, none⟩)) (cs : Array Value) (n : Nat) (e : TypeId) (hu : P.underlying T = some (.array n e)) (hi : (P.info? T).map (·.size) = some cs.size)
    (hg : ∀ w, C w → w.heap[g]? = some (.cells cs T (0, 0))) (h : wpQuiet P ops C Q rest (a.put o.dst (.agg cs))) : wpQuiet P ops C Q (o :: rest) a := by
  unfold wpQuiet
  rw [if_pos hw]
  refine ⟨.agg cs, fun w hC => ?_, h⟩
  unfold Oper.quietAt execOp
  simp only [ho, hx, Instr.loadAt, Instr.sureAddr, Sem.run_bind, Sem.run_pure, Result.andThen_ok, run_loadVar_row w g T T cs (0, 0) _ (hg w hC) hu rfl hi]
  exact ⟨rfl, rfl⟩
theorem mkS_contains (l : List Nat) : mkS (fun b => l.contains b) = ofL l := inn_ext fun b hb => by rw [inn_mkS _ b hb, inn_ofL _ b hb]
theorem mkS_btw (lo hi : Nat) : mkS (btw lo hi) = spn lo hi := rfl

set_option maxRecDepth 100000 in
set_option maxHeartbeats 4000000 in
theorem walk (v : Value) (l : List Nat) (lo hi : Nat) (hlo : lo < 256) (hhi : hi < 256) (w : World) (h : BRow w v l) :
    Calls Try.prog 3 #[v, .int .u8 lo, .int .u8 hi] w fun e w' => e = .returned (.bool true) ∧ w.grownBy w' none := by
  have H := Lib.hid h
  obtain ⟨hz, hs⟩ := zero_of_info infoArr
  obtain ⟨a, c, rfl, ⟨hn, hlt⟩, -⟩ := h
  have hnI : (l.length : Int) ≤ 300 := by omega
  have HL := Lib.hid hlt
  have hZs := arr_size (fun _ => false)
  have hZ1 := arr_one (fun _ => false)
  clear hlt
  go_enter Try.func3, Try.ntmps3
  go_wp2_with fail
  refine (lAlive6 _).mono ?_
  rintro e w1 ⟨rfl, g1⟩
  have G1 := Lib.hid g1
  clear g1
  generalize hZ : (arrV fun _ => false) = Z at hz hZs hZ1
  obtain ⟨b1, b2, g⟩ := heap2 w1 (.cells Z 24) (.cells Z 24)
  have s1 := store_same (P := Try.prog) b1 (by rw [hZs]; exact hs) hZ1
  have s2 := store_same (P := Try.prog) b2 (by rw [hZs]; exact hs) hZ1
  have B1 := Lib.hid b1; have B2 := Lib.hid b2; have G := Lib.hid (G1.out.trans g); have HZ := Lib.hid hZ
  clear b1 b2 g hZ1 hs hZ
  go_upto_region 6 with fail
  have hne : w1.heap.size ≠ w1.heap.size + 1 := by omega
  obtain ⟨p, ep⟩ : ∃ p, p = w1.heap.size := ⟨_, rfl⟩
  obtain ⟨q, eq⟩ : ∃ q, q = w1.heap.size + 1 := ⟨_, rfl⟩
  have HP := Lib.hid (show w.heap.size ≤ p by have := G1.out.size; omega)
  have HQ := Lib.hid (show w.heap.size ≤ q by have := G1.out.size; omega)
  rw [← eq] at hne B2 ⊢
  rw [← ep] at hne B1 ⊢
  generalize ((w1.alloc _).alloc _) = w2 at B1 B2 G s1 s2 ⊢
  clear s1 s2 ep eq hz hZs
  have hne' : q ≠ p := fun e => hne e.symm
  go_wp2_with fail
  go_loopw [10, 21] (fun _ i wr => ∃ k : Nat, k ≤ l.length ∧ i = .int .i64 k ∧ Hid (w.grownBy wr none) ∧ Hid (wr.heap[p]? = some (.cells (arrV fun b => (l.take k).contains b) 24 (0, 0))) ∧ Hid (wr.heap[q]? = some (.cells Z 24 (0, 0)))) (fun _ i _ => l.length - (intOf i).toNat)
  case atStart => exact ⟨0, Nat.zero_le _, rfl, G, Lib.hid (by rw [B1.out, ← HZ.out]; rfl), B2⟩
  case round =>
    obtain ⟨k, hk, rfl, hG, hB1, hB2⟩ := hrel
    by_cases hlt : k < l.length
    · obtain ⟨x, hx⟩ : ∃ x, l[k]? = some x := ⟨_, List.getElem?_eq_getElem hlt⟩
      have hx256 := HL.out x (List.mem_of_getElem? hx)
      obtain ⟨a', c', e, -, hr⟩ := H.out.grown hG.out
      cases e
      obtain ⟨b, off, rfl, -, hc⟩ := hr (by intro e; rw [e] at hlt; simp at hlt)
      have hcell : wr.cell? ⟨b, off + k, none⟩ = some (.int .u8 x) := hc k x hx
      have HX := Lib.hid (arr_set (fun b => (l.take k).contains b) (fun b => (l.take (k + 1)).contains b) x (fun b _ => by
        obtain ⟨hk', e⟩ := List.getElem?_eq_some_iff.1 hx
        rw [List.take_succ_eq_append_getElem hk', e, Bool.eq_iff_iff]; simp [or_comm]))
      clear hc hx hr
      generalize (arrV fun b => (l.take k).contains b) = X at hB1 HX
      have HS := Lib.hid (arr_get (fun b => (l.take (k + 1)).contains b) x hx256)
      have XS := Lib.hid (arr_size (fun b => (l.take (k + 1)).contains b))
      have c0 : ∃ o, wr.cell? ⟨p, x, none⟩ = some o := by
        rw [cell_of_row wr p x _ _ _ hB1.out]
        have := XS.out; rw [← HX.out] at this; simp at this
        exact ⟨_, Array.getElem?_eq_getElem (by omega)⟩
      obtain ⟨o, c0⟩ := c0
      have f0 := four_free hB1.out x
      go_wp2
      go_roundw
      case rel => exact ⟨k + 1, by omega, by go_num, Lib.hid (grown_set hG.out _ _ HP.out), Lib.hid ((heap_setCell_same wr p x _ _ _ hB1.out).trans (by rw [HX.out])), Lib.hid ((heap_setCell_other wr _ q _ hne').trans hB2.out)⟩
      case measure => simp [intOf]; omega
    · obtain rfl : k = l.length := by omega
      have hB1' := hB1.out
      rw [List.take_length] at hB1'
      have hX := Lib.hid hB1'
      clear hB1 hB1'
      obtain ⟨wl, rfl⟩ : ∃ wl : World, wl = wr := ⟨_, rfl⟩
      go_wp2
      go_loopw [11] (fun i wr => ∃ n : Nat, lo ≤ n ∧ (n = lo ∨ n ≤ hi + 1) ∧ i = .int .i64 n ∧ Hid (wr.heap[p]? = some (.cells (arrV fun b => l.contains b) 24 (0, 0))) ∧ Hid (wr.heap[q]? = some (.cells (arrV fun b => decide (lo ≤ b ∧ b < n)) 24 (0, 0))) ∧ Hid (w.grownBy wr none)) (fun i _ => hi + 1 - (intOf i).toNat)
      case atStart => exact ⟨lo, Nat.le_refl _, .inl rfl, rfl, hX, Lib.hid (by rw [hB2.out, ← HZ.out, arr_ext (f := fun _ => false) (g := fun b => decide (lo ≤ b ∧ b < lo)) (fun b _ => by simp)]), hG⟩
      case round =>
        obtain ⟨n, hn1, hn2, rfl, hC1, hC2, hG2⟩ := hrel
        by_cases hle : n ≤ hi
        · have hn256 : n < 256 := by omega
          have HX := Lib.hid (arr_set (fun b => decide (lo ≤ b ∧ b < n)) (fun b => decide (lo ≤ b ∧ b < n + 1)) n (fun b _ => by
            rw [Bool.eq_iff_iff]; simp; omega))
          have XS := Lib.hid (arr_size (fun b => decide (lo ≤ b ∧ b < n)))
          generalize (arrV fun b => decide (lo ≤ b ∧ b < n)) = X at hC2 HX XS
          have c0 : ∃ o, wr.cell? ⟨q, n, none⟩ = some o := by
            rw [cell_of_row wr q n _ _ _ hC2.out]
            have := XS.out
            exact ⟨_, Array.getElem?_eq_getElem (by omega)⟩
          obtain ⟨o, c0⟩ := c0
          have f0 := four_free hC2.out n
          go_wp2
          go_roundw
          case rel => exact ⟨n + 1, by omega, by omega, by go_num, Lib.hid ((heap_setCell_other wr _ p _ hne).trans hC1.out), Lib.hid ((heap_setCell_same wr q n _ _ _ hC2.out).trans (by rw [HX.out])), Lib.hid (grown_set hG2.out _ _ HQ.out)⟩
          case measure => simp [intOf]; omega
        · have hgt : (hi : Int) < n := by omega
          have hC2' := hC2.out
          rw [arr_ext (f := fun b => decide (lo ≤ b ∧ b < n)) (g := btw lo hi) (fun b _ => by unfold btw; rw [Bool.eq_iff_iff]; simp; omega)] at hC2'
          have hC := Lib.hid hC2'
          clear hC2 hC2'
          have P1 := Lib.hid (fun w => mkS_contains l ▸ cROf (fun b => l.contains b) w)
          have P2 := Lib.hid (fun w => mkS_btw lo hi ▸ cROf (btw lo hi) w)
          have L1 := arr_size (fun b => l.contains b)
          have L2 := arr_size (btw lo hi)
          have Q1 := Lib.hid (fun (u : Gr wr) => cOf _ l u.W ((H.out.grown hG2.out).grown u.g))
          have Q2 := Lib.hid (fun w => cSpan lo hi w)
          generalize (arrV fun b => l.contains b) = X1 at hC1 P1 L1
          generalize arrV (btw lo hi) = X2 at hC P2 L2
          generalize ofL l = S1 at P1 Q1
          generalize spn lo hi = S2 at P2 Q2
          have e1 := eq_run 26 Try.underlying26 S1 S1
          have e2 := eq_run 26 Try.underlying26 S2 S2
          rw [show (S1 == S1) = true by simp] at e1
          rw [show (S2 == S2) = true by simp] at e2
          have I1 := Lib.hid (show (Try.prog.info? 24).map (·.size) = some X1.size by rw [L1]; exact (zero_of_info infoArr).2)
          have I2 := Lib.hid (show (Try.prog.info? 24).map (·.size) = some X2.size by rw [L2]; exact (zero_of_info infoArr).2)
          clear L1 L2
          go_wp2
          have inst : Nonempty (Gr wr) := ⟨⟨wr, World.grownBy.refl _ _⟩⟩
          refine wp_region_grows (by kernel_rfl) (by kernel_rfl) ?_
          repeat (go_big_quiet_step (first
            | (go_at_call 7; refine (Q1.out _).mono ?_; rintro e w9 ⟨he, g9⟩; exact ⟨he, ⟨_, (Gr.g _).trans g9⟩, rfl⟩)
            | (go_at_call 9; refine (Q2.out _).mono ?_; rintro e w9 ⟨he, g9⟩; exact ⟨he, ⟨_, (Gr.g _).trans g9⟩, rfl⟩)
            | (go_at_call 8; with_reducible refine (P1.out _).mono ?_; rintro e w9 ⟨he, g9⟩; exact ⟨he, ⟨_, (Gr.g _).trans g9⟩, rfl⟩)
            | (go_at_call 8; with_reducible refine (P2.out _).mono ?_; rintro e w9 ⟨he, g9⟩; exact ⟨he, ⟨_, (Gr.g _).trans g9⟩, rfl⟩)))
          refine wpQuiet_load_row 24 (.tmp 7) rfl (by kernel_rfl) p rfl X1 256 4 Try.underlying24 I1.out (fun w ⟨u, hu⟩ => by rw [hu]; exact heap_grown u.g hC1.out) ?_
          go_simp
          repeat (go_big_quiet_step (first
            | (go_at_call 7; refine (Q1.out _).mono ?_; rintro e w9 ⟨he, g9⟩; exact ⟨he, ⟨_, (Gr.g _).trans g9⟩, rfl⟩)
            | (go_at_call 9; refine (Q2.out _).mono ?_; rintro e w9 ⟨he, g9⟩; exact ⟨he, ⟨_, (Gr.g _).trans g9⟩, rfl⟩)
            | (go_at_call 8; with_reducible refine (P1.out _).mono ?_; rintro e w9 ⟨he, g9⟩; exact ⟨he, ⟨_, (Gr.g _).trans g9⟩, rfl⟩)
            | (go_at_call 8; with_reducible refine (P2.out _).mono ?_; rintro e w9 ⟨he, g9⟩; exact ⟨he, ⟨_, (Gr.g _).trans g9⟩, rfl⟩)))
          refine wpQuiet_load_row 24 (.tmp 8) rfl (by kernel_rfl) q rfl X2 256 4 Try.underlying24 I2.out (fun w ⟨u, hu⟩ => by rw [hu]; exact heap_grown u.g hC.out) ?_
          go_simp
          repeat (go_big_quiet_step (first
            | (go_at_call 7; refine (Q1.out _).mono ?_; rintro e w9 ⟨he, g9⟩; exact ⟨he, ⟨_, (Gr.g _).trans g9⟩, rfl⟩)
            | (go_at_call 9; refine (Q2.out _).mono ?_; rintro e w9 ⟨he, g9⟩; exact ⟨he, ⟨_, (Gr.g _).trans g9⟩, rfl⟩)
            | (go_at_call 8; with_reducible refine (P1.out _).mono ?_; rintro e w9 ⟨he, g9⟩; exact ⟨he, ⟨_, (Gr.g _).trans g9⟩, rfl⟩)
            | (go_at_call 8; with_reducible refine (P2.out _).mono ?_; rintro e w9 ⟨he, g9⟩; exact ⟨he, ⟨_, (Gr.g _).trans g9⟩, rfl⟩)))
          refine wpQuiet_nil ?_
          rintro ⟨w9, gg⟩
          go_wp2
          go_ret
          exact ⟨rfl, hG2.out.trans gg⟩

theorem walkLong (a : Option Addr) (n c : Nat) (lo hi : Int) (hn : 300 < n) (hm : n ≤ maxLen) (w : World) :
    Calls Try.prog 3 #[.slice a n c, .int .u8 lo, .int .u8 hi] w fun e w' => e = .returned (.bool true) ∧ w.grownBy w' none := by
  unfold maxLen at hm
  have hnI : (300 : Int) < n := by omega
  go_enter Try.func3, Try.ntmps3
  go_wp2_with (go_at_call 6; refine (lAlive6 _).mono ?_; rintro e w1 ⟨rfl, g1⟩)
  go_ret
  exact ⟨rfl, by assumption⟩
end Go.Proofs.Ytkemhpjgmnibpaa.classSets

/- The document's own lists: joined, lessened. -/
import Derived.Test.YtgnbkkibggmnbaaListD
namespace Go.Proofs.Ytgnbkkibggmnbaa
open Go.RowKit Go.Maps

/-- the list m, and that nothing else has turned -/
def RSt (w wr : World) (out : Value) (m : List ByteArray) : Prop :=
  wr.ownsRow w.heap.size 9 1 out m.length (cellsOf m) ∧ Below w.heap.size w wr

theorem RSt.start (w : World) : RSt w (w.alloc (.cells #[] 9)) (.slice (some ⟨w.heap.size, 0, none⟩) 0 0) [] :=
  ⟨World.ownsRow_made w #[] 0 (Nat.le_refl _) (by decide) rfl, (Below.refl _ _).alloc (Nat.le_refl _) _⟩

theorem RSt.add {w wr w2 : World} {m : List ByteArray} {out v' : Value} {x : ByteArray} {o : Obj} (h : RSt w wr out m)
    (hr : w2.ownsRow w.heap.size 9 1 v' (m.length + 1) (cellsOf m ++ [.string x])) (hg2 : (wr.alloc o).grownBy w2 out.ownBlock) : RSt w w2 v' (m ++ [x]) := by
  obtain ⟨h2, h3⟩ := h
  have s2 := hg2.size
  have s3 := h3.size
  simp at s2
  refine ⟨by rw [List.length_append, List.length_singleton, cells_snoc]; exact hr, ?_⟩
  exact (h3.alloc (by omega) _).grown hg2 (by simp; omega) (fun k e => (h2.lt k e).1)

theorem RSt.row {w wr : World} {out : Value} {m : List ByteArray} (h : RSt w wr out m) (hm : m.length ≤ 80) : Row wr out m := row_of_owns h.1 (by omega)

set_option maxHeartbeats 800000 in
set_option maxRecDepth 100000 in
theorem rWithout (va vb : Value) (la lb : List ByteArray) (w : World) (ha : Row w va la) (hb : Row w vb lb) (na : la.length ≤ 40) :
    Calls Try.prog 27 #[va, vb] w fun e w' => ∃ v, e = .returned v ∧ w'.ownsRow w.heap.size 9 1 v (la.filter (outB lb)).length (cellsOf (la.filter (outB lb))) ∧ Below w.heap.size w w' := by
  obtain ⟨i0, hi, hz0, hz1, hz2⟩ := info_parts infoStr
  have I := Lib.hid hi; have Z0 := Lib.hid hz0; have Z1 := Lib.hid hz1; have Z2 := Lib.hid hz2
  clear hi hz0 hz1 hz2
  have HA := Lib.hid ha; have HB := Lib.hid hb
  obtain ⟨a1, c1, rfl, -⟩ := ha
  obtain ⟨a2, c2, rfl, -⟩ := hb
  go_enter Try.func27, Try.ntmps27
  go_wp2
  go_loopw [5, 7, 11] (fun out _ i wr => ∃ k : Nat, k ≤ la.length ∧ i = .int .i64 k ∧ Hid (RSt w wr out ((la.take k).filter (outB lb)))) (fun _ _ i _ => la.length - (intOf i).toNat)
  case atStart => exact ⟨0, Nat.zero_le _, rfl, RSt.start w⟩
  case round =>
    obtain ⟨k, hk, rfl, hst⟩ := hrel
    by_cases hlt : k < la.length
    · obtain ⟨x, hx⟩ := get_of la k hlt
      obtain ⟨b, off, rfl, hcc⟩ := row_cells hst.out.2 HA.out (by intro e; rw [e] at hlt; simp at hlt)
      have hcx := hcc k x hx
      have Hx := Lib.hid hx
      have hrow2 := hst.out.1
      have hbase := hst.out.2.size
      have HBr := Lib.hid (HB.out.later hst.out.2)
      have hl : ((la.take k).filter (outB lb)).length ≤ 40 := Nat.le_trans (List.length_filter_le _ _) (Nat.le_trans (List.length_take_le _ _) (by omega))
      clear hcc hx
      by_cases hhas : hasB lb x = true
      · have Hm := Lib.hid (filter_skip la lb k x Hx.out hhas)
        generalize (la.take k).filter (outB lb) = m at *
        go_wp2_with (go_at_call 37; refine (rIn _ _ _ _ HBr.out).mono ?_; rintro e w' ⟨rfl, rfl⟩)
        go_roundw
        case rel => exact ⟨k + 1, by omega, by go_num, by rw [Hm.out]; exact hst.out⟩
        case measure => simp [intOf]; omega
      · have hhas' : hasB lb x = false := by simpa using hhas
        clear hhas
        have Hm := Lib.hid (filter_take la lb k x Hx.out hhas')
        generalize (la.take k).filter (outB lb) = m at *
        go_wp2_with (first
          | (go_at_call 37; refine (rIn _ _ _ _ HBr.out).mono ?_; rintro e w' ⟨rfl, rfl⟩)
          | (at_builtin; refine wpList_append_own _ rfl _ _ 30 rfl w.heap.size 9 i0 _ 1 16 Try.underlying30 I.out Z0.out Z1.out Z2.out rfl (by decide) _ _ _ rfl (hrow2.alloc _) ⟨_, 0, none⟩ 1 1 [.string x] rfl rfl (cell_one_new _ _ _) (by intro u hu; simp at hu; subst hu; rfl) (by unfold maxLen; omega) (by omega) (by simp; omega) ?_; intro v' w2 hown' hgrow2 hnil2))
        go_roundw
        case rel => exact ⟨k + 1, by omega, by go_num, by rw [Hm.out]; exact hst.out.add hown' hgrow2⟩
        case measure => simp [intOf]; omega
    · obtain rfl : k = la.length := by omega
      go_wp2
      go_ret
      refine ⟨_, rfl, ?_, hst.out.2⟩
      have := hst.out.1
      rwa [List.take_of_length_le (Nat.le_refl _)] at this

theorem app_left (la lb : List ByteArray) (k : Nat) (x : ByteArray) (h : la[k]? = some x) : (la ++ lb)[k]? = some x := by
  have hk : k < la.length := (List.getElem?_eq_some_iff.1 h).1
  rw [List.getElem?_append_left hk]; exact h
theorem app_right (la lb : List ByteArray) (k : Nat) (x : ByteArray) (hk : la.length ≤ k) (h : lb[k - la.length]? = some x) : (la ++ lb)[k]? = some x := by
  rw [List.getElem?_append_right hk]; exact h

set_option maxHeartbeats 800000 in
set_option maxRecDepth 100000 in
theorem rUnion (va vb : Value) (la lb : List ByteArray) (w : World) (ha : Row w va la) (hb : Row w vb lb) (na : la.length ≤ 40) (nb : lb.length ≤ 40) :
    Calls Try.prog 25 #[va, vb] w fun e w' => ∃ v, e = .returned v ∧ w'.ownsRow w.heap.size 9 1 v (uni (la ++ lb)).length (cellsOf (uni (la ++ lb))) ∧ Below w.heap.size w w' := by
  obtain ⟨i0, hi, hz0, hz1, hz2⟩ := info_parts infoStr
  have I := Lib.hid hi; have Z0 := Lib.hid hz0; have Z1 := Lib.hid hz1; have Z2 := Lib.hid hz2
  clear hi hz0 hz1 hz2
  have HA := Lib.hid ha; have HB := Lib.hid hb
  obtain ⟨a1, c1, rfl, -⟩ := ha
  obtain ⟨a2, c2, rfl, -⟩ := hb
  go_enter Try.func25, Try.ntmps25
  go_wp2
  go_loopw [5, 6, 7] (fun out i _ wr => ∃ k : Nat, k ≤ la.length + lb.length ∧ i = .int .i64 k ∧ Hid (RSt w wr out (uni ((la ++ lb).take k)))) (fun _ i _ _ => la.length + lb.length - (intOf i).toNat)
  case atStart => exact ⟨0, Nat.zero_le _, rfl, RSt.start w⟩
  case round =>
    obtain ⟨k, hk, rfl, hst⟩ := hrel
    by_cases hlt : k < la.length + lb.length
    · have hrow2 := hst.out.1
      have hbase := hst.out.2.size
      have hl : (uni ((la ++ lb).take k)).length ≤ 80 := Nat.le_trans (uni_len _) (Nat.le_trans (List.length_take_le _ _) (by omega))
      have HM := Lib.hid (hst.out.row hl)
      by_cases hla : k < la.length
      · obtain ⟨x, hx⟩ := get_of la k hla
        obtain ⟨b, off, rfl, hcc⟩ := row_cells hst.out.2 HA.out (by intro e; rw [e] at hla; simp at hla)
        have hcx := hcc k x hx
        have Hx := Lib.hid (take_one _ k x (app_left la lb k x hx))
        clear hcc hx
        generalize (la ++ lb).take k = l at *
        by_cases hhas : hasB (uni l) x = true
        · go_wp2_with (go_at_call 37; refine (rIn _ _ _ _ HM.out).mono ?_; rintro e w' ⟨rfl, rfl⟩)
          go_roundw
          case rel => exact ⟨k + 1, by omega, by go_num, by rw [Hx.out, uni_snoc, add_old hhas]; exact hst.out⟩
          case measure => simp [intOf]; omega
        · have hhas' : hasB (uni l) x = false := by simpa using hhas
          clear hhas
          go_wp2_with (first
            | (go_at_call 37; refine (rIn _ _ _ _ HM.out).mono ?_; rintro e w' ⟨rfl, rfl⟩)
            | (at_builtin; refine wpList_append_own _ rfl _ _ 30 rfl w.heap.size 9 i0 _ 1 16 Try.underlying30 I.out Z0.out Z1.out Z2.out rfl (by decide) _ _ _ rfl (hrow2.alloc _) ⟨_, 0, none⟩ 1 1 [.string x] rfl rfl (cell_one_new _ _ _) (by intro u hu; simp at hu; subst hu; rfl) (by unfold maxLen; omega) (by omega) (by simp; omega) ?_; intro v' w2 hown' hgrow2 hnil2))
          go_roundw
          case rel => exact ⟨k + 1, by omega, by go_num, by rw [Hx.out, uni_snoc, add_new hhas']; exact hst.out.add hown' hgrow2⟩
          case measure => simp [intOf]; omega
      · obtain ⟨x, hx⟩ := get_of lb (k - la.length) (by omega)
        obtain ⟨b, off, rfl, hcc⟩ := row_cells hst.out.2 HB.out (by intro e; rw [e] at hlt; simp at hlt; omega)
        have hcx := hcc (k - la.length) x hx
        have Hx := Lib.hid (take_one _ k x (app_right la lb k x (by omega) hx))
        clear hcc hx
        generalize (la ++ lb).take k = l at *
        by_cases hhas : hasB (uni l) x = true
        · go_wp2_with (go_at_call 37; refine (rIn _ _ _ _ HM.out).mono ?_; rintro e w' ⟨rfl, rfl⟩)
          go_roundw
          case rel => exact ⟨k + 1, by omega, by go_num, by rw [Hx.out, uni_snoc, add_old hhas]; exact hst.out⟩
          case measure => simp [intOf]; omega
        · have hhas' : hasB (uni l) x = false := by simpa using hhas
          clear hhas
          go_wp2_with (first
            | (go_at_call 37; refine (rIn _ _ _ _ HM.out).mono ?_; rintro e w' ⟨rfl, rfl⟩)
            | (at_builtin; refine wpList_append_own _ rfl _ _ 30 rfl w.heap.size 9 i0 _ 1 16 Try.underlying30 I.out Z0.out Z1.out Z2.out rfl (by decide) _ _ _ rfl (hrow2.alloc _) ⟨_, 0, none⟩ 1 1 [.string x] rfl rfl (cell_one_new _ _ _) (by intro u hu; simp at hu; subst hu; rfl) (by unfold maxLen; omega) (by omega) (by simp; omega) ?_; intro v' w2 hown' hgrow2 hnil2))
          go_roundw
          case rel => exact ⟨k + 1, by omega, by go_num, by rw [Hx.out, uni_snoc, add_new hhas']; exact hst.out.add hown' hgrow2⟩
          case measure => simp [intOf]; omega
    · obtain rfl : k = la.length + lb.length := by omega
      go_wp2
      go_ret
      refine ⟨_, rfl, ?_, hst.out.2⟩
      have := hst.out.1
      rwa [List.take_of_length_le (by simp)] at this
end Go.Proofs.Ytgnbkkibggmnbaa

/- The program's lists: lessened, sorted. -/
import Derived.Test.YtgnbkkibggmnbaaListC
namespace Go.Proofs.Ytgnbkkibggmnbaa
open Go.RowKit Go.Maps

theorem cells_snoc (l : List ByteArray) (x : ByteArray) : cellsOf (l ++ [x]) = cellsOf l ++ [.string x] := by unfold cellsOf; simp

/-- the set of l, the list m, and that nothing else has turned -/
def WoSt (w wr : World) (l : List ByteArray) (out : Value) (m : List ByteArray) : Prop :=
  wr.ownsMap Try.prog 9 (plainElem Try.prog 4) w.heap.size l.length (strSet l) ∧ wr.ownsRow (w.heap.size + 1) 9 1 out m.length (cellsOf m) ∧ Below w.heap.size w wr ∧ w.heap.size + 1 ≤ wr.heap.size

theorem WoSt.start (w : World) : WoSt w (w.alloc (.map #[] 0)) [] (.slice none 0 0) [] :=
  ⟨World.ownsMap_made w Try.prog 9 (plainElem (H := Unit) Try.prog 4), World.ownsRow_nil _ _ _ _, (Below.refl _ _).alloc (Nat.le_refl _) _, by simp⟩

theorem WoSt.put {w wr w1 : World} {l : List ByteArray} {x : ByteArray} (h : WoSt w wr l (.slice none 0 0) [])
    (hm : w1.ownsMap Try.prog 9 (plainElem Try.prog 4) w.heap.size (l.length + 1) ((strSet l).put (Lit.string x.data.toList) (.lit (.bool true)))) (hg1 : wr.grownBy w1 (some w.heap.size)) : WoSt w w1 (l ++ [x]) (.slice none 0 0) [] := by
  obtain ⟨h1, h2, h3, h4⟩ := h
  have s1 := hg1.size
  refine ⟨by rw [strSet_snoc, List.length_append, List.length_singleton]; exact hm, World.ownsRow_nil _ _ _ _, h3.grown hg1 (by omega) (fun k e => by cases e; exact Nat.le_refl _), by omega⟩

theorem WoSt.add {w wr w2 : World} {l m : List ByteArray} {out v' : Value} {x : ByteArray} {o : Obj} (h : WoSt w wr l out m)
    (hr : w2.ownsRow (w.heap.size + 1) 9 1 v' (m.length + 1) (cellsOf m ++ [.string x])) (hg2 : (wr.alloc o).grownBy w2 out.ownBlock) : WoSt w w2 l v' (m ++ [x]) := by
  obtain ⟨h1, h2, h3, h4⟩ := h
  have s2 := hg2.size
  simp at s2
  have hlt : ∀ k, out.ownBlock = some k → w.heap.size + 1 ≤ k := fun k hk => (h2.lt k hk).1
  refine ⟨(h1.alloc o).kept hg2 (fun e => by have := hlt _ e.symm; omega), by rw [List.length_append, List.length_singleton, cells_snoc]; exact hr, ?_, by omega⟩
  exact (h3.alloc (by omega) _).grown hg2 (by simp; omega) (fun k e => Nat.le_trans (by omega) (hlt k e))

theorem row_cells {w wr : World} {l' : List ByteArray} {a' : Option Addr} {c' : Nat} (h : Below w.heap.size w wr) (hr : Row w (.slice a' l'.length c') l') (hne : l' ≠ []) :
    ∃ b off, a' = some ⟨b, off, none⟩ ∧ ∀ j x, l'[j]? = some x → wr.cell? ⟨b, off + j, none⟩ = some (.string x) := by
  obtain ⟨a, c, e, -, hc⟩ := hr.later h
  obtain ⟨b, off, ea, -, hcc⟩ := hc hne
  cases e
  exact ⟨b, off, ea, hcc⟩

theorem filter_skip (l b : List ByteArray) (k : Nat) (x : ByteArray) (h : l[k]? = some x) (hx : hasB b x = true) : (l.take (k + 1)).filter (outB b) = (l.take k).filter (outB b) := by
  rw [filter_snoc l b k x h, if_pos hx, List.append_nil]
theorem filter_take (l b : List ByteArray) (k : Nat) (x : ByteArray) (h : l[k]? = some x) (hx : hasB b x = false) : (l.take (k + 1)).filter (outB b) = (l.take k).filter (outB b) ++ [x] := by
  rw [filter_snoc l b k x h, if_neg (by rw [hx]; decide)]

set_option maxHeartbeats 800000 in
set_option maxRecDepth 100000 in
theorem nWithout (va vb : Value) (la lb : List ByteArray) (w : World) (ha : Row w va la) (hb : Row w vb lb) (na : la.length ≤ 40) (nb : lb.length ≤ 40) (sa : ∀ x ∈ la, x.size ≤ 100) (sb : ∀ x ∈ lb, x.size ≤ 100) :
    Calls Try.prog 26 #[va, vb] w fun e w' => ∃ v, e = .returned v ∧ w'.ownsRow w.heap.size 9 1 v (la.filter (outB lb)).length (cellsOf (la.filter (outB lb))) ∧ Below w.heap.size w w' := by
  have hmm := @run_makeMap Try.prog
  obtain ⟨i0, hi, hz0, hz1, hz2⟩ := info_parts infoStr
  have I := Lib.hid hi; have Z0 := Lib.hid hz0; have Z1 := Lib.hid hz1; have Z2 := Lib.hid hz2
  clear hi hz0 hz1 hz2
  have HA := Lib.hid ha; have HB := Lib.hid hb
  obtain ⟨a1, c1, rfl, -⟩ := ha
  obtain ⟨a2, c2, rfl, -⟩ := hb
  have SA := Lib.hid sa; have SB := Lib.hid sb
  clear sa sb
  go_enter Try.func26, Try.ntmps26
  go_wp2
  go_loopw [7, 14] (fun _ i wr => ∃ k : Nat, k ≤ lb.length ∧ i = .int .i64 k ∧ Hid (WoSt w wr (lb.take k) (.slice none 0 0) [])) (fun _ i _ => lb.length - (intOf i).toNat)
  case atStart => exact ⟨0, Nat.zero_le _, rfl, WoSt.start w⟩
  case round =>
    obtain ⟨k, hk, rfl, hst⟩ := hrel
    by_cases hlt : k < lb.length
    · obtain ⟨x, hx⟩ := get_of lb k hlt
      obtain ⟨b, off, rfl, hcc⟩ := row_cells hst.out.2.2.1 HB.out (by intro e; rw [e] at hlt; simp at hlt)
      have hcx := hcc k x hx
      have hxs : x.size ≤ 100 := SB.out x (List.mem_of_getElem? hx)
      have Hkey := Lib.hid (WideMaps.keyOf_string_mk Try.underlying9 (s := x) (by unfold maxLen; omega))
      have Hx := Lib.hid (take_one lb k x hx)
      have hown := hst.out.1
      have hl : (lb.take k).length ≤ 40 := Nat.le_trans (List.length_take_le _ _) (by omega)
      clear hcc hx
      go_wp2_with (at_mapUpdate; refine wpList_mapUpdate_own _ rfl _ _ _ 40 rfl 9 4 lawStr Try.underlying40 (plainElem Try.prog 4) w.heap.size (lb.take k).length _ rfl hown (by unfold maxLen; omega) _ _ _ rfl rfl Hkey.out _ [] (plainElem_bool Try.underlying4 true) ?_; intro w1 hown1 hgrow1)
      go_roundw
      case rel => exact ⟨k + 1, by omega, by go_num, by rw [Hx.out]; exact hst.out.put hown1 hgrow1⟩
      case measure => simp [intOf]; omega
    · obtain rfl : k = lb.length := by omega
      have hst1 := Lib.hid (show WoSt w wr lb (.slice none 0 0) [] by have := hst.out; rwa [List.take_of_length_le (Nat.le_refl _)] at this)
      clear hst
      go_wp2
      go_loopw [8, 10, 23] (fun out _ i wr => ∃ k : Nat, k ≤ la.length ∧ i = .int .i64 k ∧ Hid (WoSt w wr lb out ((la.take k).filter (outB lb)))) (fun _ _ i _ => la.length - (intOf i).toNat)
      case atStart => exact ⟨0, Nat.zero_le _, rfl, hst1⟩
      case round =>
        obtain ⟨k, hk, rfl, hst⟩ := hrel
        by_cases hlt : k < la.length
        · obtain ⟨x, hx⟩ := get_of la k hlt
          obtain ⟨b, off, rfl, hcc⟩ := row_cells hst.out.2.2.1 HA.out (by intro e; rw [e] at hlt; simp at hlt)
          have hcx := hcc k x hx
          have hxs : x.size ≤ 100 := SA.out x (List.mem_of_getElem? hx)
          have Hkey := Lib.hid (WideMaps.keyOf_string_mk Try.underlying9 (s := x) (by unfold maxLen; omega))
          have Hx := Lib.hid hx
          have hown := hst.out.1
          have hrow2 := hst.out.2.1
          have hbase := hst.out.2.2.2
          have hl : ((la.take k).filter (outB lb)).length ≤ 40 := Nat.le_trans (List.length_filter_le _ _) (Nat.le_trans (List.length_take_le _ _) (by omega))
          clear hcc hx
          by_cases hhas : hasB lb x = true
          · have Hm := Lib.hid (filter_skip la lb k x Hx.out hhas)
            generalize (la.take k).filter (outB lb) = m at *
            go_wp2_with (at_lookup; refine look_set _ rfl _ _ 40 rfl 9 4 lawStr Try.underlying40 Try.underlying4 (zeroBool _) w.heap.size lb.length lb rfl hown x rfl Hkey.out ?_)
            go_roundw
            case rel => exact ⟨k + 1, by omega, by go_num, by rw [Hm.out]; exact hst.out⟩
            case measure => simp [intOf]; omega
          · have hhas' : hasB lb x = false := by simpa using hhas
            clear hhas
            have Hm := Lib.hid (filter_take la lb k x Hx.out hhas')
            generalize (la.take k).filter (outB lb) = m at *
            go_wp2_with (first
              | (at_lookup; refine look_set _ rfl _ _ 40 rfl 9 4 lawStr Try.underlying40 Try.underlying4 (zeroBool _) w.heap.size lb.length lb rfl hown x rfl Hkey.out ?_)
              | (at_builtin; refine wpList_append_own _ rfl _ _ 30 rfl (w.heap.size + 1) 9 i0 _ 1 16 Try.underlying30 I.out Z0.out Z1.out Z2.out rfl (by decide) _ _ _ rfl (hrow2.alloc _) ⟨_, 0, none⟩ 1 1 [.string x] rfl rfl (cell_one_new _ _ _) (by intro u hu; simp at hu; subst hu; rfl) (by unfold maxLen; omega) (by omega) (by simp; omega) ?_; intro v' w2 hown' hgrow2 hnil2))
            go_roundw
            case rel => exact ⟨k + 1, by omega, by go_num, by rw [Hm.out]; exact hst.out.add hown' hgrow2⟩
            case measure => simp [intOf]; omega
        · obtain rfl : k = la.length := by omega
          go_wp2
          go_ret
          refine ⟨_, rfl, ?_, hst.out.2.2.1⟩
          have := owns_base (base' := w.heap.size) hst.out.2.1 (by omega)
          rwa [List.take_of_length_le (Nat.le_refl _)] at this
end Go.Proofs.Ytgnbkkibggmnbaa

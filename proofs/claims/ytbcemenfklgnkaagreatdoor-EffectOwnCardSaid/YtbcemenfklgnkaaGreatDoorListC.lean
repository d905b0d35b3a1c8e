/- The program's lists: joined, lessened, sorted. -/
import Derived.Test.YtbcemenfklgnkaaGreatDoorListB
import Derived.Maps.AppendAt
import Derived.Sort.OwnSorted
import Derived.Lib.OwnBridge
import Derived.StringKeys
namespace Go.Proofs.YtbcemenfklgnkaaGreatDoor
open Go.RowKit Go.Maps

theorem lawStr : Keyed Tryz.prog 9 := string_keyed Tryz.underlying9
theorem zeroBool (w : World) : (zeroValue 4).run Tryz.prog w = .ok (.bool false) w := by kernel_rfl

theorem row_ne {w : World} {base : Nat} {e : TypeId} {size : Nat} {v : Value} {n : Nat} {xs : List Value} (h : w.ownsRow base e size v n xs) {b : Nat} (hb : b < base) : some b ≠ v.ownBlock := fun e1 => by
  have := (h.lt b e1.symm).1
  omega

/-- what a list of the call's own is, for its readers -/
theorem row_of_owns {w : World} {base : Nat} {v : Value} {l : List ByteArray} (h : w.ownsRow base 9 1 v l.length (cellsOf l)) (hn : l.length ≤ 9223372036854775807) : Row w v l := by
  rcases h.2 with ⟨rfl, h0⟩ | ⟨g, cap, cur, rfl, hb, hg, h1, h2, h3, h4⟩
  · exact ⟨none, 0, by rw [h0], ⟨by omega, fun _ => rfl⟩, fun hne => by
      have : l = [] := List.eq_nil_of_length_eq_zero h0
      exact absurd this hne⟩
  · refine ⟨_, cap, rfl, ⟨hn, fun e => by cases e⟩, fun _ => ⟨g, 0, rfl, (Array.getElem?_eq_some_iff.1 hg).1, fun j x hx => ?_⟩⟩
    have := h.cells (g := g) rfl j (.string x) (by unfold cellsOf; rw [List.getElem?_map, hx]; rfl)
    rwa [Addr.add_lit] at this

theorem owns_base {w : World} {base base' : Nat} {e : TypeId} {size : Nat} {v : Value} {n : Nat} {xs : List Value} (h : w.ownsRow base e size v n xs) (hb : base' ≤ base) : w.ownsRow base' e size v n xs := by
  obtain ⟨h1, h2⟩ := h
  rcases h2 with h2 | ⟨g, cap, cur, e1, e2, r⟩
  · exact ⟨h1, .inl h2⟩
  · exact ⟨h1, .inr ⟨g, cap, cur, e1, Nat.le_trans hb e2, r⟩⟩

/-- how the lists are gone through, one behind the other -/
def doneL (la lb : List ByteArray) : Nat → List ByteArray
  | 0 => []
  | 1 => la
  | _ => la ++ lb

/-- what stands behind l has been looked at: the set, the list, and that nothing else has turned -/
def UniSt (w wr : World) (va vb out : Value) (l : List ByteArray) : Prop :=
  wr.ownsMap Tryz.prog 9 (plainElem Tryz.prog 4) w.heap.size l.length (strSet (uni l)) ∧ wr.ownsRow (w.heap.size + 2) 9 1 out (uni l).length (cellsOf (uni l)) ∧ Below w.heap.size w wr ∧
    wr.heap[w.heap.size + 1]? = some (.cells #[va, vb] 51 (0, 0)) ∧ w.heap.size + 2 ≤ wr.heap.size

theorem UniSt.start (w : World) (va vb : Value) : UniSt w ((w.alloc (.map #[] 0)).alloc (.cells #[va, vb] 51)) va vb (.slice none 0 0) [] := by
  refine ⟨(World.ownsMap_made w Tryz.prog 9 (plainElem (H := Unit) Tryz.prog 4)).alloc _, World.ownsRow_nil _ _ _ _, ((Below.refl _ _).alloc (Nat.le_refl _) _).alloc (by simp) _, ?_, by simp⟩
  have := heap_alloc_new (w.alloc (.map #[] 0)) (.cells #[va, vb] 51)
  simpa using this

theorem UniSt.old {w wr : World} {va vb out : Value} {l : List ByteArray} {x : ByteArray} (h : UniSt w wr va vb out l) (hx : hasB (uni l) x = true) : UniSt w wr va vb out (l ++ [x]) := by
  obtain ⟨h1, h2, h3, h4, h5⟩ := h
  unfold UniSt
  rw [uni_snoc, add_old hx]
  exact ⟨h1.mono (by simp), h2, h3, h4, h5⟩

theorem UniSt.new {w wr w1 w2 : World} {va vb out v' : Value} {l : List ByteArray} {x : ByteArray} {o : Obj} (h : UniSt w wr va vb out l) (hx : hasB (uni l) x = false)
    (hm : w1.ownsMap Tryz.prog 9 (plainElem Tryz.prog 4) w.heap.size (l.length + 1) ((strSet (uni l)).put (Lit.string x.data.toList) (.lit (.bool true)))) (hg1 : wr.grownBy w1 (some w.heap.size))
    (hr : w2.ownsRow (w.heap.size + 2) 9 1 v' ((uni l).length + 1) (cellsOf (uni l) ++ [.string x])) (hg2 : (w1.alloc o).grownBy w2 out.ownBlock) : UniSt w w2 va vb v' (l ++ [x]) := by
  obtain ⟨h1, h2, h3, h4, h5⟩ := h
  have s1 := hg1.size
  have s2 := hg2.size
  simp at s2
  have hlt : ∀ k, out.ownBlock = some k → w.heap.size + 2 ≤ k := fun k hk => (h2.lt k hk).1
  have hne : ∀ k, k < w.heap.size + 2 → some k ≠ out.ownBlock := fun k hk e => by have := hlt k e.symm; omega
  unfold UniSt
  rw [uni_snoc, add_new hx, strSet_snoc]
  refine ⟨?_, ?_, ?_, ?_, by omega⟩
  · rw [List.length_append, List.length_singleton]
    exact (hm.alloc o).kept hg2 (hne _ (by omega))
  · rw [List.length_append, List.length_singleton]
    have : cellsOf (uni l ++ [x]) = cellsOf (uni l) ++ [.string x] := by unfold cellsOf; simp
    rw [this]; exact hr
  · exact ((h3.grown hg1 (by omega) (fun k e => by cases e; exact Nat.le_refl _)).alloc (by omega) _).grown hg2 (by simp; omega) (fun k e => Nat.le_trans (by omega) (hlt k e))
  · rw [hg2.block _ (by simp; omega) (hne _ (by omega)), heap_alloc_old w1 o (by omega), hg1.block _ (by omega) (by simp), h4]

/-- the j-th of the two lists -/
theorem UniSt.list {w wr : World} {a1 a2 : Option Addr} {c1 c2 : Nat} {la lb : List ByteArray} {out : Value} {l : List ByteArray} (h : UniSt w wr (.slice a1 la.length c1) (.slice a2 lb.length c2) out l)
    (ha : Row w (.slice a1 la.length c1) la) (hb : Row w (.slice a2 lb.length c2) lb) (na : la.length ≤ 40) (nb : lb.length ≤ 40) (sa : ∀ x ∈ la, x.size ≤ 100) (sb : ∀ x ∈ lb, x.size ≤ 100) (j : Nat) (hj : j < 2) :
    ∃ a' c' l', wr.cell? ⟨w.heap.size + 1, j, none⟩ = some (.slice a' l'.length c') ∧ Row w (.slice a' l'.length c') l' ∧ l'.length ≤ 40 ∧ (∀ x ∈ l', x.size ≤ 100) ∧ doneL la lb (j + 1) = doneL la lb j ++ l' ∧ (doneL la lb j).length ≤ 40 := by
  obtain ⟨-, -, -, h4, -⟩ := h
  match j, hj with
  | 0, _ => exact ⟨a1, c1, la, by simp [World.cell?, h4], ha, na, sa, rfl, by simp [doneL]⟩
  | 1, _ => exact ⟨a2, c2, lb, by simp [World.cell?, h4], hb, nb, sb, rfl, na⟩

theorem UniSt.done {w wr : World} {va vb out : Value} {l l' m : List ByteArray} (h : UniSt w wr va vb out (l ++ l'.take l'.length)) (hm : m = l ++ l') : UniSt w wr va vb out m := by
  rw [hm]; rw [List.take_of_length_le (Nat.le_refl _)] at h; exact h

theorem UniSt.cells {w wr : World} {va vb out : Value} {l l' : List ByteArray} {a' : Option Addr} {c' : Nat} (h : UniSt w wr va vb out l) (hr : Row w (.slice a' l'.length c') l') (hne : l' ≠ []) :
    ∃ b off, a' = some ⟨b, off, none⟩ ∧ ∀ j x, l'[j]? = some x → wr.cell? ⟨b, off + j, none⟩ = some (.string x) := by
  obtain ⟨a, c, e, -, hc⟩ := hr.later h.2.2.1
  obtain ⟨b, off, ea, -, hcc⟩ := hc hne
  cases e
  exact ⟨b, off, ea, hcc⟩

set_option maxHeartbeats 800000 in
set_option maxRecDepth 100000 in
theorem nUnion (va vb : Value) (la lb : List ByteArray) (w : World) (ha : Row w va la) (hb : Row w vb lb) (na : la.length ≤ 40) (nb : lb.length ≤ 40) (sa : ∀ x ∈ la, x.size ≤ 100) (sb : ∀ x ∈ lb, x.size ≤ 100) :
    Calls Tryz.prog 67 #[va, vb] w fun e w' => ∃ v, e = .returned v ∧ w'.ownsRow w.heap.size 9 1 v (uni (la ++ lb)).length (cellsOf (uni (la ++ lb))) ∧ Below w.heap.size w w' := by
  have hmm := @run_makeMap Tryz.prog
  obtain ⟨i0, hi, hz0, hz1, hz2⟩ := info_parts infoStr
  have I := Lib.hid hi; have Z0 := Lib.hid hz0; have Z1 := Lib.hid hz1; have Z2 := Lib.hid hz2
  clear hi hz0 hz1 hz2
  have HA := Lib.hid ha; have HB := Lib.hid hb
  obtain ⟨a1, c1, rfl, -⟩ := ha
  obtain ⟨a2, c2, rfl, -⟩ := hb
  have SA := Lib.hid sa; have SB := Lib.hid sb
  clear sa sb
  go_enter Tryz.func67, Tryz.ntmps67
  go_wp2
  go_loopw [5, 16] (fun out i wr => ∃ j : Nat, j ≤ 2 ∧ i = .int .i64 j ∧ Hid (UniSt w wr (.slice a1 la.length c1) (.slice a2 lb.length c2) out (doneL la lb j))) (fun _ i _ => 2 - (intOf i).toNat)
  case atStart => exact ⟨0, by omega, rfl, UniSt.start _ _ _⟩
  case round =>
    obtain ⟨j, hj, rfl, hst⟩ := hrel
    by_cases hlt : j < 2
    · obtain ⟨a', c', l', hcell, hrow, hn', hs', hnext, hdone⟩ := hst.out.list HA.out HB.out na nb SA.out SB.out j hlt
      have HROW := Lib.hid hrow; have HS' := Lib.hid hs'; have HNEXT := Lib.hid hnext
      clear hrow hs' hnext
      have hdec : decide ((j : Int) < 2) = true := decide_eq_true (by omega)
      go_wp2
      go_loopw [5, 10, 22] (fun out _ i wr' => ∃ k : Nat, k ≤ l'.length ∧ i = .int .i64 k ∧ Hid (UniSt w wr' (.slice a1 la.length c1) (.slice a2 lb.length c2) out (doneL la lb j ++ l'.take k))) (fun _ _ i _ => l'.length - (intOf i).toNat)
      case atStart => exact ⟨0, Nat.zero_le _, rfl, by rw [List.take_zero, List.append_nil]; exact hst⟩
      case round =>
        obtain ⟨k, hk, rfl, hst2⟩ := hrel
        by_cases hlt2 : k < l'.length
        · obtain ⟨x, hx⟩ := get_of l' k hlt2
          obtain ⟨b, off, rfl, hcc⟩ := hst2.out.cells HROW.out (by intro e; rw [e] at hlt2; simp at hlt2)
          have hcx := hcc k x hx
          have hxs : x.size ≤ 100 := HS'.out x (List.mem_of_getElem? hx)
          have Hkey := Lib.hid (Go.WideMaps.keyOf_string_mk Tryz.underlying9 (s := x) (by unfold maxLen; omega))
          have Hx := Lib.hid (show doneL la lb j ++ l'.take (k + 1) = (doneL la lb j ++ l'.take k) ++ [x] by rw [take_one l' k x hx, List.append_assoc])
          have hl0 : (doneL la lb j ++ l'.take k).length ≤ 80 := by rw [List.length_append, List.length_take]; omega
          have hl1 := uni_len (doneL la lb j ++ l'.take k)
          clear hcc hx
          generalize doneL la lb j ++ l'.take k = l at *
          have hown := hst2.out.1
          have hrow2 := hst2.out.2.1
          have hbase := hst2.out.2.2.2.2
          by_cases hhas : hasB (uni l) x = true
          · go_wp2_with (first
              | (at_lookup; refine look_set _ rfl _ _ 136 rfl 9 4 lawStr Tryz.underlying136 Tryz.underlying4 (zeroBool _) w.heap.size l.length (uni l) rfl hown x rfl Hkey.out ?_))
            go_roundw
            case rel => exact ⟨k + 1, by omega, by go_num, by rw [Hx.out]; exact hst2.out.old hhas⟩
            case measure => simp [intOf]; omega
          · have hhas' : hasB (uni l) x = false := by simpa using hhas
            clear hhas
            go_wp2_with (first
              | (at_lookup; refine look_set _ rfl _ _ 136 rfl 9 4 lawStr Tryz.underlying136 Tryz.underlying4 (zeroBool _) w.heap.size l.length (uni l) rfl hown x rfl Hkey.out ?_)
              | (at_mapUpdate; refine wpList_mapUpdate_own _ rfl _ _ _ 136 rfl 9 4 lawStr Tryz.underlying136 (plainElem Tryz.prog 4) w.heap.size l.length _ rfl hown (by unfold maxLen; omega) _ _ _ rfl rfl Hkey.out _ [] (plainElem_bool Tryz.underlying4 true) ?_; intro w1 hown1 hgrow1)
              | (at_builtin; refine wpList_append_own _ rfl _ _ 51 rfl (w.heap.size + 2) 9 i0 _ 1 16 Tryz.underlying51 I.out Z0.out Z1.out Z2.out rfl (by decide) _ _ _ rfl ((hrow2.kept hgrow1 (Or.inr (row_ne hrow2 (by omega)).symm)).alloc _) ⟨w1.heap.size, 0, none⟩ 1 1 [.string x] rfl rfl (cell_one_new _ _ _) (by intro u hu; simp at hu; subst hu; rfl) (by unfold maxLen; omega) (by omega) (by have := hgrow1.size; simp at this ⊢; omega) ?_; intro v' w2 hown' hgrow2 hnil2))
            go_roundw
            case rel => exact ⟨k + 1, by omega, by go_num, by rw [Hx.out]; exact hst2.out.new hhas' hown1 hgrow1 hown' hgrow2⟩
            case measure => simp [intOf]; omega
        · obtain rfl : k = l'.length := by omega
          have hend := Lib.hid (hst2.out.done HNEXT.out)
          go_wp2
          go_roundw
          case rel => exact ⟨j + 1, by omega, by go_num, hend.out⟩
          case measure => simp [intOf]; omega
    · obtain rfl : j = 2 := by omega
      go_wp2
      go_ret
      exact ⟨_, rfl, owns_base hst.out.2.1 (by omega), hst.out.2.2.1⟩
end Go.Proofs.YtbcemenfklgnkaaGreatDoor

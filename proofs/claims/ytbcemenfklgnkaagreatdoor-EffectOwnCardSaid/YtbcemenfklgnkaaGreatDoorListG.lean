/- The document's sorted list. -/
import Derived.Test.YtbcemenfklgnkaaGreatDoorListF
import Derived.Test.YtbcemenfklgnkaaGreatDoorListR
import Derived.Deep.RegionLaw
import Derived.WalkLawsBesides
namespace Go.Proofs.YtbcemenfklgnkaaGreatDoor
open Go.RowKit Go.Maps

theorem one_old {w : World} {ad : Addr} {v : Value} (h : w.cell? ad = some v) : ∀ j u, [v][j]? = some u → w.cell? (ad.add j) = some u := by
  intro j u hu
  match j, hu with
  | 0, hu => simp at hu; subst hu; simpa [Addr.add] using h
  | j + 1, hu => simp at hu

/-- append onto a list of the call's own, as one step of a statement whose order is open -/
theorem step_own {ops : Array Oper} {o : Oper} {a : Act} {w : World} {K : Act → World → Prop} {Q : Exit → Act → World → Prop} {E : Prop}
    (hg : o.guard = none) (s x : Operand) (hop : o.op = Op.call { callee := Callee.builtin Builtin.append, args := #[s, x], argTypes := #[51, 51] })
    (w0 : World) (v : Value) (n : Nat) (xs : List Value) (hs : a.eval s = v) (ad : Addr) (m c : Nat) (news : List Value) (hx : a.eval x = .slice (some ad) m c)
    (hbel : Below w0.heap.size w0 w) (hown : w.ownsRow w0.heap.size 9 1 v n xs) (hne : v ≠ .slice none 0 0) (hl : news.length = m) (hnews : ∀ j u, news[j]? = some u → w.cell? (ad.add j) = some u) (h1 : ∀ u ∈ news, u.oneCell' = true) (hb : n + m ≤ 1000)
    (hK : ∀ v' w', w'.ownsRow w0.heap.size 9 1 v' (n + m) (xs ++ news) → Below w0.heap.size w0 w' → v' ≠ .slice none 0 0 → (∀ p u, w.cell? p = some u → some p.block ≠ v.ownBlock → w'.cell? p = some u) → w.heap.size ≤ w'.heap.size → K (a.put o.dst v') w') :
    if Region.wanted o (yielded ops a.tmps) = true then Oper.wp Tryz.prog o a w K Q else E := by
  have hw : Region.wanted o (yielded ops a.tmps) = true := by simp [Region.wanted, hg]
  rw [if_pos hw]
  obtain ⟨i0, hi, hz0, hz1, hz2⟩ := info_parts infoStr
  obtain ⟨v', w', hrun, r1, r2, r3⟩ := run_append_own (P := Tryz.prog) w w0.heap.size 51 o.type 9 i0 _ 1 16 Tryz.underlying51 hi hz0 hz1 hz2 rfl (by decide) v n xs hown ad m c news (by omega) hnews h1 (by unfold maxLen; omega) (by omega) hbel.size
  unfold Oper.wp
  simp [execOp, hop, resolve, invoke, builtin, hs, hx, hrun, Result.andThen]
  exact hK v' w' r1 (hbel.grown r2 hbel.size (fun k e => (hown.lt k e).1)) (fun e => hne (r3.1 e).1) (fun p u hp hne => r2.cell hp hne) r2.size

theorem own_new (w : World) (base : Nat) (hb : base ≤ w.heap.size) : (w.alloc (.cells #[] 9)).ownsRow base 9 1 (.slice (some ⟨w.heap.size, 0, none⟩) 0 0) 0 [] :=
  World.ownsRow_made w #[] 0 hb (by decide) rfl

theorem own_new2 (w : World) (base : Nat) (o : Obj) (hb : base ≤ w.heap.size) : ((w.alloc o).alloc (.cells #[] 9)).ownsRow base 9 1 (.slice (some ⟨w.heap.size + 1, 0, none⟩) 0 0) 0 [] := by
  have h := own_new (w.alloc o) base (by simp; omega)
  simpa using h
theorem slice_ne (ad : Addr) (n c : Nat) : Value.slice (some ad) n c ≠ .slice none 0 0 := by intro h; cases h
theorem cell_first (w : World) (v : Value) (t : TypeId) (o : Obj) : ((w.alloc (.cells #[v] t)).alloc o).drew.cell? ⟨w.heap.size, 0, none⟩ = some v := by simp
theorem cell_second (w : World) (v : Value) (t : TypeId) (o : Obj) : ((w.alloc o).alloc (.cells #[v] t)).drew.cell? ⟨w.heap.size + 1, 0, none⟩ = some v := by simp
theorem blk_lt (k : Nat) (n c : Nat) : some k ≠ Value.ownBlock (.slice (some ⟨k + 1, 0, none⟩) n c) := by simp [Value.ownBlock]
theorem blk_gt (k : Nat) (n c : Nat) : some (k + 1) ≠ Value.ownBlock (.slice (some ⟨k, 0, none⟩) n c) := by simp [Value.ownBlock]
theorem none_at {l : List Value} (h : l = []) (W : World) (ad : Addr) : ∀ j u, l[j]? = some u → W.cell? (ad.add j) = some u := by
  subst h; intro j u hu; simp at hu
theorem str_one (x : ByteArray) : ∀ u ∈ [Value.string x], u.oneCell' = true := by intro u hu; simp at hu; subst hu; rfl

/-- what has been sorted: the list m -/
def SSt (w wr : World) (out : Value) (m done : List ByteArray) : Prop :=
  Srt m ∧ (∀ x, x ∈ m ↔ x ∈ done) ∧ m.length ≤ done.length ∧ RSt w wr out m ∧ out ≠ .slice none 0 0

theorem SSt.at {w wr : World} {out : Value} {m done : List ByteArray} (h : SSt w wr out m done) :
    ∃ g cap, out = .slice (some ⟨g, 0, none⟩) m.length cap ∧ m.length ≤ cap ∧ cap ≤ maxLen ∧ w.heap.size ≤ g ∧ g < wr.heap.size ∧ ∀ j x, m[j]? = some x → wr.cell? ⟨g, j, none⟩ = some (.string x) := by
  obtain ⟨-, -, -, ⟨hr, -⟩, hne⟩ := h
  rcases hr.2 with ⟨rfl, _⟩ | ⟨g, cap, cur, rfl, hb, hg, h1, h2, h3, h4⟩
  · exact absurd rfl hne
  · refine ⟨g, cap, rfl, h1, h2, hb, (Array.getElem?_eq_some_iff.1 hg).1, fun j x hx => ?_⟩
    have := hr.cells (g := g) rfl j (.string x) (by unfold cellsOf; rw [List.getElem?_map, hx]; rfl)
    rwa [Addr.add_lit, Nat.zero_add] at this

theorem SSt.same {w wr : World} {out : Value} {m done : List ByteArray} {t : Nat} {x y : ByteArray} (h : SSt w wr out m done) (hy : m[t]? = some y) (he : y = x) : SSt w wr out m (done ++ [x]) := by
  obtain ⟨h1, h2, h3, h4, h5⟩ := h
  subst he
  refine ⟨h1, fun z => ?_, by rw [List.length_append]; omega, h4, h5⟩
  rw [List.mem_append, List.mem_singleton, ← h2]
  exact ⟨.inl, fun hz => hz.elim id fun e => e ▸ List.mem_of_getElem? hy⟩

theorem SSt.ins {w wr w' : World} {out v' : Value} {m done : List ByteArray} {t : Nat} {x : ByteArray} (h : SSt w wr out m done) (ht : t ≤ m.length) (hlo : ∀ y ∈ m.take t, y.data.toList < x.data.toList)
    (hhi : ∀ y, m[t]? = some y → ¬ y.data.toList < x.data.toList ∧ y ≠ x) {n : Nat} {xs : List Value} (hr : w'.ownsRow wr.heap.size 9 1 v' n xs) (hn : n = m.length + 1) (hxs : xs = cellsOf (m.take t ++ [x] ++ m.drop t)) (hb : Below wr.heap.size wr w') (hne : v' ≠ .slice none 0 0) :
    SSt w w' v' (m.take t ++ [x] ++ m.drop t) (done ++ [x]) := by
  obtain ⟨h1, h2, h3, ⟨h4, h5⟩, h6⟩ := h
  have hl : (m.take t ++ [x] ++ m.drop t).length = m.length + 1 := by simp; omega
  subst hn; subst hxs
  refine ⟨srt_ins m x t h1 hlo hhi, fun z => by rw [ins_mem, h2, List.mem_append, List.mem_singleton], by rw [hl, List.length_append, List.length_singleton]; omega, ⟨?_, h5.trans (hb.mono h5.size)⟩, hne⟩
  rw [hl]
  exact owns_base hr h5.size

theorem lt_snoc {m : List ByteArray} {t : Nat} {x y : ByteArray} (hy : m[t]? = some y) (h : ∀ z ∈ m.take t, z.data.toList < x.data.toList) (hl : Op.bytesLess y.toList x.toList = true) : ∀ z ∈ m.take (t + 1), z.data.toList < x.data.toList := by
  intro z hz
  rw [take_one m t y hy] at hz
  rcases List.mem_append.1 hz with hz | hz
  · exact h z hz
  · rw [List.mem_singleton] at hz; subst hz; exact (less_iff _ _).1 hl

/-- the cells of a piece of the list -/
theorem piece_cells {wr W : World} {g : Nat} {m : List ByteArray} (hc : ∀ j x, m[j]? = some x → wr.cell? ⟨g, j, none⟩ = some (.string x)) (hg : g < wr.heap.size) (hb : Below wr.heap.size wr W) (off : Nat) (l : List ByteArray) (hl : ∀ j x, l[j]? = some x → m[off + j]? = some x) :
    ∀ j u, (cellsOf l)[j]? = some u → W.cell? ((⟨g, off, none⟩ : Addr).add j) = some u := by
  intro j u hu
  obtain ⟨x, hx, rfl⟩ := cells_at hu
  rw [Addr.add_lit]
  exact (hb.cell (p := ⟨g, off + j, none⟩) hg).trans (hc _ _ (hl j x hx))

theorem take_len1 {m : List ByteArray} {t : Nat} (ht : t ≤ m.length) : (cellsOf (m.take t)).length = t := by unfold cellsOf; simp; omega
theorem drop_len1 (m : List ByteArray) (t : Nat) : (cellsOf (m.drop t)).length = m.length - t := by unfold cellsOf; simp
theorem take_at (m : List ByteArray) (t : Nat) : ∀ j x, (m.take t)[j]? = some x → m[0 + j]? = some x := by
  intro j x h
  rw [Nat.zero_add]
  have hj : j < t := by have := (List.getElem?_eq_some_iff.1 h).1; rw [List.length_take] at this; omega
  rwa [List.getElem?_take_of_lt hj] at h
theorem drop_at (m : List ByteArray) (t : Nat) : ∀ j x, (m.drop t)[j]? = some x → m[t + j]? = some x := by
  intro j x h; rwa [List.getElem?_drop] at h
theorem drop_none (m : List ByteArray) (t : Nat) (h : m.length ≤ t) : cellsOf (m.drop t) = [] := by rw [List.drop_eq_nil_of_le h]; rfl
theorem cells_join (m : List ByteArray) (x : ByteArray) (t : Nat) : [] ++ cellsOf (m.take t) ++ [.string x] ++ cellsOf (m.drop t) = cellsOf (m.take t ++ [x] ++ m.drop t) := by unfold cellsOf; simp
theorem hi_at {m : List ByteArray} {t : Nat} {x y : ByteArray} (hy : m[t]? = some y) (h1 : Op.bytesLess y.toList x.toList = false) (h2 : (y.toList == x.toList) = false) : ∀ z, m[t]? = some z → ¬ z.data.toList < x.data.toList ∧ z ≠ x := by
  intro z hz; rw [hy] at hz; cases hz
  exact ⟨(not_less _ _).1 h1, ne_of_toList.1 h2⟩
theorem hi_none {m : List ByteArray} {x : ByteArray} {t : Nat} (h : m.length ≤ t) : ∀ z, m[t]? = some z → ¬ z.data.toList < x.data.toList ∧ z ≠ x := by
  intro z hz; rw [List.getElem?_eq_none h] at hz; cases hz

set_option maxHeartbeats 1000000 in
set_option maxRecDepth 100000 in
theorem rSorted (va : Value) (la : List ByteArray) (w : World) (ha : Row w va la) (na : la.length ≤ 40) :
    Calls Tryz.prog 24 #[va] w fun e w' => ∃ v, e = .returned v ∧ w'.ownsRow w.heap.size 9 1 v (sortL (uni la)).length (cellsOf (sortL (uni la))) ∧ Below w.heap.size w w' := by
  have HA := Lib.hid ha
  obtain ⟨a1, c1, rfl, -⟩ := ha
  go_enter Tryz.func24, Tryz.ntmps24
  go_wp2
  go_loopw [3, 5, 6, 10] (fun out _ _ i wr => ∃ k : Nat, k ≤ la.length ∧ i = .int .i64 k ∧ ∃ m, Hid (SSt w wr out m (la.take k))) (fun _ _ _ i _ => la.length - (intOf i).toNat)
  case atStart => exact ⟨0, Nat.zero_le _, rfl, [], List.Pairwise.nil, by simp, by simp, RSt.start w, by simp⟩
  case round =>
    obtain ⟨k, hk, rfl, m, hst⟩ := hrel
    by_cases hlt : k < la.length
    · obtain ⟨x, hx⟩ := get_of la k hlt
      obtain ⟨b, off, rfl, hcc⟩ := row_cells hst.out.2.2.2.1.2 HA.out (by intro e; rw [e] at hlt; simp at hlt)
      have hcx := hcc k x hx
      have Hx := Lib.hid (take_one la k x hx)
      obtain ⟨g, cap, rfl, hmc, hcm, hgb, hgw, hcells⟩ := hst.out.at
      have hm40 : m.length ≤ 40 := Nat.le_trans hst.out.2.2.1 (Nat.le_trans (List.length_take_le _ _) (by omega))
      unfold maxLen at hcm
      have HC := Lib.hid hcells
      clear hcc hx hcells
      have hdec : decide ((k : Int) < (la.length : Int)) = true := decide_eq_true (by omega)
      go_wp2
      go_loop [6] (fun at' => ∃ t : Nat, t ≤ m.length ∧ at' = .int .i64 t ∧ Hid (∀ y ∈ m.take t, y.data.toList < x.data.toList)) (fun at' => m.length - (intOf at').toNat)
      case atStart => exact ⟨0, Nat.zero_le _, rfl, Lib.hid (by simp)⟩
      case round =>
        obtain ⟨t, ht, rfl, hlo⟩ := hrel
        by_cases htl : t < m.length
        · obtain ⟨y, hy⟩ := get_of m t htl
          have hcy := HC.out t y hy
          have Hy := Lib.hid hy
          clear hy
          have hdt : decide ((t : Int) < (m.length : Int)) = true := decide_eq_true (by omega)
          by_cases hl : Op.bytesLess y.toList x.toList = true
          · go_wp2
            go_round
            case rel => exact ⟨t + 1, by omega, by go_num, lt_snoc Hy.out hlo.out hl⟩
            case measure => simp [intOf]; omega
          · have hl' : Op.bytesLess y.toList x.toList = false := by simpa using hl
            clear hl
            by_cases he : (y.toList == x.toList) = true
            · go_wp2
              go_roundw
              case rel => exact ⟨k + 1, by omega, by go_num, m, by rw [Hx.out]; exact hst.out.same Hy.out (eq_of_toList.1 he)⟩
              case measure => simp [intOf]; omega
            · have he' : (y.toList == x.toList) = false := by simpa using he
              clear he
              have hhi := Lib.hid (hi_at Hy.out hl' he')
              have hct : ¬ cap = t := by omega
              have htc : t ≤ cap := by omega
              go_wp2
              go_region_law (first
                | (refine step_own rfl (.tmp 40) (.tmp 43) rfl wr _ 0 [] rfl ⟨g, 0, none⟩ t cap (cellsOf (m.take t)) rfl ?_ ?_ ?_ ?_ ?_ (cells_one _) ?_ ?_; (repeat first | exact Below.refl _ _ | refine Below.drew ?_ | refine Below.alloc ?_ (by simp) _); (first | exact (own_new _ _ (Nat.le_refl _)).drew | exact ((own_new _ _ (Nat.le_refl _)).alloc _).drew | exact (own_new2 _ _ _ (Nat.le_refl _)).drew); exact slice_ne _ _ _; exact take_len1 ht; exact piece_cells HC.out hgw (by (repeat first | exact Below.refl _ _ | refine Below.drew ?_ | refine Below.alloc ?_ (by simp) _)) 0 _ (take_at m t); omega; intro v1 w1 own1 bel1 nn1 old1 sz1)
                | (refine step_own rfl (.tmp 44) (.tmp 46) rfl wr _ (0 + t) ([] ++ cellsOf (m.take t)) rfl _ 1 1 [Value.string x] rfl ?_ ?_ nn1 rfl ?_ (str_one x) ?_ ?_; (first | exact bel1 | exact bel1.alloc bel1.size _); (first | exact own1 | exact own1.alloc _); (first | exact cell_one_new _ _ _ | exact one_old (old1 _ _ (cell_second _ _ _ _) (blk_gt _ _ _)) | exact one_old (old1 _ _ (cell_first _ _ _ _) (blk_lt _ _ _))); omega; intro v2 w2 own2 bel2 nn2 old2 sz2)
                | (refine step_own rfl (.tmp 47) (.tmp 50) rfl wr _ (0 + t + 1) ([] ++ cellsOf (m.take t) ++ [Value.string x]) rfl ⟨g, t, none⟩ (m.length - t) _ (cellsOf (m.drop t)) rfl bel2 own2 nn2 (drop_len1 m t) ?_ (cells_one _) ?_ ?_; exact piece_cells HC.out hgw bel2 t _ (drop_at m t); omega; intro v3 w3 own3 bel3 nn3 old3 sz3))
              all_goals
                go_wp2
                go_roundw
                case rel => exact ⟨k + 1, by omega, by go_num, _, by rw [Hx.out]; exact hst.out.ins ht hlo.out hhi.out own3 (by omega) (cells_join m x t) bel3 nn3⟩
                case measure => simp [intOf]; omega
        · have hdt : decide ((t : Int) < (m.length : Int)) = false := decide_eq_false (by omega)
          have hhi := Lib.hid (hi_none (m := m) (x := x) (t := t) (by omega))
          by_cases hct : cap = t
          · subst hct
            have hd := Lib.hid (drop_none m cap (by omega))
            have htc : cap ≤ cap := Nat.le_refl _
            go_wp2
            go_region_law (first
              | (refine step_own rfl (.tmp 40) (.tmp 43) rfl wr _ 0 [] rfl ⟨g, 0, none⟩ cap cap (cellsOf (m.take cap)) rfl ?_ ?_ ?_ ?_ ?_ (cells_one _) ?_ ?_; (repeat first | exact Below.refl _ _ | refine Below.drew ?_ | refine Below.alloc ?_ (by simp) _); (first | exact (own_new _ _ (Nat.le_refl _)).drew | exact ((own_new _ _ (Nat.le_refl _)).alloc _).drew | exact (own_new2 _ _ _ (Nat.le_refl _)).drew); exact slice_ne _ _ _; exact take_len1 ht; exact piece_cells HC.out hgw (by (repeat first | exact Below.refl _ _ | refine Below.drew ?_ | refine Below.alloc ?_ (by simp) _)) 0 _ (take_at m cap); omega; intro v1 w1 own1 bel1 nn1 old1 sz1)
              | (refine step_own rfl (.tmp 44) (.tmp 46) rfl wr _ (0 + cap) ([] ++ cellsOf (m.take cap)) rfl _ 1 1 [Value.string x] rfl ?_ ?_ nn1 rfl ?_ (str_one x) ?_ ?_; (first | exact bel1 | exact bel1.alloc bel1.size _); (first | exact own1 | exact own1.alloc _); (first | exact cell_one_new _ _ _ | exact one_old (old1 _ _ (cell_second _ _ _ _) (blk_gt _ _ _)) | exact one_old (old1 _ _ (cell_first _ _ _ _) (blk_lt _ _ _))); omega; intro v2 w2 own2 bel2 nn2 old2 sz2)
              | (refine step_own rfl (.tmp 47) (.tmp 50) rfl wr _ (0 + cap + 1) ([] ++ cellsOf (m.take cap) ++ [Value.string x]) rfl _ _ _ (cellsOf (m.drop cap)) rfl bel2 own2 nn2 ?_ ?_ (cells_one _) ?_ ?_; (first | exact drop_len1 m cap | (rw [hd.out]; rfl)); exact none_at hd.out _ _; omega; intro v3 w3 own3 bel3 nn3 old3 sz3))
            all_goals
              go_wp2
              go_roundw
              case rel => exact ⟨k + 1, by omega, by go_num, _, by rw [Hx.out]; exact hst.out.ins ht hlo.out hhi.out own3 (by omega) (cells_join m x cap) bel3 nn3⟩
              case measure => simp [intOf]; omega
          · skip
            have htc : t ≤ cap := by omega
            go_wp2
            go_region_law (first
              | (refine step_own rfl (.tmp 40) (.tmp 43) rfl wr _ 0 [] rfl ⟨g, 0, none⟩ t cap (cellsOf (m.take t)) rfl ?_ ?_ ?_ ?_ ?_ (cells_one _) ?_ ?_; (repeat first | exact Below.refl _ _ | refine Below.drew ?_ | refine Below.alloc ?_ (by simp) _); (first | exact (own_new _ _ (Nat.le_refl _)).drew | exact ((own_new _ _ (Nat.le_refl _)).alloc _).drew | exact (own_new2 _ _ _ (Nat.le_refl _)).drew); exact slice_ne _ _ _; exact take_len1 ht; exact piece_cells HC.out hgw (by (repeat first | exact Below.refl _ _ | refine Below.drew ?_ | refine Below.alloc ?_ (by simp) _)) 0 _ (take_at m t); omega; intro v1 w1 own1 bel1 nn1 old1 sz1)
              | (refine step_own rfl (.tmp 44) (.tmp 46) rfl wr _ (0 + t) ([] ++ cellsOf (m.take t)) rfl _ 1 1 [Value.string x] rfl ?_ ?_ nn1 rfl ?_ (str_one x) ?_ ?_; (first | exact bel1 | exact bel1.alloc bel1.size _); (first | exact own1 | exact own1.alloc _); (first | exact cell_one_new _ _ _ | exact one_old (old1 _ _ (cell_second _ _ _ _) (blk_gt _ _ _)) | exact one_old (old1 _ _ (cell_first _ _ _ _) (blk_lt _ _ _))); omega; intro v2 w2 own2 bel2 nn2 old2 sz2)
              | (refine step_own rfl (.tmp 47) (.tmp 50) rfl wr _ (0 + t + 1) ([] ++ cellsOf (m.take t) ++ [Value.string x]) rfl ⟨g, t, none⟩ (m.length - t) _ (cellsOf (m.drop t)) rfl bel2 own2 nn2 (drop_len1 m t) ?_ (cells_one _) ?_ ?_; exact piece_cells HC.out hgw bel2 t _ (drop_at m t); omega; intro v3 w3 own3 bel3 nn3 old3 sz3))
            all_goals
              go_wp2
              go_roundw
              case rel => exact ⟨k + 1, by omega, by go_num, _, by rw [Hx.out]; exact hst.out.ins ht hlo.out hhi.out own3 (by omega) (cells_join m x t) bel3 nn3⟩
              case measure => simp [intOf]; omega
    · obtain rfl : k = la.length := by omega
      go_wp2
      go_ret
      obtain ⟨s1, s2, -, ⟨s3, s4⟩, -⟩ := hst.out
      rw [List.take_of_length_le (Nat.le_refl _)] at s2
      have hm : m = sortL (uni la) := srt_one s1 (sort_srt _ (uni_nodup la)) (fun z => by rw [s2, sort_mem, uni_mem])
      subst hm
      exact ⟨_, rfl, s3, s4⟩
end Go.Proofs.YtbcemenfklgnkaaGreatDoor

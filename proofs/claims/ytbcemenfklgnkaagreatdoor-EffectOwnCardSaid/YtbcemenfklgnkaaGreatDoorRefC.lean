/- The document's tree: Put, where it puts. -/
import Derived.Test.YtbcemenfklgnkaaGreatDoorRefB
namespace Go.Proofs.YtbcemenfklgnkaaGreatDoor
open Go.RowKit

/-- how the loop of Put stands behind k files -/
def PutSt (l : List Fl) (f : Fl) (w0 : World) (k : Nat) (out d : Value) (wr : World) : Prop :=
  wr.ownsRow w0.heap.size 76 3 out (stP f (l.take k)).1.length (cellsF (stP f (l.take k)).1) ∧ d = .bool (stP f (l.take k)).2 ∧ Below w0.heap.size w0 wr

theorem newsAt (w : World) (f : Fl) (t : TypeId) (n : Nat) (hn : n = w.heap.size) : ∀ j u, ([.string f.n, .string f.c, .int .i64 f.t] : List Value)[j]? = some u → (w.alloc (.cells #[.string f.n, .string f.c, .int .i64 f.t] t)).cell? ((⟨n, 0, none⟩ : Addr).add j) = some u := by
  subst hn; exact newsF w f t
theorem own_snoc {w : World} {base : Nat} {e : TypeId} {v : Value} {o : List Fl} {x : Fl} (h : w.ownsRow base e 3 v (o.length + 1) (cellsF o ++ [.string x.n, .string x.c, .int .i64 x.t])) : w.ownsRow base e 3 v (o ++ [x]).length (cellsF (o ++ [x])) := by
  rw [cellsF_snoc, List.length_append, List.length_singleton]; exact h
theorem ne_of_own {w : World} {base : Nat} {e : TypeId} {size : Nat} {v : Value} {n : Nat} {xs : List Value} (h : w.ownsRow base e size v n xs) {b : Nat} (hb : b < base ∨ w.heap.size ≤ b) : some b ≠ v.ownBlock := fun e => by
  have := h.lt b e.symm
  omega
theorem grown_set (w : World) (p : Nat) (v : Value) : w.grownBy (w.setCell ⟨p, 0, none⟩ v) (some p) :=
  ⟨rfl, rfl, rfl, by simp [World.setCell], fun k _ hne => Below.heap_setCell _ _ _ _ (fun e => hne (by rw [e]))⟩
theorem own_some {w : World} {base : Nat} {e : TypeId} {size n len c : Nat} {a : Option Addr} {x : Addr} {xs : List Value} (h : w.ownsRow base e size (.slice a len c) n xs) (ha : a = some x) : (Value.slice (some x) len c).ownBlock = some x.block := by
  subst ha
  rcases h.2 with ⟨hv, _⟩ | ⟨g, cap, cur, hv, _⟩
  · cases hv
  · cases hv; rfl
theorem rtree_set {W : World} {base p : Nat} {e : TypeId} {a : Option Addr} {c : Nat} {l' : List Fl} {old : Value} (ho : W.ownsRow base e 3 (.slice a l'.length c) l'.length (cellsF l')) (hp : p < base) (hc : W.cell? ⟨p, 0, none⟩ = some old)
    (hf : W.frozen? ⟨p, 0, none⟩ = false) (h40 : l'.length ≤ 40) (hs : ∀ f ∈ l', f.n.size ≤ maxLen ∧ f.c.size ≤ maxLen) : RTree (W.setCell ⟨p, 0, none⟩ (.slice a l'.length c)) p l' := by
  have hg := grown_set W p (.slice a l'.length c)
  have hne : some p ≠ (Value.slice a l'.length c).ownBlock := ne_of_own ho (.inl hp)
  have ho' := ho.kept hg (.inr hne.symm)
  obtain ⟨g1, g2, g3⟩ := good_of_owns ho'
  exact ⟨a, c, World.cell?_setCell_same _ _ _ hc, (World.frozen?_setCell _ _ _ _).trans hf, (fc_of_owns ho' (by omega)).frow hs, g1, g2, ⟨g3, fun x hx _ e => hne (by rw [hx, ← e]; exact (own_some ho' hx).symm)⟩, h40⟩
theorem putSt_mk {l : List Fl} {f : Fl} {w0 wr : World} {k : Nat} {out : Value} {o : List Fl} {d : Bool} (hn : stP f (l.take (k + 1)) = (o, d)) (ho : wr.ownsRow w0.heap.size 76 3 out o.length (cellsF o)) (hb : Below w0.heap.size w0 wr) :
    PutSt l f w0 (k + 1) out (.bool d) wr := by
  unfold PutSt
  rw [hn]
  exact ⟨ho, rfl, hb⟩

set_option maxRecDepth 100000 in
set_option maxHeartbeats 4000000 in
theorem rPut_ok (p : Nat) (l : List Fl) (f : Fl) (w : World) (h : RTree w p l) (hn : f.n.size ≤ maxLen) (hc : f.c.size ≤ maxLen) (hk : putE l f = 0) (hri : Rising l) :
    Calls Tryz.prog 33 #[.pointer (some ⟨p, 0, none⟩), valF f] w fun e w' => e = .returned (.int .i64 0) ∧ RTree w' p (putL l f) ∧ w.grownBy w' (some p) := by
  have hc' := hc
  unfold maxLen at hc'
  have HT := Lib.hid h; have HN := Lib.hid hn; have HC := Lib.hid hc
  have h40 := h.len40
  have HREF := Lib.hid (refP_eq (f := f) (l := l) hri)
  have hga := World.grownBy_alloc w (.cells #[.string f.n, .string f.c, .int .i64 f.t] 76) none
  have HGA := Lib.hid hga
  have hbx := box_newT w f 76
  have HBX := Lib.hid hbx
  obtain ⟨i0, hi, hz0, hz1, hz2⟩ := info_parts infoFileR
  have I := Lib.hid hi; have Z0 := Lib.hid hz0; have Z1 := Lib.hid hz1; have Z2 := Lib.hid hz2
  clear hi hz0 hz1 hz2 hga hbx hc
  rcases putE_cases l f with ⟨e, _⟩ | ⟨e, _⟩ | ⟨e, _⟩ | ⟨e, _⟩ | ⟨-, h1, h2, t1, t2, h5⟩
  · rw [hk] at e; cases e
  · rw [hk] at e; cases e
  · rw [hk] at e; cases e
  · rw [hk] at e; cases e
  have hlen : Hid ((putL l f).length ≤ 40) := by
    rcases h5 with h5 | ⟨h5, h6⟩
    · exact Nat.le_trans (putL_len_has h5) h40
    · have := putL_len_le l f; exact (by omega : (putL l f).length ≤ 40)
  have hroom : (0 ≤ atI l f.n) ∨ (atI l f.n = -1 ∧ l.length < 40) := by
    rcases at_cases l f.n with ⟨h6, h⟩ | ⟨k, _, _, _, _, h, _, h7⟩
    · rw [h6] at h5; exact .inr ⟨h, by simpa using h5⟩
    · exact .inl (by omega)
  obtain ⟨i, hii⟩ : ∃ i, i = atI l f.n := ⟨_, rfl⟩
  have hcon := fun (W : World) (hW : RTree W p l) => rAt p l f.n W hW
  rw [← hii] at hcon hroom
  have HCON := Lib.hid hcon
  have HRI := Lib.hid hri
  clear hcon hii h5 h hk hri
  unfold valF
  have plen := Lib.hid HT.out.lt
  have hd1 : decide (f.t < 1) = false := decide_eq_false (by omega)
  have hd2 : decide (549755813888 < f.t) = false := decide_eq_false (by omega)
  have hd3 : decide ((900 : Int) < f.c.size) = false := decide_eq_false (by omega)
  go_enter Tryz.func33, Tryz.ntmps33
  go_wp2_with (go_at_call 48; refine (rRightT _ _ hn).mono ?_; rintro e w' ⟨rfl, rfl⟩)
  refine (HCON.out _ (HT.out.grown HGA.out)).mono ?_
  rintro e w1 ⟨rfl, g1⟩
  have G1 := Lib.hid (HGA.out.trans g1)
  have BX1 := Lib.hid (HBX.out.kept g1 (by simp))
  have T1 := Lib.hid ((HT.out.grown HGA.out).grown g1)
  obtain ⟨a1, c1, hc1, hfr1, hr1, -⟩ := T1.out
  have HR1 := Lib.hid hr1; have HFR1 := Lib.hid hfr1
  have PL1 := Lib.hid (show p < w1.heap.size from cell_block hc1)
  have BL1 := Lib.hid BX1.out.lt
  clear hr1 hfr1 g1 HCON HGA HBX
  generalize hqb : w.heap.size = qb at BX1 BL1 plen ⊢
  have HQB := Lib.hid hqb
  clear hqb
  rcases hroom with hi | ⟨rfl, hl⟩
  case' inl => have hdi : decide (i < 0) = false := decide_eq_false (by omega)
  case' inr => have hdi : decide ((40 : Int) ≤ l.length) = false := decide_eq_false (by omega)
  all_goals
    have hc1a := cell_al hc1
    have ST := Lib.hid (show PutSt l f w1 0 (.slice (some ⟨w1.heap.size, 0, none⟩) 0 0) (.bool false) (w1.alloc (.cells #[] 76)) from
      ⟨own_newF w1 _ (Nat.le_refl _), rfl, (Below.refl _ _).alloc (Nat.le_refl _) _⟩)
    go_wp2
    clear hc1a
    go_loopw [5, 6, 8, 44] (fun out d _ i wr => ∃ k : Nat, k ≤ l.length ∧ i = .int .i64 k ∧ Hid (PutSt l f w1 k out d wr)) (fun _ _ _ i _ => l.length - (intOf i).toNat)
    case atStart => exact ⟨0, Nat.zero_le _, rfl, ST⟩
    case round =>
      obtain ⟨k, hk, rfl, hst⟩ := hrel
      have hown := hst.out.1
      have hd := hst.out.2.1
      have HB := Lib.hid hst.out.2.2
      have LEN := Lib.hid (show (stP f (l.take k)).1.length ≤ 80 by have := stP_len f (l.take k); have := List.length_take_le k l; omega)
      have BXR := Lib.hid (BX1.out.below HB.out BL1.out)
      by_cases hlt : k < l.length
      · obtain ⟨b, off, c', x, e, hf, sn, sc, hb, y0, y1, y2⟩ := (HR1.out.later HB.out).at k hlt
        cases e
        have HNX := Lib.hid (stP_snoc (f := f) hf)
        clear hf sn sc hst
        generalize hs : stP f (l.take k) = st at hown hd LEN HNX
        obtain ⟨o, d⟩ := st
        simp only at hown hd LEN
        subst hd
        have HOWN := Lib.hid hown
        clear hown hs
        have hb0 := cell_al BXR.out.1
        have hb1 := cell_al BXR.out.2.1
        have hb2 := cell_al BXR.out.2.2
        have SZtok1 := Lib.hid HB.out.size
        have tok1 : True := trivial
        have tok2 : True := trivial
        by_cases hne : neN f x = true
        · have hnw : (x.n.toList == f.n.toList) = false := by have h := hne; unfold neN at h; rw [isN_walk] at h; simpa using h
          have HNE := Lib.hid hne
          clear hne
          cases d
          · by_cases hle : leN f x = true
            · have HST := Lib.hid (HNX.out.trans (stepP_11 rfl hle HNE.out))
              unfold leN at hle
              have XB := Lib.hid (box_newT wr x 76)
              go_wp2_with (first | (at_builtin; have _t := tok1; refine wpList_append_own _ rfl _ _ 35 rfl w1.heap.size 76 i0 _ 3 40 Tryz.underlying35 I.out Z0.out Z1.out Z2.out rfl (by decide) _ _ _ rfl ((HOWN.out.alloc _).alloc _) ⟨_, 0, none⟩ 1 1 [.string f.n, .string f.c, .int .i64 f.t] rfl rfl (newsAt _ f _ _ (by simp)) (oneF f) (by have := LEN.out; unfold maxLen; omega) (by have := LEN.out; omega) (by have := SZtok1.out; simp; omega) ?_; intro v2 w2 hown2 hgrow2 hnil2; clear hnil2 tok1; have X2 := Lib.hid ((XB.out.kept (World.grownBy_alloc _ _ none) (by simp)).kept hgrow2 (ne_of_own HOWN.out (.inr (Nat.le_refl _)))); have F2 := Lib.hid (((BXR.out.kept (World.grownBy_alloc _ _ none) (by simp)).kept (World.grownBy_alloc _ _ none) (by simp)).kept hgrow2 (ne_of_own HOWN.out (.inl BL1.out))); have HB2 := Lib.hid (((HB.out.alloc HB.out.size (.cells #[.string x.n, .string x.c, .int .i64 x.t] 76)).alloc (by have := HB.out.size; simp; omega) (.cells #[.string f.n, .string f.c, .int .i64 f.t] 76)).grown hgrow2 (by have := HB.out.size; simp; omega) (fun j e => (HOWN.out.lt j e).1)); have HO2 := Lib.hid (own_snoc hown2); have SZtok2 := Lib.hid HB2.out.size; have LEN2 := Lib.hid (show (o ++ [f]).length ≤ 81 by have := LEN.out; simp; omega); have x0 := X2.out.1; have x1 := X2.out.2.1; have x2 := X2.out.2.2; have f0 := F2.out.1; clear hown2 hgrow2) | (at_builtin; have _t := tok2; refine wpList_append_own _ rfl _ _ 35 rfl w1.heap.size 76 i0 _ 3 40 Tryz.underlying35 I.out Z0.out Z1.out Z2.out rfl (by decide) _ _ _ rfl (HO2.out.alloc _) ⟨_, 0, none⟩ 1 1 [.string x.n, .string x.c, .int .i64 x.t] rfl rfl (newsAt _ x _ _ (by simp)) (oneF x) (by have := LEN2.out; unfold maxLen; omega) (by have := LEN2.out; omega) (by have := SZtok2.out; simp; omega) ?_; intro v3 w3 hown3 hgrow3 hnil3; clear hnil3 tok2))
              have HB3 := Lib.hid ((HB2.out.alloc HB2.out.size (.cells #[.string x.n, .string x.c, .int .i64 x.t] 76)).grown hgrow3 (by have := HB2.out.size; simp; omega) (fun j e => (HO2.out.lt j e).1))
              have HO3 := Lib.hid (own_snoc hown3)
              clear hgrow3 hown3
              go_roundw
              case rel => exact ⟨k + 1, by omega, by go_num, Lib.hid (putSt_mk HST.out HO3.out HB3.out)⟩
              case measure => simp [intOf]; omega
            · have hle' : leN f x = false := by simpa using hle
              have HST := Lib.hid (HNX.out.trans (stepP_01 (.inr hle') HNE.out))
              unfold leN at hle'
              clear hle
              go_wp2_with (first | (at_builtin; have _t := tok1; refine wpList_append_own _ rfl _ _ 35 rfl w1.heap.size 76 i0 _ 3 40 Tryz.underlying35 I.out Z0.out Z1.out Z2.out rfl (by decide) _ _ _ rfl ((HOWN.out.alloc _).alloc _) ⟨_, 0, none⟩ 1 1 [.string x.n, .string x.c, .int .i64 x.t] rfl rfl (newsAt _ x _ _ (by simp)) (oneF x) (by have := LEN.out; unfold maxLen; omega) (by have := LEN.out; omega) (by have := SZtok1.out; simp; omega) ?_; intro v2 w2 hown2 hgrow2 hnil2; clear hnil2 tok1))
              have HB2 := Lib.hid (((HB.out.alloc HB.out.size (.cells #[.string x.n, .string x.c, .int .i64 x.t] 76)).alloc (by have := HB.out.size; simp; omega) (.cells #[.string x.n, .string x.c, .int .i64 x.t] 76)).grown hgrow2 (by have := HB.out.size; simp; omega) (fun j e => (HOWN.out.lt j e).1))
              have HO2 := Lib.hid (own_snoc hown2)
              clear hgrow2 hown2
              go_roundw
              case rel => exact ⟨k + 1, by omega, by go_num, Lib.hid (putSt_mk HST.out HO2.out HB2.out)⟩
              case measure => simp [intOf]; omega
          · have HST := Lib.hid (HNX.out.trans (stepP_01 (.inl rfl) HNE.out))
            go_wp2_with (first | (at_builtin; have _t := tok1; refine wpList_append_own _ rfl _ _ 35 rfl w1.heap.size 76 i0 _ 3 40 Tryz.underlying35 I.out Z0.out Z1.out Z2.out rfl (by decide) _ _ _ rfl ((HOWN.out.alloc _).alloc _) ⟨_, 0, none⟩ 1 1 [.string x.n, .string x.c, .int .i64 x.t] rfl rfl (newsAt _ x _ _ (by simp)) (oneF x) (by have := LEN.out; unfold maxLen; omega) (by have := LEN.out; omega) (by have := SZtok1.out; simp; omega) ?_; intro v2 w2 hown2 hgrow2 hnil2; clear hnil2 tok1))
            have HB2 := Lib.hid (((HB.out.alloc HB.out.size (.cells #[.string x.n, .string x.c, .int .i64 x.t] 76)).alloc (by have := HB.out.size; simp; omega) (.cells #[.string x.n, .string x.c, .int .i64 x.t] 76)).grown hgrow2 (by have := HB.out.size; simp; omega) (fun j e => (HOWN.out.lt j e).1))
            have HO2 := Lib.hid (own_snoc hown2)
            clear hgrow2 hown2
            go_roundw
            case rel => exact ⟨k + 1, by omega, by go_num, Lib.hid (putSt_mk HST.out HO2.out HB2.out)⟩
            case measure => simp [intOf]; omega
        · have hne' : neN f x = false := by simpa using hne
          have hnw : (x.n.toList == f.n.toList) = true := by have h := hne'; unfold neN at h; rw [isN_walk] at h; simpa using h
          have HNE := Lib.hid hne'
          clear hne hne'
          cases d
          · by_cases hle : leN f x = true
            · have HST := Lib.hid (HNX.out.trans (stepP_10 rfl hle HNE.out))
              unfold leN at hle
              have XB := Lib.hid (box_newT wr x 76)
              go_wp2_with (first | (at_builtin; have _t := tok1; refine wpList_append_own _ rfl _ _ 35 rfl w1.heap.size 76 i0 _ 3 40 Tryz.underlying35 I.out Z0.out Z1.out Z2.out rfl (by decide) _ _ _ rfl ((HOWN.out.alloc _).alloc _) ⟨_, 0, none⟩ 1 1 [.string f.n, .string f.c, .int .i64 f.t] rfl rfl (newsAt _ f _ _ (by simp)) (oneF f) (by have := LEN.out; unfold maxLen; omega) (by have := LEN.out; omega) (by have := SZtok1.out; simp; omega) ?_; intro v2 w2 hown2 hgrow2 hnil2; clear hnil2 tok1; have X2 := Lib.hid ((XB.out.kept (World.grownBy_alloc _ _ none) (by simp)).kept hgrow2 (ne_of_own HOWN.out (.inr (Nat.le_refl _)))); have F2 := Lib.hid (((BXR.out.kept (World.grownBy_alloc _ _ none) (by simp)).kept (World.grownBy_alloc _ _ none) (by simp)).kept hgrow2 (ne_of_own HOWN.out (.inl BL1.out))); have HB2 := Lib.hid (((HB.out.alloc HB.out.size (.cells #[.string x.n, .string x.c, .int .i64 x.t] 76)).alloc (by have := HB.out.size; simp; omega) (.cells #[.string f.n, .string f.c, .int .i64 f.t] 76)).grown hgrow2 (by have := HB.out.size; simp; omega) (fun j e => (HOWN.out.lt j e).1)); have HO2 := Lib.hid (own_snoc hown2); have SZtok2 := Lib.hid HB2.out.size; have LEN2 := Lib.hid (show (o ++ [f]).length ≤ 81 by have := LEN.out; simp; omega); have x0 := X2.out.1; have x1 := X2.out.2.1; have x2 := X2.out.2.2; have f0 := F2.out.1; clear hown2 hgrow2))
              go_roundw
              case rel => exact ⟨k + 1, by omega, by go_num, Lib.hid (putSt_mk HST.out HO2.out HB2.out)⟩
              case measure => simp [intOf]; omega
            · have hle' : leN f x = false := by simpa using hle
              have HST := Lib.hid (HNX.out.trans (stepP_00 (.inr hle') HNE.out))
              unfold leN at hle'
              clear hle
              go_wp2
              have HB2 := Lib.hid (HB.out.alloc HB.out.size (.cells #[.string x.n, .string x.c, .int .i64 x.t] 76))
              go_roundw
              case rel => exact ⟨k + 1, by omega, by go_num, Lib.hid (putSt_mk HST.out (HOWN.out.alloc _) HB2.out)⟩
              case measure => simp [intOf]; omega
          · have HST := Lib.hid (HNX.out.trans (stepP_00 (.inl rfl) HNE.out))
            go_wp2
            have HB2 := Lib.hid (HB.out.alloc HB.out.size (.cells #[.string x.n, .string x.c, .int .i64 x.t] 76))
            go_roundw
            case rel => exact ⟨k + 1, by omega, by go_num, Lib.hid (putSt_mk HST.out (HOWN.out.alloc _) HB2.out)⟩
            case measure => simp [intOf]; omega
      · have hkl : l.take k = l := List.take_of_length_le (by omega)
        rw [hkl] at hown hd LEN
        have HP := Lib.hid HREF.out
        unfold refP at HP
        have SZ' := Lib.hid HB.out.size
        have hb0 := BXR.out.1
        have hb1 := BXR.out.2.1
        have hb2 := BXR.out.2.2
        have hcp := (HB.out.cell (p := ⟨p, 0, none⟩) PL1.out).trans hc1
        have hfp := (HB.out.frozen (p := ⟨p, 0, none⟩) PL1.out).trans HFR1.out
        have HCP := Lib.hid hcp; have HFP := Lib.hid hfp
        have SIZES := Lib.hid (show ∀ g ∈ putL l f, g.n.size ≤ maxLen ∧ g.c.size ≤ maxLen from fun g hg => by
          rcases insL_mem.1 hg with rfl | hg
          · exact ⟨HN.out, HC.out⟩
          · exact HT.out.sizes g (List.mem_filter.1 hg).1)
        clear hst
        generalize hs : stP f l = st at hown hd LEN HP
        obtain ⟨o, d⟩ := st
        simp only at hown hd LEN
        subst hd
        clear hs
        cases d
        · have HP' := Lib.hid (show o ++ [f] = putL l f from HP.out)
          have HOWN := Lib.hid hown
          have tok1 : True := trivial
          have SZtok1 := SZ'
          clear hown
          have hdone : decide ((k : Int) < l.length) = false := decide_eq_false (by omega)
          go_wp2_with (first | (at_builtin; have _t := tok1; refine wpList_append_own _ rfl _ _ 35 rfl w1.heap.size 76 i0 _ 3 40 Tryz.underlying35 I.out Z0.out Z1.out Z2.out rfl (by decide) _ _ _ rfl (HOWN.out.alloc _) ⟨_, 0, none⟩ 1 1 [.string f.n, .string f.c, .int .i64 f.t] rfl rfl (newsAt _ f _ _ (by simp)) (oneF f) (by have := LEN.out; unfold maxLen; omega) (by have := LEN.out; omega) (by have := SZtok1.out; simp; omega) ?_; intro v2 w2 hown2 hgrow2 hnil2; clear hnil2 tok1; have HO2 := Lib.hid (own_snoc hown2); obtain ⟨a', c', rfl⟩ := slice_of_owns HO2.out; have gg := (World.grownBy_alloc wr (.cells #[.string f.n, .string f.c, .int .i64 f.t] 76) none); have CP2 := Lib.hid (hgrow2.cell (gg.cell HCP.out (by simp)) (ne_of_own HOWN.out (.inl PL1.out))); have FP2 := Lib.hid ((frozen_kept hgrow2 (by have := PL1.out; have := SZ'.out; simp; omega) (ne_of_own HOWN.out (.inl PL1.out))).trans ((frozen_kept gg (by have := PL1.out; have := SZ'.out; omega) (by simp)).trans HFP.out)); have HB2 := Lib.hid ((HB.out.alloc HB.out.size (.cells #[.string f.n, .string f.c, .int .i64 f.t] 76)).grown hgrow2 (by have := HB.out.size; simp; omega) (fun j e => (HOWN.out.lt j e).1)); have cp2 := CP2.out; have fp2 := FP2.out; clear hown2 hgrow2 gg))
          go_ret
          have e : (o ++ [f]).length = (putL l f).length := by rw [HP'.out]
          have ho3 := HO2.out
          rw [HP'.out] at ho3
          have gr := ((G1.out.trans (grown_of_below HB2.out)).but (some p)).trans (grown_set w2 p (.slice a' (putL l f).length c'))
          have rt := rtree_set ho3 PL1.out CP2.out FP2.out hlen.out SIZES.out
          rw [← e] at rt gr
          exact ⟨rfl, by simpa using rt, by simpa using gr⟩
        · have HP' := Lib.hid (show o = putL l f from HP.out)
          obtain ⟨a', c', rfl⟩ := slice_of_owns hown
          have HOWN := Lib.hid hown
          clear hown
          go_wp2
          go_ret
          have e := HP'.out
          subst e
          exact ⟨rfl, rtree_set HOWN.out PL1.out HCP.out HFP.out hlen.out SIZES.out, ((G1.out.trans (grown_of_below HB.out)).but (some p)).trans (grown_set wr p _)⟩
end Go.Proofs.YtbcemenfklgnkaaGreatDoor

/- The document's branch. -/
import Derived.Test.YtliefnjhobdphaaDoorRexX
namespace Go.Proofs.YtliefnjhobdphaaDoor
open Go.RowKit

theorem new_sevens (w : World) (v0 v1 v2 v3 v4 v5 v6 : Value) (t : TypeId) (m : Nat) (hm : m = w.heap.size) : ∀ j u, ([v0, v1, v2, v3, v4, v5, v6] : List Value)[j]? = some u → (w.alloc (.cells #[v0, v1, v2, v3, v4, v5, v6] t)).cell? ((⟨m, 0, none⟩ : Addr).add j) = some u := by
  subst hm
  exact World.news_of_block (cs := #[v0, v1, v2, v3, v4, v5, v6]) (t := t) (fr := (0, 0)) (heap_alloc_new w _)
theorem sevens_one (k i : Int) (a b c d : Int) (p : Option Addr) (m n : Nat) : ∀ u ∈ ([.int .i64 k, .int .i64 i, .int .u64 a, .int .u64 b, .int .u64 c, .int .u64 d, .slice p m n] : List Value), u.oneCell' = true := by
  intro u hu; simp at hu; rcases hu with rfl | rfl | rfl | rfl | rfl | rfl | rfl <;> rfl
theorem cells_plain (k i : Nat) (ks : List Nd) (kv : Value) : cells7 (.mk k i emp ks) kv = [.int .i64 k, .int .i64 i, .int .u64 0, .int .u64 0, .int .u64 0, .int .u64 0, kv] := by simp [cells7, wd_emp, Nd.kind, Nd.index, Nd.set]
theorem cells_set (s : BitVec 256) (ks : List Nd) (kv : Value) : cells7 (.mk 1 0 s ks) kv = [.int .i64 1, .int .i64 0, .int .u64 (wd s 0), .int .u64 (wd s 1), .int .u64 (wd s 2), .int .u64 (wd s 3), kv] := by simp [cells7, Nd.kind, Nd.index, Nd.set]
theorem five_cells {w : World} {b : Nat} {v0 v1 v2 v3 v4 : Value} {t : TypeId} (h : w.heap[b]? = some (.cells #[v0, v1, v2, v3, v4] t (0, 0))) :
    w.cell? ⟨b, 0, none⟩ = some v0 ∧ w.cell? ⟨b, 1, none⟩ = some v1 ∧ w.cell? ⟨b, 2, none⟩ = some v2 ∧ w.cell? ⟨b, 3, none⟩ = some v3 ∧ w.cell? ⟨b, 4, none⟩ = some v4 := by
  refine ⟨?_, ?_, ?_, ?_, ?_⟩ <;> (unfold World.cell?; rw [h]; rfl)

theorem flat7_len : ∀ L : List (Nd × Value), (flat7 L).length = L.length * 7 := by
  intro L
  induction L with
  | nil => rfl
  | cons y L ih =>
    have e : flat7 (y :: L) = cells7 y.1 y.2 ++ flat7 L := rfl
    have hl : (cells7 y.1 y.2).length = 7 := rfl
    rw [e, List.length_append, hl, ih, List.length_cons]; omega
theorem NRow.swap {base : Nat} {p : Nat → Prop} {T : TypeId} {L : List (Nd × Value)} {n n' : Nd} {kv kv' : Value} {rb cap : Nat} {w : World}
    (h : NRow base p T (L ++ [(n, kv)]) (.slice (some ⟨rb, 0, none⟩) (L.length + 1) cap) w) (hk : KidsAt w (fun b => p b ∧ b ≠ rb) kv' n'.kids) (v0 v1 v2 v3 v4 v5 v6 : Value) (hc : cells7 n' kv' = [v0, v1, v2, v3, v4, v5, v6]) :
    NRow base p T (L ++ [(n', kv')]) (.slice (some ⟨rb, 0, none⟩) (L.length + 1) cap) (((((((w.setCell ⟨rb, L.length * 7, none⟩ v0).setCell ⟨rb, L.length * 7 + 1, none⟩ v1).setCell ⟨rb, L.length * 7 + 2, none⟩ v2).setCell ⟨rb, L.length * 7 + 3, none⟩ v3).setCell ⟨rb, L.length * 7 + 4, none⟩ v4).setCell ⟨rb, L.length * 7 + 5, none⟩ v5).setCell ⟨rb, L.length * 7 + 6, none⟩ v6) ∧
    w.grownBy (((((((w.setCell ⟨rb, L.length * 7, none⟩ v0).setCell ⟨rb, L.length * 7 + 1, none⟩ v1).setCell ⟨rb, L.length * 7 + 2, none⟩ v2).setCell ⟨rb, L.length * 7 + 3, none⟩ v3).setCell ⟨rb, L.length * 7 + 4, none⟩ v4).setCell ⟨rb, L.length * 7 + 5, none⟩ v5).setCell ⟨rb, L.length * 7 + 6, none⟩ v6) (some rb) := by
  obtain ⟨hO, hK⟩ := h
  rw [show (L ++ [(n, kv)]).length = L.length + 1 by simp] at hO
  have s0 := hO.stored (L.length * 7) v0
  have s1 := s0.1.stored (L.length * 7 + 1) v1
  have s2 := s1.1.stored (L.length * 7 + 2) v2
  have s3 := s2.1.stored (L.length * 7 + 3) v3
  have s4 := s3.1.stored (L.length * 7 + 4) v4
  have s5 := s4.1.stored (L.length * 7 + 5) v5
  have s6 := s5.1.stored (L.length * 7 + 6) v6
  have g := s0.2.trans (s1.2.trans (s2.2.trans (s3.2.trans (s4.2.trans (s5.2.trans s6.2)))))
  refine ⟨⟨?_, fun x hx => ?_⟩, g⟩
  · have e : ((((((((flat7 (L ++ [(n, kv)])).set (L.length * 7) v0).set (L.length * 7 + 1) v1).set (L.length * 7 + 2) v2).set (L.length * 7 + 3) v3).set (L.length * 7 + 4) v4).set (L.length * 7 + 5) v5).set (L.length * 7 + 6) v6) = flat7 (L ++ [(n', kv')]) := by
      rw [flat7_snoc, flat7_snoc, hc]
      simp [flat7_len, cells7]
    rw [← e, show (L ++ [(n', kv')]).length = L.length + 1 by simp]
    exact s6.1
  · rcases List.mem_append.1 hx with hx | hx
    · exact (hK x (List.mem_append_left _ hx)).kept fun b _ _ hb hu => g.cell hu hb.2
    · simp at hx; subst hx
      exact (hk.weak (q := fun b => p b ∧ some b ≠ (Value.slice (some ⟨rb, 0, none⟩) (L.length + 1) cap).ownBlock) fun b _ hb => ⟨hb.1, fun e => hb.2 (by simpa [Value.ownBlock] using e)⟩).kept fun b _ _ hb hu => g.cell hu hb.2

theorem set7_alloc (w : World) (o : Obj) (rb k : Nat) (v0 v1 v2 v3 v4 v5 v6 : Value) (h : rb < w.heap.size) :
    ((((((((w.alloc o).setCell ⟨rb, k, none⟩ v0).setCell ⟨rb, k + 1, none⟩ v1).setCell ⟨rb, k + 2, none⟩ v2).setCell ⟨rb, k + 3, none⟩ v3).setCell ⟨rb, k + 4, none⟩ v4).setCell ⟨rb, k + 5, none⟩ v5).setCell ⟨rb, k + 6, none⟩ v6) =
    ((((((((w.setCell ⟨rb, k, none⟩ v0).setCell ⟨rb, k + 1, none⟩ v1).setCell ⟨rb, k + 2, none⟩ v2).setCell ⟨rb, k + 3, none⟩ v3).setCell ⟨rb, k + 4, none⟩ v4).setCell ⟨rb, k + 5, none⟩ v5).setCell ⟨rb, k + 6, none⟩ v6).alloc o) := by
  have st : ∀ (w : World) (j : Nat) (v : Value), rb < w.heap.size → (w.alloc o).setCell ⟨rb, j, none⟩ v = (w.setCell ⟨rb, j, none⟩ v).alloc o := fun w j v h => by
    first | exact World.setCell_alloc_past w o rb j v h | exact World.setCell_alloc_past o rb j v h | exact World.setCell_alloc_past (hn := h) ..
  rw [st _ _ _ h, st _ _ _ (by simpa using h), st _ _ _ (by simpa using h), st _ _ _ (by simpa using h), st _ _ _ (by simpa using h), st _ _ _ (by simpa using h), st _ _ _ (by simpa using h)]

set_option maxRecDepth 100000 in
set_option maxHeartbeats 4000000 in
theorem cBranchD (v : Value) (l : List Sg) (c : Nat) (w : World) (h : SgR w v l) (hl : l.length ≤ 60) (hc : c + opnC l ≤ 200)
    (hB : ∀ v m c w, SgR w v m → m.length < l.length → c + opnC m ≤ 200 → Calls Tryd.prog 22 #[v, .int .i64 c] w (DocOut w (resE m c))) :
    Calls Tryd.prog 43 #[v, .int .i64 c] w (DocOut w (resB l c)) := by
  have B3 := heap_alloc_new w (.cells #[.int .i64 0, .int .i64 0, .int .u64 0, .int .u64 0, .int .u64 0, .int .u64 0, .slice none 0 0] 32)
  have ga := World.grownBy_alloc w (.cells #[.int .i64 0, .int .i64 0, .int .u64 0, .int .u64 0, .int .u64 0, .int .u64 0, .slice none 0 0] 32) none
  have H := Lib.hid h
  obtain ⟨⟨sa, sc, rfl, ⟨-, hm⟩, -⟩, hcap⟩ := h
  have HM := Lib.hid hm
  have HCAP := Lib.hid (hcap _ _ _ rfl)
  have HB := Lib.hid hB
  have HC := Lib.hid hc; have HL := Lib.hid hl
  have B3 := Lib.hid B3; have G := Lib.hid ga
  clear hcap hB hc hm ga
  go_enter Tryd.func43, Tryd.ntmps43
  go_upto_region 1 with fail
  generalize w.alloc _ = w1 at B3 G ⊢
  obtain ⟨g, eg⟩ : ∃ g, g = w.heap.size := ⟨_, rfl⟩
  rw [← eg] at B3 ⊢
  have HR := Lib.hid (show w.heap.size ≤ g by omega)
  clear eg
  have gk := World.grownBy_alloc w1 (.cells #[] 32) none
  have hgl := (Array.getElem?_eq_some_iff.1 B3.out).1
  have W0 := Lib.hid (show EW w l c g 0 0 [] (.slice (some ⟨w1.heap.size, 0, none⟩) 0 0) (w1.alloc (.cells #[] 32)) from
    ⟨G.out.trans gk, heap_grown gk B3.out, ⟨by simpa [flat7] using World.ownsRow_made (base := g + 1) (e := 32) (size := 7) w1 #[] 0 (by omega) (by decide) rfl, by simp⟩, Nat.le_refl _⟩)
  have I0 := Lib.hid (BI.start l c)
  clear gk hgl G B3
  go_wp2
  generalize w1.alloc _ = w2 at W0 ⊢
  go_loopw [6, 7, 8, 9, 10, 11, 12, 13, 14] (fun kids i _ _ _ _ _ _ _ wr => ∃ (K : List (Nd × Value)) (j : Nat), i = .int .i64 j ∧ j ≤ l.length ∧ Hid (EW w l c g 0 j K kids wr) ∧ Hid (BI l c j (K.map Prod.fst))) (fun _ i _ _ _ _ _ _ _ _ => l.length - (intOf i).toNat)
  case atStart => exact ⟨[], 0, rfl, Nat.zero_le _, W0, I0⟩
  case round =>
    obtain ⟨K, i, rfl, hi, hW, hI⟩ := hrel
    clear W0 I0
    have hKn := hW.out.n
    obtain ⟨va, vc, rfl⟩ := nilOr hW.out.W.O
    by_cases hlt : i < l.length
    · obtain ⟨x, hx⟩ : ∃ x, l[i]? = some x := ⟨_, List.getElem?_eq_getElem hlt⟩
      obtain ⟨b, off, rfl, c0, c1, c2, c3, c4⟩ := (H.out.grown hW.out.G).at hx
      have HX := Lib.hid hx
      have ga := World.grownBy_alloc wr (.cells #[.int .u8 x.m, .int .u64 (wd x.s 0), .int .u64 (wd x.s 1), .int .u64 (wd x.s 2), .int .u64 (wd x.s 3)] 82) none
      have W1 := Lib.hid (hW.out.kept ga HR.out)
      have X1 := Lib.hid (heap_alloc_new wr (.cells #[.int .u8 x.m, .int .u64 (wd x.s 0), .int .u64 (wd x.s 1), .int .u64 (wd x.s 2), .int .u64 (wd x.s 3)] 82))
      clear ga hx hW
      go_upto_region 6 with fail
      generalize wr.heap.size = y at X1 ⊢
      generalize wr.alloc _ = w1 at W1 X1 ⊢
      clear c0 c1 c2 c3 c4
      obtain ⟨x0, x1, x2, x3, x4⟩ := five_cells X1.out
      by_cases m0 : x.m = 0
      · have e0 : ((x.m : Int) == 0) = true := by rw [m0]; rfl
        have HF := Lib.hid (hI.out.set HX.out m0)
        have gb := World.grownBy_alloc w1 (.cells #[.int .i64 1, .int .i64 0, .int .u64 (wd x.s 0), .int .u64 (wd x.s 1), .int .u64 (wd x.s 2), .int .u64 (wd x.s 3), .slice none 0 0] 32) none
        have W6 := Lib.hid (W1.out.kept gb HR.out)
        have HSZ := Lib.hid (show g + 1 ≤ (w1.alloc (.cells #[.int .i64 1, .int .i64 0, .int .u64 (wd x.s 0), .int .u64 (wd x.s 1), .int .u64 (wd x.s 2), .int .u64 (wd x.s 3), .slice none 0 0] 32)).heap.size from (Array.getElem?_eq_some_iff.1 W6.out.N).1)
        obtain ⟨iu, hiu, hu0, hu1, hu2⟩ := info_parts infoNd
        have IU := Lib.hid hiu; have ZU0 := Lib.hid hu0; have ZU1 := Lib.hid hu1; have ZU2 := Lib.hid hu2
        have hK61 : K.length ≤ 60 := by omega
        clear hiu hu0 hu1 hu2 gb
        go_wp2_with (at_builtin; refine wpList_append_lies _ rfl _ _ 30 rfl (g + 1) 32 iu _ 7 72 Tryd.underlying30 IU.out ZU0.out ZU1.out ZU2.out rfl (by decide) _ _ _ rfl W6.out.W.O ⟨_, 0, none⟩ 1 1 [.int .i64 1, .int .i64 0, .int .u64 (wd x.s 0), .int .u64 (wd x.s 1), .int .u64 (wd x.s 2), .int .u64 (wd x.s 3), .slice none 0 0] rfl rfl (new_sevens _ _ _ _ _ _ _ _ _ _ (by simp)) (sevens_one _ _ _ _ _ _ _ _ _) (by decide) (by unfold maxLen; omega) (by omega) HSZ.out _ rfl ?_; intro gg cap w7 hown2 hgrow2 hat hlt2)
        have hne : ∀ b, b ≤ g → some b ≠ (Value.slice va K.length vc).ownBlock := fun b hb e => by have := (W6.out.W.O.lt b e.symm).1; omega
        have HE := Lib.hid (show EW w l c g 0 (i + 1) (K ++ [(.mk 1 0 x.s [], .slice none 0 0)]) (.slice (some ⟨gg, 0, none⟩) (K.length + 1) cap) w7 from
          ⟨W6.out.G.andThen hgrow2 (fun b e => .inl (by have := (W6.out.W.O.lt b e).1; have := HR.out; omega)),
           (hgrow2.block g (Array.getElem?_eq_some_iff.1 W6.out.N).1 (hne g (Nat.le_refl _))).trans W6.out.N,
           W6.out.W.step (.empty none 0) (by rw [cells_set]; exact hown2) hgrow2 hat, by have := hKn; simp; omega⟩)
        clear hown2 hgrow2 hat hlt2 hne W6 x0 x1 x2 x3 x4
        go_roundw
        case rel => exact ⟨_, i + 1, by go_num, by omega, HE, by rw [List.map_append]; exact HF⟩
        case measure => simp [intOf]; omega
      have e0 : ((x.m : Int) == 0) = false := by simp; omega
      by_cases m94 : x.m = 94
      · have e94 : ((x.m : Int) == 94) = true := by rw [m94]; rfl
        have HF := Lib.hid (hI.out.hat HX.out m94)
        have gb := World.grownBy_alloc w1 (.cells #[.int .i64 8, .int .i64 0, .int .u64 0, .int .u64 0, .int .u64 0, .int .u64 0, .slice none 0 0] 32) none
        have W6 := Lib.hid (W1.out.kept gb HR.out)
        have HSZ := Lib.hid (show g + 1 ≤ (w1.alloc (.cells #[.int .i64 8, .int .i64 0, .int .u64 0, .int .u64 0, .int .u64 0, .int .u64 0, .slice none 0 0] 32)).heap.size from (Array.getElem?_eq_some_iff.1 W6.out.N).1)
        obtain ⟨iu, hiu, hu0, hu1, hu2⟩ := info_parts infoNd
        have IU := Lib.hid hiu; have ZU0 := Lib.hid hu0; have ZU1 := Lib.hid hu1; have ZU2 := Lib.hid hu2
        have hK61 : K.length ≤ 60 := by omega
        clear hiu hu0 hu1 hu2 gb
        go_wp2_with (at_builtin; refine wpList_append_lies _ rfl _ _ 30 rfl (g + 1) 32 iu _ 7 72 Tryd.underlying30 IU.out ZU0.out ZU1.out ZU2.out rfl (by decide) _ _ _ rfl W6.out.W.O ⟨_, 0, none⟩ 1 1 [.int .i64 8, .int .i64 0, .int .u64 0, .int .u64 0, .int .u64 0, .int .u64 0, .slice none 0 0] rfl rfl (new_sevens _ _ _ _ _ _ _ _ _ _ (by simp)) (sevens_one _ _ _ _ _ _ _ _ _) (by decide) (by unfold maxLen; omega) (by omega) HSZ.out _ rfl ?_; intro gg cap w7 hown2 hgrow2 hat hlt2)
        have hne : ∀ b, b ≤ g → some b ≠ (Value.slice va K.length vc).ownBlock := fun b hb e => by have := (W6.out.W.O.lt b e.symm).1; omega
        have HE := Lib.hid (show EW w l c g 0 (i + 1) (K ++ [(.mk 8 0 emp [], .slice none 0 0)]) (.slice (some ⟨gg, 0, none⟩) (K.length + 1) cap) w7 from
          ⟨W6.out.G.andThen hgrow2 (fun b e => .inl (by have := (W6.out.W.O.lt b e).1; have := HR.out; omega)),
           (hgrow2.block g (Array.getElem?_eq_some_iff.1 W6.out.N).1 (hne g (Nat.le_refl _))).trans W6.out.N,
           W6.out.W.step (.empty none 0) (by rw [cells_plain]; exact hown2) hgrow2 hat, by have := hKn; simp; omega⟩)
        clear hown2 hgrow2 hat hlt2 hne W6 x0 x1 x2 x3 x4
        go_roundw
        case rel => exact ⟨_, i + 1, by go_num, by omega, HE, by rw [List.map_append]; exact HF⟩
        case measure => simp [intOf]; omega
      have e94 : ((x.m : Int) == 94) = false := by simp; omega
      by_cases m36 : x.m = 36
      · have e36 : ((x.m : Int) == 36) = true := by rw [m36]; rfl
        have HF := Lib.hid (hI.out.dollar HX.out m36)
        have gb := World.grownBy_alloc w1 (.cells #[.int .i64 9, .int .i64 0, .int .u64 0, .int .u64 0, .int .u64 0, .int .u64 0, .slice none 0 0] 32) none
        have W6 := Lib.hid (W1.out.kept gb HR.out)
        have HSZ := Lib.hid (show g + 1 ≤ (w1.alloc (.cells #[.int .i64 9, .int .i64 0, .int .u64 0, .int .u64 0, .int .u64 0, .int .u64 0, .slice none 0 0] 32)).heap.size from (Array.getElem?_eq_some_iff.1 W6.out.N).1)
        obtain ⟨iu, hiu, hu0, hu1, hu2⟩ := info_parts infoNd
        have IU := Lib.hid hiu; have ZU0 := Lib.hid hu0; have ZU1 := Lib.hid hu1; have ZU2 := Lib.hid hu2
        have hK61 : K.length ≤ 60 := by omega
        clear hiu hu0 hu1 hu2 gb
        go_wp2_with (at_builtin; refine wpList_append_lies _ rfl _ _ 30 rfl (g + 1) 32 iu _ 7 72 Tryd.underlying30 IU.out ZU0.out ZU1.out ZU2.out rfl (by decide) _ _ _ rfl W6.out.W.O ⟨_, 0, none⟩ 1 1 [.int .i64 9, .int .i64 0, .int .u64 0, .int .u64 0, .int .u64 0, .int .u64 0, .slice none 0 0] rfl rfl (new_sevens _ _ _ _ _ _ _ _ _ _ (by simp)) (sevens_one _ _ _ _ _ _ _ _ _) (by decide) (by unfold maxLen; omega) (by omega) HSZ.out _ rfl ?_; intro gg cap w7 hown2 hgrow2 hat hlt2)
        have hne : ∀ b, b ≤ g → some b ≠ (Value.slice va K.length vc).ownBlock := fun b hb e => by have := (W6.out.W.O.lt b e.symm).1; omega
        have HE := Lib.hid (show EW w l c g 0 (i + 1) (K ++ [(.mk 9 0 emp [], .slice none 0 0)]) (.slice (some ⟨gg, 0, none⟩) (K.length + 1) cap) w7 from
          ⟨W6.out.G.andThen hgrow2 (fun b e => .inl (by have := (W6.out.W.O.lt b e).1; have := HR.out; omega)),
           (hgrow2.block g (Array.getElem?_eq_some_iff.1 W6.out.N).1 (hne g (Nat.le_refl _))).trans W6.out.N,
           W6.out.W.step (.empty none 0) (by rw [cells_plain]; exact hown2) hgrow2 hat, by have := hKn; simp; omega⟩)
        clear hown2 hgrow2 hat hlt2 hne W6 x0 x1 x2 x3 x4
        go_roundw
        case rel => exact ⟨_, i + 1, by go_num, by omega, HE, by rw [List.map_append]; exact HF⟩
        case measure => simp [intOf]; omega
      have e36 : ((x.m : Int) == 36) = false := by simp; omega
      by_cases mr : x.m = 42 ∨ x.m = 43 ∨ x.m = 63
      · obtain ⟨L, n, kv, rfl⟩ | rfl : (∃ L n kv, K = L ++ [(n, kv)]) ∨ K = [] := by
          rcases List.eq_nil_or_concat K with h | ⟨L, z, h⟩
          · exact .inr h
          · exact .inl ⟨L, z.1, z.2, by simpa using h⟩
        · obtain ⟨kk, hkk⟩ : ∃ k, (x.m = 42 ∧ k = 4) ∨ (x.m = 43 ∧ k = 5) ∨ (x.m = 63 ∧ k = 6) := by
            rcases mr with h | h | h
            · exact ⟨4, .inl ⟨h, rfl⟩⟩
            · exact ⟨5, .inr (.inl ⟨h, rfl⟩)⟩
            · exact ⟨6, .inr (.inr ⟨h, rfl⟩)⟩
          have HF := Lib.hid (BI.rep (by simpa using hI.out : BI l c i (L.map Prod.fst ++ [n])) HX.out hkk)
          obtain ⟨rb, cap, e, hrb, hrl⟩ := W1.out.W.O.form (by simp)
          cases e
          have hcell := W1.out.W.O.cells rfl
          have hget := flat7_get (L ++ [(n, kv)]) L.length n kv (by simp)
          have HK := Lib.hid (show KidsAt w1 (fun b => (w.heap.size ≤ b ∧ b ≠ g) ∧ b ≠ rb) kv n.kids from (W1.out.W.K (n, kv) (by simp)).weak fun b _ hb => ⟨hb.1, fun e => hb.2 (by rw [e]; rfl)⟩)
          obtain ⟨ka, kc, rfl⟩ := HK.out.shape
          have q0 : w1.cell? ⟨rb, L.length * 7, none⟩ = some (.int .i64 n.kind) := by simpa [Addr.add_lit] using hcell _ _ (hget 0 _ rfl)
          have q1 : w1.cell? ⟨rb, L.length * 7 + 1, none⟩ = some (.int .i64 n.index) := by simpa [Addr.add_lit] using hcell _ _ (hget 1 _ rfl)
          have q2 : w1.cell? ⟨rb, L.length * 7 + 2, none⟩ = some (.int .u64 (wd n.set 0)) := by simpa [Addr.add_lit] using hcell _ _ (hget 2 _ rfl)
          have q3 : w1.cell? ⟨rb, L.length * 7 + 3, none⟩ = some (.int .u64 (wd n.set 1)) := by simpa [Addr.add_lit] using hcell _ _ (hget 3 _ rfl)
          have q4 : w1.cell? ⟨rb, L.length * 7 + 4, none⟩ = some (.int .u64 (wd n.set 2)) := by simpa [Addr.add_lit] using hcell _ _ (hget 4 _ rfl)
          have q5 : w1.cell? ⟨rb, L.length * 7 + 5, none⟩ = some (.int .u64 (wd n.set 3)) := by simpa [Addr.add_lit] using hcell _ _ (hget 5 _ rfl)
          have q6 : w1.cell? ⟨rb, L.length * 7 + 6, none⟩ = some (.slice ka n.kids.length kc) := by simpa [Addr.add_lit] using hcell _ _ (hget 6 _ rfl)
          obtain ⟨cur, hcur⟩ : ∃ cur, w1.heap[rb]? = some (.cells cur 32 (0, 0)) := by
            rcases W1.out.W.O.2 with ⟨h, -⟩ | ⟨g', cap', cur, h, -, h2, -⟩
            · cases h
            · cases h; exact ⟨cur, h2⟩
          have gb := World.grownBy_alloc w1 (.cells #[.int .i64 n.kind, .int .i64 n.index, .int .u64 (wd n.set 0), .int .u64 (wd n.set 1), .int .u64 (wd n.set 2), .int .u64 (wd n.set 3), .slice ka n.kids.length kc] 32) none
          have fr := four_free hcur
          have fr6 := four_free (heap_grown gb hcur)
          have hLl : L.length + 1 ≤ 60 := by simp at hKn; omega
          rw [show (L ++ [(n, Value.slice ka n.kids.length kc)]).length = L.length + 1 by simp] at W1 ⊢
          have hl1 : IntKind.i64.wrap (((L.length + 1 : Nat) : Int) - 1) = (L.length : Nat) := by rw [show (((L.length + 1 : Nat) : Int) - 1) = (L.length : Nat) by omega]; exact IntWalk.i64_in _ ⟨by omega, by omega⟩
          clear hcell hget
          rcases hkk with ⟨hm, rfl⟩ | ⟨hm, rfl⟩ | ⟨hm, rfl⟩
          · have e42 : ((x.m : Int) == 42) = true := by rw [hm]; rfl
            have e43 : ((x.m : Int) == 43) = false := by rw [hm]; rfl
            have e63 : ((x.m : Int) == 63) = false := by rw [hm]; rfl
            go_wp2
            have W6 := Lib.hid (W1.out.kept gb HR.out)
            have K6 := Lib.hid (kids_one (p := fun b => (w.heap.size ≤ b ∧ b ≠ g) ∧ b ≠ rb) 32 HK.out (by have := W1.out.G.size; have := (Array.getElem?_eq_some_iff.1 W1.out.N).1; simp; omega) w1.heap.size rfl)
            obtain ⟨r1, r2⟩ := W6.out.W.swap (n' := .mk 4 0 emp [n]) (kv' := .slice (some ⟨w1.heap.size, 0, none⟩) 1 1) K6.out (.int .i64 4) (.int .i64 0) (.int .u64 0) (.int .u64 0) (.int .u64 0) (.int .u64 0) (.slice (some ⟨w1.heap.size, 0, none⟩) 1 1) (by rw [cells_plain]; rfl)
            rw [set7_alloc _ _ _ _ _ _ _ _ _ _ _ hrl] at r1 r2
            have HE := Lib.hid (show EW w l c g 0 (i + 1) (L ++ [(.mk 4 0 emp [n], .slice (some ⟨w1.heap.size, 0, none⟩) 1 1)]) (.slice (some ⟨rb, 0, none⟩) (L.length + 1) vc) _ from
              ⟨W6.out.G.andThen r2 (fun b e => .inl (by cases e; have := HR.out; omega)),
               (r2.block g (Array.getElem?_eq_some_iff.1 W6.out.N).1 (by simp only [ne_eq, Option.some.injEq]; omega)).trans W6.out.N,
               r1, by simp at hKn ⊢; omega⟩)
            clear r1 r2 W6 K6 gb q0 q1 q2 q3 q4 q5 q6 fr fr6 x0 x1 x2 x3 x4
            go_roundw
            case rel => exact ⟨_, i + 1, by go_num, by omega, HE, by rw [List.map_append]; exact HF⟩
            case measure => simp [intOf]; omega
          · have e42 : ((x.m : Int) == 42) = false := by rw [hm]; rfl
            have e43 : ((x.m : Int) == 43) = true := by rw [hm]; rfl
            have e63 : ((x.m : Int) == 63) = false := by rw [hm]; rfl
            go_wp2
            have W6 := Lib.hid (W1.out.kept gb HR.out)
            have K6 := Lib.hid (kids_one (p := fun b => (w.heap.size ≤ b ∧ b ≠ g) ∧ b ≠ rb) 32 HK.out (by have := W1.out.G.size; have := (Array.getElem?_eq_some_iff.1 W1.out.N).1; simp; omega) w1.heap.size rfl)
            obtain ⟨r1, r2⟩ := W6.out.W.swap (n' := .mk 5 0 emp [n]) (kv' := .slice (some ⟨w1.heap.size, 0, none⟩) 1 1) K6.out (.int .i64 5) (.int .i64 0) (.int .u64 0) (.int .u64 0) (.int .u64 0) (.int .u64 0) (.slice (some ⟨w1.heap.size, 0, none⟩) 1 1) (by rw [cells_plain]; rfl)
            rw [set7_alloc _ _ _ _ _ _ _ _ _ _ _ hrl] at r1 r2
            have HE := Lib.hid (show EW w l c g 0 (i + 1) (L ++ [(.mk 5 0 emp [n], .slice (some ⟨w1.heap.size, 0, none⟩) 1 1)]) (.slice (some ⟨rb, 0, none⟩) (L.length + 1) vc) _ from
              ⟨W6.out.G.andThen r2 (fun b e => .inl (by cases e; have := HR.out; omega)),
               (r2.block g (Array.getElem?_eq_some_iff.1 W6.out.N).1 (by simp only [ne_eq, Option.some.injEq]; omega)).trans W6.out.N,
               r1, by simp at hKn ⊢; omega⟩)
            clear r1 r2 W6 K6 gb q0 q1 q2 q3 q4 q5 q6 fr fr6 x0 x1 x2 x3 x4
            go_roundw
            case rel => exact ⟨_, i + 1, by go_num, by omega, HE, by rw [List.map_append]; exact HF⟩
            case measure => simp [intOf]; omega
          · have e42 : ((x.m : Int) == 42) = false := by rw [hm]; rfl
            have e43 : ((x.m : Int) == 43) = false := by rw [hm]; rfl
            have e63 : ((x.m : Int) == 63) = true := by rw [hm]; rfl
            go_wp2
            have W6 := Lib.hid (W1.out.kept gb HR.out)
            have K6 := Lib.hid (kids_one (p := fun b => (w.heap.size ≤ b ∧ b ≠ g) ∧ b ≠ rb) 32 HK.out (by have := W1.out.G.size; have := (Array.getElem?_eq_some_iff.1 W1.out.N).1; simp; omega) w1.heap.size rfl)
            obtain ⟨r1, r2⟩ := W6.out.W.swap (n' := .mk 6 0 emp [n]) (kv' := .slice (some ⟨w1.heap.size, 0, none⟩) 1 1) K6.out (.int .i64 6) (.int .i64 0) (.int .u64 0) (.int .u64 0) (.int .u64 0) (.int .u64 0) (.slice (some ⟨w1.heap.size, 0, none⟩) 1 1) (by rw [cells_plain]; rfl)
            rw [set7_alloc _ _ _ _ _ _ _ _ _ _ _ hrl] at r1 r2
            have HE := Lib.hid (show EW w l c g 0 (i + 1) (L ++ [(.mk 6 0 emp [n], .slice (some ⟨w1.heap.size, 0, none⟩) 1 1)]) (.slice (some ⟨rb, 0, none⟩) (L.length + 1) vc) _ from
              ⟨W6.out.G.andThen r2 (fun b e => .inl (by cases e; have := HR.out; omega)),
               (r2.block g (Array.getElem?_eq_some_iff.1 W6.out.N).1 (by simp only [ne_eq, Option.some.injEq]; omega)).trans W6.out.N,
               r1, by simp at hKn ⊢; omega⟩)
            clear r1 r2 W6 K6 gb q0 q1 q2 q3 q4 q5 q6 fr fr6 x0 x1 x2 x3 x4
            go_roundw
            case rel => exact ⟨_, i + 1, by go_num, by omega, HE, by rw [List.map_append]; exact HF⟩
            case measure => simp [intOf]; omega
        · have HF := Lib.hid (hI.out.rep0 HX.out mr)
          rcases mr with hm | hm | hm
          · have e42 : ((x.m : Int) == 42) = true := by rw [hm]; rfl
            have N1 := Lib.hid W1.out.N
            have G1 := Lib.hid W1.out.G
            obtain ⟨r0, r1, r2, r3, r4, r5, r6⟩ := seven_cells N1.out
            have fr := four_free N1.out
            go_wp2
            refine bodyPost_ret (v := .tuple #[ndV ndE (.slice none 0 0), .bool false]) (back_nd2 32 Tryd.underlying32 sizeNd Tryd.results43 rfl rfl (zero_seven N1.out)) rfl ?_
            exact ⟨grown7 G1.out HR.out, by rw [HF.out]⟩
          · have e42 : ((x.m : Int) == 42) = false := by rw [hm]; rfl
            have e43 : ((x.m : Int) == 43) = true := by rw [hm]; rfl
            have N1 := Lib.hid W1.out.N
            have G1 := Lib.hid W1.out.G
            obtain ⟨r0, r1, r2, r3, r4, r5, r6⟩ := seven_cells N1.out
            have fr := four_free N1.out
            go_wp2
            refine bodyPost_ret (v := .tuple #[ndV ndE (.slice none 0 0), .bool false]) (back_nd2 32 Tryd.underlying32 sizeNd Tryd.results43 rfl rfl (zero_seven N1.out)) rfl ?_
            exact ⟨grown7 G1.out HR.out, by rw [HF.out]⟩
          · have e42 : ((x.m : Int) == 42) = false := by rw [hm]; rfl
            have e43 : ((x.m : Int) == 43) = false := by rw [hm]; rfl
            have e63 : ((x.m : Int) == 63) = true := by rw [hm]; rfl
            have N1 := Lib.hid W1.out.N
            have G1 := Lib.hid W1.out.G
            obtain ⟨r0, r1, r2, r3, r4, r5, r6⟩ := seven_cells N1.out
            have fr := four_free N1.out
            go_wp2
            refine bodyPost_ret (v := .tuple #[ndV ndE (.slice none 0 0), .bool false]) (back_nd2 32 Tryd.underlying32 sizeNd Tryd.results43 rfl rfl (zero_seven N1.out)) rfl ?_
            exact ⟨grown7 G1.out HR.out, by rw [HF.out]⟩
      have e42 : ((x.m : Int) == 42) = false := by simp; omega
      have e43 : ((x.m : Int) == 43) = false := by simp; omega
      have e63 : ((x.m : Int) == 63) = false := by simp; omega
      by_cases m40 : x.m = 40
      · have e40 : ((x.m : Int) == 40) = true := by rw [m40]; rfl
        have CC := Lib.hid (cClosing _ l i (by omega) w1 ((H.out.grown W1.out.G).1))
        rcases clo_spec l _ i 0 (Nat.le_refl _) with ⟨he, -⟩ | ⟨en, he, -⟩
        · rw [he] at CC
          have HF := Lib.hid (hI.out.open_ HX.out m40 he)
          clear he
          have N1 := Lib.hid W1.out.N
          have G1 := Lib.hid W1.out.G
          obtain ⟨r0, r1, r2, r3, r4, r5, r6⟩ := seven_cells N1.out
          have fr := four_free N1.out
          go_wp2_with (go_at_call 56; (with_reducible refine CC.out.mono ?_); rintro e w9 ⟨rfl, rfl⟩)
          refine bodyPost_ret (v := .tuple #[ndV ndE (.slice none 0 0), .bool false]) (back_nd2 32 Tryd.underlying32 sizeNd Tryd.results43 rfl rfl (zero_seven N1.out)) rfl ?_
          exact ⟨grown7 G1.out HR.out, by rw [HF.out]⟩
        · rw [he] at CC
          obtain ⟨hie, hel, -⟩ := clo_parts HX.out m40 he
          obtain ⟨u, hu⟩ : ∃ u, u = opnC (l.take i) := ⟨_, rfl⟩
          have hopn : opnC (l.take (i + 1)) = u + 1 := by rw [opn_take HX.out, if_pos m40, hu]
          have hoe := opn_seg l (show i + 1 ≤ en by omega)
          have hle := opn_append (l.take en) (l.drop en)
          rw [List.take_append_drop] at hle
          have hu200 : c + u + 1 ≤ 200 := by have := HC.out; omega
          have CO := Lib.hid (show ∀ W, w1.grownBy W none → Calls Tryd.prog 23 #[.slice (subA (some ⟨b, off, none⟩) sc 0) i sc] W fun e w' => e = .returned (.int .i64 u) ∧ W.grownBy w' none from fun W gW => by
            rw [hu]; exact cOpened _ _ W (((H.out.grown W1.out.G).grown gW).subh (by omega)).1)
          have CE := Lib.hid (show ∀ W, w1.grownBy W none → Calls Tryd.prog 22 #[.slice (subA (some ⟨b, off, none⟩) sc (i + 1)) (en - (i + 1)) (sc - (i + 1)), .int .i64 ((c : Int) + u + 1)] W (DocOut W (resE (seg l (i + 1) en) (c + opnC (l.take i) + 1))) from fun W gW => by
            rw [← hu]
            exact HB.out _ (seg l (i + 1) en) (c + u + 1) W (((H.out.grown W1.out.G).grown gW).sub (by omega) (by omega)) (by rw [seg_len l (by omega)]; omega) (by have := HC.out; omega))
          have hs1 : ∀ w, (Instr.slice 56 (.slice (some ⟨b, off, none⟩) l.length sc) (some (.int .i64 ((i : Int) + 1))) (some (.int .i64 en)) none).run Tryd.prog w = .ok (.slice (subA (some ⟨b, off, none⟩) sc (i + 1)) (en - (i + 1)) (sc - (i + 1))) w := run_sub _ _ _ (i + 1) _ (by omega) (by have := HCAP.out; omega)
          have hs2 : ∀ w, (Instr.slice 56 (.slice (some ⟨b, off, none⟩) l.length sc) none (some (.int .i64 i)) none).run Tryd.prog w = .ok (.slice (subA (some ⟨b, off, none⟩) sc 0) i sc) w := run_subh _ _ _ _ (by have := HCAP.out; omega)
          have hw1 : IntKind.i64.wrap ((c : Int) + u) = (c : Int) + u := IntWalk.i64_in _ ⟨by omega, by omega⟩
          have hw2 : IntKind.i64.wrap ((c : Int) + u + 1) = (c : Int) + u + 1 := IntWalk.i64_in _ ⟨by omega, by omega⟩
          have HUE := Lib.hid hu
          clear hopn hoe hle hu
          cases hres : resE (seg l (i + 1) en) (c + opnC (l.take i) + 1) with
          | none =>
            have HF := Lib.hid (hI.out.ungroup HX.out m40 he hres)
            rw [hres] at CE
            clear hres he
            go_upto_region 32 with (first
              | (go_at_call 56; (with_reducible refine CC.out.mono ?_); rintro e w9 ⟨rfl, rfl⟩)
              | (go_at_call 23; (with_reducible refine (CO.out _ ?_).mono ?_); (exact World.grownBy.refl _ _); rintro e w3 ⟨rfl, g3⟩)
              | (go_at_call 22; (with_reducible refine (CE.out _ ?_).mono ?_); (exact g3); rintro e w4 ⟨g4, rfl⟩))
            have GW := Lib.hid ((g3.trans g4).trans (World.grownBy_alloc w4 (.cells #[.int .i64 ndE.kind, .int .i64 ndE.index, .int .u64 (wd ndE.set 0), .int .u64 (wd ndE.set 1), .int .u64 (wd ndE.set 2), .int .u64 (wd ndE.set 3), (.slice none 0 0)] 32) none))
            clear g3 g4
            generalize w4.heap.size = z
            generalize w4.alloc _ = w5 at GW ⊢
            have N1 := Lib.hid (heap_grown GW.out W1.out.N)
            have G1 := Lib.hid (W1.out.G.trans GW.out)
            clear GW CO CE CC hs1 hs2 hw1 hw2
            obtain ⟨r0, r1, r2, r3, r4, r5, r6⟩ := seven_cells N1.out
            have fr := four_free N1.out
            go_wp2
            refine bodyPost_ret (v := .tuple #[ndV ndE (.slice none 0 0), .bool false]) (back_nd2 32 Tryd.underlying32 sizeNd Tryd.results43 rfl rfl (zero_seven N1.out)) rfl ?_
            exact ⟨grown7 G1.out HR.out, by rw [HF.out]⟩
          | some n =>
            have HF := Lib.hid (hI.out.group HX.out m40 he hres)
            rw [← HUE.out] at HF
            rw [hres] at CE
            clear hres he
            go_upto_region 32 with (first
              | (go_at_call 56; (with_reducible refine CC.out.mono ?_); rintro e w9 ⟨rfl, rfl⟩)
              | (go_at_call 23; (with_reducible refine (CO.out _ ?_).mono ?_); (exact World.grownBy.refl _ _); rintro e w3 ⟨rfl, g3⟩)
              | (go_at_call 22; (with_reducible refine (CE.out _ ?_).mono ?_); (exact g3); rintro e w4 ⟨g4, na, nm, nk, rfl, hk⟩))
            have GW := Lib.hid ((g3.trans g4).trans (World.grownBy_alloc w4 (.cells #[.int .i64 n.kind, .int .i64 n.index, .int .u64 (wd n.set 0), .int .u64 (wd n.set 1), .int .u64 (wd n.set 2), .int .u64 (wd n.set 3), (.slice na nm nk)] 32) none))
            have XB := Lib.hid (heap_alloc_new w4 (.cells #[.int .i64 n.kind, .int .i64 n.index, .int .u64 (wd n.set 0), .int .u64 (wd n.set 1), .int .u64 (wd n.set 2), .int .u64 (wd n.set 3), (.slice na nm nk)] 32))
            have XK := Lib.hid ((hk.weak (q := fun b => w1.heap.size ≤ b) fun b hb1 hb => by have := g3.size; omega).grown (World.grownBy_alloc w4 (.cells #[.int .i64 n.kind, .int .i64 n.index, .int .u64 (wd n.set 0), .int .u64 (wd n.set 1), .int .u64 (wd n.set 2), .int .u64 (wd n.set 3), (.slice na nm nk)] 32) none))
            clear g3 g4 hk
            generalize w4.heap.size = z at XB ⊢
            generalize w4.alloc _ = w5 at GW XB XK ⊢
            have W5 := Lib.hid (W1.out.kept GW.out HR.out)
            have ga := World.grownBy_alloc w5 (.cells #[.int .i64 n.kind, .int .i64 n.index, .int .u64 (wd n.set 0), .int .u64 (wd n.set 1), .int .u64 (wd n.set 2), .int .u64 (wd n.set 3), (.slice na nm nk)] 32) none
            have K6 := Lib.hid (kids_one (p := fun b => (w.heap.size ≤ b ∧ b ≠ g) ∧ some b ≠ (Value.slice va K.length vc).ownBlock) 32 (XK.out.weak fun b _ hb => by
                have h3 := W1.out.G.size
                have h4 := (Array.getElem?_eq_some_iff.1 W1.out.N).1
                refine ⟨by omega, fun e => ?_⟩
                have := (W1.out.W.O.lt b e.symm).2
                omega) (by
                have h3 := W5.out.G.size
                have h4 := (Array.getElem?_eq_some_iff.1 W5.out.N).1
                refine ⟨by omega, fun e => ?_⟩
                have := (W5.out.W.O.lt _ e.symm).2
                omega) w5.heap.size rfl)
            have gb := World.grownBy_alloc (w5.alloc (.cells #[.int .i64 n.kind, .int .i64 n.index, .int .u64 (wd n.set 0), .int .u64 (wd n.set 1), .int .u64 (wd n.set 2), .int .u64 (wd n.set 3), (.slice na nm nk)] 32)) (.cells #[.int .i64 7, .int .i64 ((c : Int) + u + 1), .int .u64 0, .int .u64 0, .int .u64 0, .int .u64 0, .slice (some ⟨w5.heap.size, 0, none⟩) 1 1] 32) none
            have W7 := Lib.hid ((W5.out.kept ga HR.out).kept gb HR.out)
            have K7 := Lib.hid (K6.out.grown gb)
            have HSZ := Lib.hid (Array.getElem?_eq_some_iff.1 W7.out.N).1
            obtain ⟨n0, n1, n2, n3, n4, n5, n6⟩ := seven_cells XB.out
            obtain ⟨iu, hiu, hu0, hu1, hu2⟩ := info_parts infoNd
            have IU := Lib.hid hiu; have ZU0 := Lib.hid hu0; have ZU1 := Lib.hid hu1; have ZU2 := Lib.hid hu2
            have hK61 : K.length ≤ 60 := by omega
            clear hiu hu0 hu1 hu2 gb ga CO CE CC hs1 hs2 hw1 hw2 K6 XK x0 x1 x2 x3 x4
            go_wp2_with (at_builtin; refine wpList_append_lies _ rfl _ _ 30 rfl (g + 1) 32 iu _ 7 72 Tryd.underlying30 IU.out ZU0.out ZU1.out ZU2.out rfl (by decide) _ _ _ rfl W7.out.W.O ⟨_, 0, none⟩ 1 1 [.int .i64 7, .int .i64 ((c : Int) + u + 1), .int .u64 0, .int .u64 0, .int .u64 0, .int .u64 0, .slice (some ⟨w5.heap.size, 0, none⟩) 1 1] rfl rfl (new_sevens _ _ _ _ _ _ _ _ _ _ (by simp)) (sevens_one _ _ _ _ _ _ _ _ _) (by decide) (by unfold maxLen; omega) (by omega) HSZ.out _ rfl ?_; intro gg cap w7 hown2 hgrow2 hat hlt2)
            have hne : ∀ b, b ≤ g → some b ≠ (Value.slice va K.length vc).ownBlock := fun b hb e => by have := (W7.out.W.O.lt b e.symm).1; omega
            have HE := Lib.hid (show EW w l c g 0 (en + 1) (K ++ [(.mk 7 (c + u + 1) emp [n], .slice (some ⟨w5.heap.size, 0, none⟩) 1 1)]) (.slice (some ⟨gg, 0, none⟩) (K.length + 1) cap) w7 from
              ⟨W7.out.G.andThen hgrow2 (fun b e => .inl (by have := (W7.out.W.O.lt b e).1; have := HR.out; omega)),
               (hgrow2.block g (Array.getElem?_eq_some_iff.1 W7.out.N).1 (hne g (Nat.le_refl _))).trans W7.out.N,
               W7.out.W.step K7.out (by rw [cells_plain]; exact hown2) hgrow2 hat, by have := hKn; simp; omega⟩)
            clear hown2 hgrow2 hat hlt2 hne W7 K7 W5 n0 n1 n2 n3 n4 n5 n6
            go_roundw
            case rel => exact ⟨_, en + 1, by go_num, by omega, HE, by rw [List.map_append]; exact HF⟩
            case measure => simp [intOf]; omega
      have e40 : ((x.m : Int) == 40) = false := by simp; omega
      have HF := Lib.hid (show resB l c = none from if hbar : x.m = 124 then hI.out.bar HX.out hbar else hI.out.bad HX.out ⟨m0, m94, m36, fun e => mr (.inl e), fun e => mr (.inr (.inl e)), fun e => mr (.inr (.inr e)), m40, hbar⟩)
      have N1 := Lib.hid W1.out.N
      have G1 := Lib.hid W1.out.G
      obtain ⟨r0, r1, r2, r3, r4, r5, r6⟩ := seven_cells N1.out
      have fr := four_free N1.out
      go_wp2
      refine bodyPost_ret (v := .tuple #[ndV ndE (.slice none 0 0), .bool false]) (back_nd2 32 Tryd.underlying32 sizeNd Tryd.results43 rfl rfl (zero_seven N1.out)) rfl ?_
      exact ⟨grown7 G1.out HR.out, by rw [HF.out]⟩
    · obtain rfl : i = l.length := by omega
      have HD := Lib.hid (hI.out.end)
      have KK := Lib.hid (hW.out.W.kids (fun b hb => by have := HR.out; omega))
      have C1 := Lib.hid (show ∀ W, wr.grownBy W none → Calls Tryd.prog 44 #[.int .i64 2, .slice va K.length vc] W fun e w' => (∃ kw, e = .returned (ndV (catN (K.map Prod.fst)) kw) ∧ KidsAt w' (fun b => w.heap.size ≤ b ∧ b ≠ g) kw (catN (K.map Prod.fst)).kids) ∧ W.grownBy w' none from fun W gW => cOne 2 _ _ _ W (KK.out.grown gW))
      have ND := Lib.hid hW.out.N
      have GD := Lib.hid hW.out.G
      clear hW
      go_wp2_with fail
      refine (C1.out _ (World.grownBy.refl _ _)).mono ?_
      rintro e w3 ⟨⟨kw, rfl, hk⟩, g3⟩
      obtain ⟨a3, c3, rfl⟩ := hk.shape
      have N5 := Lib.hid (heap_grown g3 ND.out)
      have G5 := Lib.hid (GD.out.trans g3)
      have K5 := Lib.hid hk
      clear g3 hk C1 KK ND GD
      generalize catN (K.map Prod.fst) = n at K5 HD ⊢
      obtain ⟨r0, r1, r2, r3, r4, r5, r6⟩ := seven_cells N5.out
      have fr := four_free N5.out
      go_wp2
      refine bodyPost_ret (v := .tuple #[ndV n (.slice a3 n.kids.length c3), .bool true]) (back_nd2 32 Tryd.underlying32 sizeNd Tryd.results43 rfl rfl (set_seven N5.out _ _ _ _ _ _ _)) rfl ?_
      rw [HD.out]
      exact ⟨grown7 G5.out HR.out, _, _, _, rfl, (K5.out.seven _ _ _ _ _ _ _ fun b hb => hb.2).weak fun b _ hb => hb.1⟩
end Go.Proofs.YtliefnjhobdphaaDoor

/- Rows of nodes that grow; the reader: a row of parts. -/
import Derived.Test.YtlkjejmmoalliaaGreatDoorRexP
namespace Go.Proofs.YtlkjejmmoalliaaGreatDoor
open Go.RowKit

def flat7 (L : List (Nd × Value)) : List Value := L.flatMap fun p => cells7 p.1 p.2
theorem flat7_snoc (L : List (Nd × Value)) (n : Nd) (kv : Value) : flat7 (L ++ [(n, kv)]) = flat7 L ++ cells7 n kv := by unfold flat7; simp
theorem flat7_get : ∀ (L : List (Nd × Value)) (k : Nat) (n : Nd) (kv : Value), L[k]? = some (n, kv) → ∀ j u, (cells7 n kv)[j]? = some u → (flat7 L)[k * 7 + j]? = some u := by
  intro L
  induction L with
  | nil => intro k n kv hx; simp at hx
  | cons y L ih =>
    intro k n kv hx j u hu
    have e : flat7 (y :: L) = cells7 y.1 y.2 ++ flat7 L := rfl
    have hl : (cells7 y.1 y.2).length = 7 := rfl
    have hj : j < 7 := by
      have := (List.getElem?_eq_some_iff.1 hu).1
      exact this
    rw [e, List.getElem?_append]
    cases k with
    | zero =>
      simp at hx; subst hx
      rw [if_pos (by rw [hl]; omega)]
      simpa using hu
    | succ k =>
      rw [if_neg (by rw [hl]; omega), hl, show (k + 1) * 7 + j - 7 = k * 7 + j by omega]
      exact ih k n kv (by simpa using hx) j u hu
theorem new_seven (w : World) (n : Nd) (kv : Value) (t : TypeId) (m : Nat) (hm : m = w.heap.size) : ∀ j u, (cells7 n kv)[j]? = some u → (w.alloc (.cells #[.int .i64 n.kind, .int .i64 n.index, .int .u64 (wd n.set 0), .int .u64 (wd n.set 1), .int .u64 (wd n.set 2), .int .u64 (wd n.set 3), kv] t)).cell? ((⟨m, 0, none⟩ : Addr).add j) = some u := by
  subst hm
  exact World.news_of_block (cs := #[.int .i64 n.kind, .int .i64 n.index, .int .u64 (wd n.set 0), .int .u64 (wd n.set 1), .int .u64 (wd n.set 2), .int .u64 (wd n.set 3), kv]) (t := t) (fr := (0, 0)) (heap_alloc_new w _)
theorem seven_one (n : Nd) (a : Option Addr) (m k : Nat) : ∀ u ∈ cells7 n (.slice a m k), u.oneCell' = true := by
  intro u hu; unfold cells7 at hu; simp at hu; rcases hu with rfl | rfl | rfl | rfl | rfl | rfl | rfl <;> rfl
/-- a row of nodes of the call's own, whose kids lie in blocks that p lets, apart from the row -/
structure NRow (base : Nat) (p : Nat → Prop) (T : TypeId) (L : List (Nd × Value)) (v : Value) (w : World) : Prop where
  O : w.ownsRow base T 7 v L.length (flat7 L)
  K : ∀ x ∈ L, KidsAt w (fun b => p b ∧ some b ≠ v.ownBlock) x.2 x.1.kids
theorem NRow.start (base : Nat) (p : Nat → Prop) (T : TypeId) (w : World) : NRow base p T [] (.slice none 0 0) w := ⟨World.ownsRow_nil _ _ _ _, by simp⟩
theorem NRow.kept {base : Nat} {p : Nat → Prop} {T : TypeId} {L : List (Nd × Value)} {v : Value} {w w' : World} {row : Option Nat} (h : NRow base p T L v w) (g : w.grownBy w' row) (hp : ∀ b, p b → some b ≠ row) (hb : ∀ b, base ≤ b → p b) : NRow base p T L v w' := by
  refine ⟨h.O.kept g ?_, fun x hx => (h.K x hx).kept fun b _ _ hb hu => g.cell hu (hp b hb.1)⟩
  cases ho : v.ownBlock with
  | none => exact .inl rfl
  | some b => exact .inr (hp b (hb b (h.O.lt b ho).1))
theorem NRow.step {base : Nat} {p : Nat → Prop} {T : TypeId} {L : List (Nd × Value)} {v kv : Value} {n : Nd} {W w4 : World} {gg cap : Nat} (h : NRow base p T L v W)
    (hk : KidsAt W (fun b => p b ∧ some b ≠ v.ownBlock) kv n.kids) (o : w4.ownsRow base T 7 (.slice (some ⟨gg, 0, none⟩) (L.length + 1) cap) (L.length + 1) (flat7 L ++ cells7 n kv))
    (g : W.grownBy w4 v.ownBlock) (hat : v.ownBlock = some gg ∨ gg = W.heap.size) : NRow base p T (L ++ [(n, kv)]) (.slice (some ⟨gg, 0, none⟩) (L.length + 1) cap) w4 := by
  have one : ∀ (kv : Value) (l : List Nd), KidsAt W (fun b => p b ∧ some b ≠ v.ownBlock) kv l → KidsAt w4 (fun b => p b ∧ some b ≠ (Value.slice (some ⟨gg, 0, none⟩) (L.length + 1) cap).ownBlock) kv l := fun kv l hk => by
    refine ((hk.weak (q := fun b => p b ∧ some b ≠ v.ownBlock ∧ b < W.heap.size) fun b hb hp => ⟨hp.1, hp.2, hb⟩).kept fun b _ _ hb hu => g.cell hu hb.2.1).weak fun b _ hb => ⟨hb.1, ?_⟩
    simp only [Value.ownBlock, ne_eq, Option.some.injEq]
    rintro rfl
    rcases hat with e | e
    · exact hb.2.1 e.symm
    · have := hb.2.2; omega
  refine ⟨by rw [flat7_snoc, List.length_append]; exact o, fun x hx => ?_⟩
  rcases List.mem_append.1 hx with hx | hx
  · exact one _ _ (h.K x hx)
  · simp at hx; subst hx; exact one _ _ hk
theorem NRow.kids {base : Nat} {p : Nat → Prop} {T : TypeId} {L : List (Nd × Value)} {v : Value} {w : World} (h : NRow base p T L v w) (hb : ∀ b, base ≤ b → p b) : KidsAt w p v (L.map Prod.fst) := by
  rcases h.O.2 with ⟨rfl, h0⟩ | ⟨g, cap, cur, rfl, hbg, hg, h4, _⟩
  · have : L = [] := List.eq_nil_of_length_eq_zero h0
    subst this
    exact .empty none 0
  · by_cases hL : L = []
    · subst hL; exact .empty _ cap
    · have hget : ∀ k n, (L.map Prod.fst)[k]? = some n → ∃ kv, L[k]? = some (n, kv) := fun k n hn => by
        rw [List.getElem?_map] at hn
        cases hx : L[k]? with
        | none => rw [hx] at hn; cases hn
        | some x => rw [hx] at hn; obtain ⟨n', kv⟩ := x; simp at hn; subst hn; exact ⟨kv, hx⟩
      have := KidsAt.items (w := w) (p := p) g 0 cap (L.map Prod.fst) (fun k => match L[k]? with | some x => x.2 | none => .nilIface) (by simpa using hL) (hb g hbg) (by simpa using h4) ?_ ?_
      · simpa using this
      · intro k n hn j u hu
        obtain ⟨kv, hx⟩ := hget k n hn
        rw [hx] at hu
        have := h.O.cells (g := g) rfl _ _ (flat7_get L k n kv hx j u hu)
        rw [Addr.add_lit] at this
        rw [show 0 + k * 7 + j = 0 + (k * 7 + j) by omega]
        exact this
      · intro k n hn
        obtain ⟨kv, hx⟩ := hget k n hn
        rw [hx]
        exact (h.K _ (List.mem_of_getElem? hx)).weak fun b _ hb => hb.1
theorem infoNd28 : (Tryz.prog.info? 28).map (fun i => (i.zero, i.size, i.bytes)) = some (some (.agg #[.int .i64 0, .int .i64 0, .int .u64 0, .int .u64 0, .int .u64 0, .int .u64 0, .slice none 0 0]), 7, 72) := by kernel_rfl

/-- what the parts' loop knows -/
structure RW (w0 : World) (r : Nat) (s : ByteArray) (g : Nat) (I : List Nd → Nat → Nat → Prop) (L : List (Nd × Value)) (v : Value) (j c : Nat) (wr : World) : Prop where
  G : w0.grownBy wr (some r)
  R : Rd wr r s j c
  N : wr.heap[g]? = some (.cells #[.int .i64 0, .int .i64 0, .int .u64 0, .int .u64 0, .int .u64 0, .int .u64 0, .slice none 0 0] 28 (0, 0))
  W : NRow (g + 1) (fun b => w0.heap.size ≤ b ∧ b ≠ g ∧ b ≠ r) 28 L v wr
  E : RepEnv wr
  I : I (L.map Prod.fst) j c
theorem nilOr {w : World} {base s n : Nat} {e : TypeId} {v : Value} {xs : List Value} (h : w.ownsRow base e s v n xs) : ∃ a cap, v = .slice a n cap := owns_shape h

theorem Rd.row {w w' : World} {r : Nat} {s : ByteArray} {i c : Nat} {row : Option Nat} (h : Rd w r s i c) (g : w.grownBy w' row) (hr : some r ≠ row) : Rd w' r s i c :=
  ⟨(g.block r h.lt hr).trans h.B, h.hi, h.hs, h.hc⟩
/-- a call that asks whether there are more parts -/
def MoreOut (r : Nat) (s : ByteArray) (w : World) (M D : Nat → Nat → Prop) (e : Ending) (w' : World) : Prop :=
  w.grownBy w' (some r) ∧ ((e = .returned (.bool true) ∧ ∃ j c, Rd w' r s j c ∧ M j c) ∨ (e = .returned (.bool false) ∧ ∃ j c, Rd w' r s j c ∧ D j c))
/-- what a part means to the row -/
def PartP (B : Prop) (I : Nd → Nat → Nat → Prop) : Option (Nd × Nat × Nat) → Prop
  | none => B
  | some (n, j, c) => I n j c

set_option maxRecDepth 100000 in
set_option maxHeartbeats 4000000 in
theorem cRow (m pf mf : Nat) (fp cp fm cm P0 : Array Value) (A : Nat → Array Value) (r : Nat) (s : ByteArray) (i c : Nat) (w : World) (hP0 : fp ++ cp = P0) (hA : ∀ k : Nat, fm.push (.int .i64 k) ++ cm = A k)
    (hpe : ∀ args w, (callFunc pf args).run Tryz.prog w = .ok (.enter pf args) w) (hme : ∀ args w, (callFunc mf args).run Tryz.prog w = .ok (.enter mf args) w)
    (B : Prop) (I M D : List Nd → Nat → Nat → Prop) (h : Rd w r s i c) (hE : RepEnv w) (hr : r ≠ 18) (h0 : I [] i c) (hlen : ∀ L j c, I L j c → L.length ≤ j + 1)
    (hmore : ∀ L j c wr, I L j c → Rd wr r s j c → RepEnv wr → w.grownBy wr (some r) → Calls Tryz.prog mf (A L.length) wr (MoreOut r s wr (M L) (D L)))
    (hpart : ∀ L j c wr, M L j c → Rd wr r s j c → RepEnv wr → w.grownBy wr (some r) → Calls Tryz.prog pf P0 wr (NdOut r s wr (PartP B fun n j c => I (L ++ [n]) j c))) :
    Calls Tryz.prog 22 #[.int .i64 m, .func (.func pf) fp cp, .func (.func mf) fm cm] w (NdOut r s w (PartP B fun n j c => ∃ L, n = oneN m L ∧ D L j c)) := by
  have hlt := h.lt
  have hel := hE.lt
  have B3 := heap_alloc_new w (.cells #[.int .i64 0, .int .i64 0, .int .u64 0, .int .u64 0, .int .u64 0, .int .u64 0, .slice none 0 0] 28)
  have ga := World.grownBy_alloc w (.cells #[.int .i64 0, .int .i64 0, .int .u64 0, .int .u64 0, .int .u64 0, .int .u64 0, .slice none 0 0] 28) none
  have HRR := Lib.hid (show some 18 ≠ some r by simp only [ne_eq, Option.some.injEq]; exact fun e => hr e.symm)
  have HM := Lib.hid (show ∀ L j c wr, I L j c → Rd wr r s j c → RepEnv wr → w.grownBy wr (some r) → Calls Tryz.prog mf (fm.push (.int .i64 (L.length : Nat)) ++ cm) wr (MoreOut r s wr (M L) (D L)) from fun L j c wr h1 h2 h3 h4 => by rw [hA]; exact hmore L j c wr h1 h2 h3 h4)
  have HP := Lib.hid (show ∀ L j c wr, M L j c → Rd wr r s j c → RepEnv wr → w.grownBy wr (some r) → Calls Tryz.prog pf (fp ++ cp) wr (NdOut r s wr (PartP B fun n j c => I (L ++ [n]) j c)) from fun L j c wr h1 h2 h3 h4 => by rw [hP0]; exact hpart L j c wr h1 h2 h3 h4)
  have HL := Lib.hid hlen
  have W0 := Lib.hid (show RW w r s w.heap.size I [] (.slice none 0 0) i c (w.alloc (.cells #[.int .i64 0, .int .i64 0, .int .u64 0, .int .u64 0, .int .u64 0, .int .u64 0, .slice none 0 0] 28)) from
    ⟨grown_wide ga, h.kept ga, B3, NRow.start _ _ _ _, hE.kept ga (by simp), h0⟩)
  have HPE := Lib.hid hpe; have HME := Lib.hid hme
  clear hmore hpart hlen hA hP0 ga B3 h hE h0 hr hpe hme
  go_enter Tryz.func22, Tryz.ntmps22
  have HPE' := HPE.out; have HME' := HME.out
  go_wp2
  generalize w.alloc _ = w1 at W0 ⊢
  obtain ⟨g, eg⟩ : ∃ g, g = w.heap.size := ⟨_, rfl⟩
  rw [← eg] at W0 ⊢
  have HG := Lib.hid (show w.heap.size ≤ g ∧ g ≠ r ∧ r < g ∧ 18 < g by omega)
  clear eg hlt hel
  go_loopw [8, 9, 10] (fun v _ _ wr => ∃ (L : List (Nd × Value)) (j c : Nat), Hid (RW w r s g I L v j c wr)) (fun v _ _ _ => 100 - (match v with | .slice _ n _ => n | _ => 0))
  case atStart => exact ⟨[], i, c, W0⟩
  case round =>
    obtain ⟨L, j, c, hW⟩ := hrel
    clear W0
    obtain ⟨va, vc, rfl⟩ := nilOr hW.out.W.O
    have hLl := hW.out.I
    have hL61 : L.length ≤ 61 := by have h1 := HL.out _ _ _ hLl; have h2 := hW.out.R.hi; have h3 := hW.out.R.hs; simp at h1; omega
    clear hLl
    have CM := Lib.hid (show Calls Tryz.prog mf (fm.push (.int .i64 (L.length : Nat)) ++ cm) wr (MoreOut r s wr (M (L.map Prod.fst)) (D (L.map Prod.fst))) by
      have := HM.out _ _ _ wr hW.out.I hW.out.R hW.out.E hW.out.G; simpa using this)
    go_wp2_with fail
    refine CM.out.mono ?_
    rintro e w2 ⟨g2, ⟨rfl, j2, c2, r2, hm⟩ | ⟨rfl, j2, c2, r2, hd⟩⟩
    · have CP := Lib.hid (HP.out _ _ _ w2 hm r2 (hW.out.E.kept g2 HRR.out) (hW.out.G.trans g2))
      have N2 := Lib.hid (heap_row g2 HG.out.2.1 hW.out.N)
      have V2 := Lib.hid (hW.out.W.kept g2 (fun b hb => by simp only [ne_eq, Option.some.injEq]; exact hb.2.2) (fun b hb => by have := HG.out; omega))
      have G2 := Lib.hid (hW.out.G.trans g2)
      have E2 := Lib.hid (hW.out.E.kept g2 HRR.out)
      have R2 := Lib.hid r2
      clear g2 hm r2 CM hW
      go_wp2_with fail
      refine CP.out.mono ?_
      rintro e w3 ⟨g3, ⟨n, a, k, kc, rfl, hp⟩ | ⟨n, a, k, kc, j3, c3, rfl, hk, r3, hp⟩⟩
      · have ga := World.grownBy_alloc w3 (.cells #[.int .i64 n.kind, .int .i64 n.index, .int .u64 (wd n.set 0), .int .u64 (wd n.set 1), .int .u64 (wd n.set 2), .int .u64 (wd n.set 3), .slice a k kc] 28) none
        have B5 := Lib.hid (heap_grown ga (heap_row g3 HG.out.2.1 N2.out))
        have G5 := Lib.hid (grown_then (G2.out.trans g3) ga)
        have HPn := Lib.hid (show PartP B (fun n j c => ∃ L, n = oneN m L ∧ D L j c) none from hp)
        clear ga g3 hp
        obtain ⟨r0, r1, r2, r3, r4, r5, r6⟩ := seven_cells B5.out
        have fr := four_free B5.out
        go_wp2
        refine bodyPost_ret (v := .tuple #[ndV ndE (.slice none 0 0), .bool false]) (back_nd2 28 Tryz.underlying28 sizeNd28 Tryz.results22 rfl rfl (zero_seven B5.out)) rfl ?_
        exact ⟨grown_seven G5.out _ _ _ _ _ _ _ HG.out.1, .inl ⟨ndE, none, 0, 0, rfl, HPn.out⟩⟩
      · have ga := World.grownBy_alloc w3 (.cells #[.int .i64 n.kind, .int .i64 n.index, .int .u64 (wd n.set 0), .int .u64 (wd n.set 1), .int .u64 (wd n.set 2), .int .u64 (wd n.set 3), .slice a k kc] 28) none
        have gb := World.grownBy_alloc (w3.alloc (.cells #[.int .i64 n.kind, .int .i64 n.index, .int .u64 (wd n.set 0), .int .u64 (wd n.set 1), .int .u64 (wd n.set 2), .int .u64 (wd n.set 3), .slice a k kc] 28)) (.cells #[.int .i64 n.kind, .int .i64 n.index, .int .u64 (wd n.set 0), .int .u64 (wd n.set 1), .int .u64 (wd n.set 2), .int .u64 (wd n.set 3), .slice a k kc] 28) none
        have B5 := Lib.hid (heap_grown gb (heap_grown ga (heap_row g3 HG.out.2.1 N2.out)))
        have G5 := Lib.hid (grown_then (grown_then (G2.out.trans g3) ga) gb)
        have R5 := Lib.hid ((r3.kept ga).kept gb)
        have E5 := Lib.hid (((E2.out.kept g3 HRR.out).kept ga (by simp)).kept gb (by simp))
        have V5 := Lib.hid (((V2.out.kept g3 (fun b hb => by simp only [ne_eq, Option.some.injEq]; exact hb.2.2) (fun b hb => by have := HG.out; omega)).kept ga (by simp) (fun b hb => by have := HG.out; omega)).kept gb (by simp) (fun b hb => by have := HG.out; omega))
        have K5 := Lib.hid (((hk.weak (q := fun b => (w.heap.size ≤ b ∧ b ≠ g ∧ b ≠ r) ∧ some b ≠ (Value.slice va L.length vc).ownBlock) fun b _ hb => by
          have h1 := (Array.getElem?_eq_some_iff.1 N2.out).1
          have h2 := R2.out.lt
          have h3 := G2.out.size
          refine ⟨by omega, ?_⟩
          intro e
          have := (V2.out.O.lt b e.symm).2
          omega).grown ga).grown gb)
        have I5 := Lib.hid (show I (L.map Prod.fst ++ [n]) j3 c3 from hp)
        obtain ⟨n0, n1, n2, n3, n4, n5, n6⟩ := seven_cells (heap_alloc_new w3 (.cells #[.int .i64 n.kind, .int .i64 n.index, .int .u64 (wd n.set 0), .int .u64 (wd n.set 1), .int .u64 (wd n.set 2), .int .u64 (wd n.set 3), .slice a k kc] 28))
        have HSZ := Lib.hid (show g + 1 ≤ ((w3.alloc (.cells #[.int .i64 n.kind, .int .i64 n.index, .int .u64 (wd n.set 0), .int .u64 (wd n.set 1), .int .u64 (wd n.set 2), .int .u64 (wd n.set 3), .slice a k kc] 28)).alloc (.cells #[.int .i64 n.kind, .int .i64 n.index, .int .u64 (wd n.set 0), .int .u64 (wd n.set 1), .int .u64 (wd n.set 2), .int .u64 (wd n.set 3), .slice a k kc] 28)).heap.size from (Array.getElem?_eq_some_iff.1 B5.out).1)
        clear ga gb g3 hk r3 hp CP V2 N2 G2 E2 R2
        obtain ⟨iu, hiu, hu0, hu1, hu2⟩ := info_parts infoNd28
        have IU := Lib.hid hiu; have ZU0 := Lib.hid hu0; have ZU1 := Lib.hid hu1; have ZU2 := Lib.hid hu2
        clear hiu hu0 hu1 hu2
        go_wp2_with (at_builtin; refine wpList_append_lies _ rfl _ _ 26 rfl (g + 1) 28 iu _ 7 72 Tryz.underlying26 IU.out ZU0.out ZU1.out ZU2.out rfl (by decide) _ _ _ rfl V5.out.O ⟨_, 0, none⟩ 1 1 (cells7 n (.slice a k kc)) rfl rfl (new_seven _ _ _ _ _ (by simp)) (seven_one _ _ _ _) (by decide) (by unfold maxLen; omega) (by omega) HSZ.out _ rfl ?_; intro gg cap w4 hown2 hgrow2 hat hlt2)
        have hne : ∀ b, b ≤ g → some b ≠ (Value.slice va L.length vc).ownBlock := fun b hb e => by have := (V5.out.O.lt b e.symm).1; omega
        have HF := Lib.hid (show RW w r s g I (L ++ [(n, .slice a k kc)]) (.slice (some ⟨gg, 0, none⟩) (L.length + 1) cap) j3 c3 w4 from
          ⟨G5.out.andThen hgrow2 (fun b e => .inl (by have := (V5.out.O.lt b e).1; have := HG.out.1; omega)),
           R5.out.row hgrow2 (hne r (by have := HG.out; omega)), (hgrow2.block g (Array.getElem?_eq_some_iff.1 B5.out).1 (hne g (Nat.le_refl _))).trans B5.out,
           V5.out.step K5.out hown2 hgrow2 hat, E5.out.kept hgrow2 (hne _ (by have := HG.out; omega)), by rw [List.map_append]; exact I5.out⟩)
        clear hown2 hgrow2 hat hlt2 hne
        go_roundw
        case rel => exact ⟨_, _, _, HF⟩
        case measure => simp only; omega
    · have N2 := Lib.hid (heap_row g2 HG.out.2.1 hW.out.N)
      have V2 := Lib.hid (hW.out.W.kept g2 (fun b hb => by simp only [ne_eq, Option.some.injEq]; exact hb.2.2) (fun b hb => by have := HG.out; omega))
      have G2 := Lib.hid (hW.out.G.trans g2)
      have R2 := Lib.hid r2
      have HD := Lib.hid hd
      clear g2 hd r2 CM hW
      have K2 := Lib.hid (V2.out.kids (fun b hb => by have := HG.out; omega))
      go_wp2_with fail
      refine (cJoined m _ _ _ _ K2.out).mono ?_
      rintro e w3 ⟨⟨a, k, kc, rfl, hk⟩, g3⟩
      have B5 := Lib.hid (heap_grown g3 N2.out)
      have G5 := Lib.hid (grown_then G2.out g3)
      have R5 := Lib.hid (R2.out.kept g3)
      have K5 := Lib.hid hk
      clear g3 hk
      generalize hn : oneN m (L.map Prod.fst) = n at K5 ⊢
      have HNN := Lib.hid hn
      clear hn
      obtain ⟨r0, r1, r2, r3, r4, r5, r6⟩ := seven_cells B5.out
      have fr := four_free B5.out
      go_wp2
      refine bodyPost_ret (v := .tuple #[ndV n (.slice a k kc), .bool true]) (back_nd2 28 Tryz.underlying28 sizeNd28 Tryz.results22 rfl rfl (set_seven B5.out _ _ _ _ _ _ _)) rfl ?_
      exact ⟨grown_seven G5.out _ _ _ _ _ _ _ HG.out.1, .inr ⟨n, a, k, kc, j2, c2, rfl, (K5.out.seven _ _ _ _ _ _ _ fun b hb => hb.2.1).weak fun b _ hb => hb.1, R5.out.seven _ _ _ _ _ _ _ (Ne.symm HG.out.2.1), ⟨_, HNN.out.symm, HD.out⟩⟩⟩
end Go.Proofs.YtlkjejmmoalliaaGreatDoor

/- Walks of package expand: where pieces have their words from: variables, the fields of outputs, kept by their commands. Walks of package expand: the words that a piece gives. Walks of package expand: where the words come from, a word's list. -/
import Derived.Test.YtcmfmfkpmgoieaaGreatDoorExBy
import Derived.Test.YtcmfmfkpmgoieaaGreatDoorExEnd
import Derived.Test.YtcmfmfkpmgoieaaGreatDoorEvGet
import Derived.Test.YtcmfmfkpmgoieaaGreatDoorSbLst
namespace Go.Proofs.YtcmfmfkpmgoieaaGreatDoor
open Go.RowKit

/-- the variables: none, or an Env -/
def EnvS (w : World) (V : ByteArray → List ByteArray) (pv : Value) : Prop :=
  (pv = .pointer none ∧ V = fun _ => []) ∨ ∃ p b F Z, pv = .pointer (some ⟨p, 0, none⟩) ∧ EvZ w p b F Z ∧ V = wsV (vbL Z)
theorem EnvS.grown {w w' : World} {V : ByteArray → List ByteArray} {pv : Value} (h : EnvS w V pv) (g : w.grownBy w' none) : EnvS w' V pv :=
  h.imp id fun ⟨p, b, F, Z, h1, h2, h3⟩ => ⟨p, b, F, Z, h1, h2.grown g, h3⟩
/-- the source at block sb, made behind w0: the outputs by their commands, if they are there; m: the fields that were asked for, in blocks of G -/
structure SrcW (w0 W : World) (sb : Nat) (O : List Ot) (pv ov : Value) (m n : Nat) (G : Nat → Prop) : Prop where
  g0 : w0.grownBy W none
  hs : w0.heap.size ≤ sb ∧ w0.heap.size ≤ m
  r : ∃ tv, W.heap[sb]? = some (.cells #[pv, ov, tv, .map (some m)] 112 (0, 0)) ∧ (tv = .map none ∨ ∃ tb k, tv = .map (some tb) ∧ tb ≠ m ∧ MpS W tb k (byF O))
  c : ∃ f, MpS W m n f ∧ ∀ s v, f s = some v → ∃ t L, fndO O s = some t ∧ txL L = fldQ t.data.toList ∧ TxG W G v L
  g : ∀ k, G k → k < W.heap.size ∧ k ≠ sb ∧ k ≠ m
theorem SrcW.grown {w0 W W' : World} {sb : Nat} {O : List Ot} {pv ov : Value} {m n : Nat} {G : Nat → Prop} (h : SrcW w0 W sb O pv ov m n G) (g : W.grownBy W' none) : SrcW w0 W' sb O pv ov m n G := by
  obtain ⟨tv, h1, h2⟩ := h.r
  obtain ⟨f, h3, h4⟩ := h.c
  exact ⟨h.g0.trans g, h.hs, ⟨tv, heap_grown g h1, h2.imp id fun ⟨tb, k, a, b, c⟩ => ⟨tb, k, a, b, c.grown g⟩⟩, ⟨f, h3.grown g, fun s v hs => by
    obtain ⟨t, L, a, b, c⟩ := h4 s v hs
    exact ⟨t, L, a, b, c.keep (KeepG.grown g)⟩⟩, fun k hk => ⟨Nat.lt_of_lt_of_le (h.g k hk).1 g.size, (h.g k hk).2⟩⟩
theorem SrcW.wide {w0 W : World} {sb : Nat} {O : List Ot} {pv ov : Value} {m n : Nat} {G G' : Nat → Prop} (h : SrcW w0 W sb O pv ov m n G) (hG : ∀ k, G k → G' k) (hg : ∀ k, G' k → k < W.heap.size ∧ k ≠ sb ∧ k ≠ m) : SrcW w0 W sb O pv ov m n G' := by
  obtain ⟨f, h3, h4⟩ := h.c
  exact ⟨h.g0, h.hs, h.r, ⟨f, h3, fun s v hs => by
    obtain ⟨t, L, a, b, c⟩ := h4 s v hs
    exact ⟨t, L, a, b, c.more fun k hk _ => hG k hk⟩⟩, hg⟩
theorem SrcW.lt {w0 W : World} {sb : Nat} {O : List Ot} {pv ov : Value} {m n : Nat} {G : Nat → Prop} (h : SrcW w0 W sb O pv ov m n G) : sb < W.heap.size ∧ m < W.heap.size ∧ sb ≠ m := by
  obtain ⟨tv, h1, -⟩ := h.r
  obtain ⟨f, h3, -⟩ := h.c
  refine ⟨(Array.getElem?_eq_some_iff.1 h1).1, h3.lt, ?_⟩
  refine h3.not_cell (o := 0) (v := pv) ?_
  unfold World.cell?; rw [h1]; rfl
/-- what the rows may lie in behind a call: what they lay in, and what is new -/
def Gn (G : Nat → Prop) (w w' : World) : Nat → Prop := fun k => G k ∨ (w.heap.size ≤ k ∧ k < w'.heap.size)
/-- the source's own blocks -/
def SbF (sb m : Nat) : Nat → Prop := fun k => k = sb ∨ k = m
/-- words and an error; the source as it is then -/
def PSrc (A : Nat → Addr) (x : Rs) (w0 : World) (sb : Nat) (O : List Ot) (pv ov : Value) (m n : Nat) (G : Nat → Prop) (w : World) (e : Ending) (w' : World) : Prop :=
  SrcW w0 w' sb O pv ov m (n + 1) (Gn G w w') ∧ OutF (SbF sb m) w w' ∧ ∃ v L, e = .returned (.tuple #[v, errV A (exN x)]) ∧ TxG w' (Gn G w w') v L ∧ txL L = exL x
theorem SrcW.more {w0 w w' : World} {sb : Nat} {O : List Ot} {pv ov : Value} {m n : Nat} {G : Nat → Prop} (h : SrcW w0 w sb O pv ov m n G) (g : w.grownBy w' none) : SrcW w0 w' sb O pv ov m (n + 1) (Gn G w w') := by
  have h1 := h.lt
  have h2 := (h.grown g).wide (G' := Gn G w w') (fun k hk => .inl hk) (fun k hk => by
    rcases hk with hk | hk
    · exact ⟨Nat.lt_of_lt_of_le (h.g k hk).1 g.size, (h.g k hk).2⟩
    · exact ⟨hk.2, by omega, by omega⟩)
  obtain ⟨f, h3, h4⟩ := h2.c
  exact ⟨h2.g0, h2.hs, h2.r, ⟨f, h3.mono (Nat.le_succ _), h4⟩, h2.g⟩
/-- a call that only makes memory -/
theorem psrc_grown {A : Nat → Addr} {x : Rs} {w0 w w' : World} {sb : Nat} {O : List Ot} {pv ov : Value} {m n : Nat} {G : Nat → Prop} {v : Value} {L : List ByteArray} (h : SrcW w0 w sb O pv ov m n G) (g : w.grownBy w' none)
    (hT : TxG w' (fun k => w.heap.size ≤ k) v L) (hx : txL L = exL x) : PSrc A x w0 sb O pv ov m n G w (.returned (.tuple #[v, errV A (exN x)])) w' :=
  ⟨h.more g, OutF.of g, v, L, rfl, hT.more fun _ hk hl => .inr ⟨hk, hl⟩, hx⟩
theorem four_sr {w : World} {b : Nat} {v0 v1 v2 v3 : Value} {t : TypeId} (h : w.heap[b]? = some (.cells #[v0, v1, v2, v3] t (0, 0))) :
    w.cell? ⟨b, 0, none⟩ = some v0 ∧ w.cell? ⟨b, 1, none⟩ = some v1 ∧ w.cell? ⟨b, 2, none⟩ = some v2 ∧ w.cell? ⟨b, 3, none⟩ = some v3 := by
  refine ⟨?_, ?_, ?_, ?_⟩ <;> (unfold World.cell?; rw [h]; rfl)
set_option maxRecDepth 100000 in
set_option maxHeartbeats 2000000 in
theorem pVar17 {w0 : World} {sb : Nat} {O : List Ot} {pv ov : Value} {m n : Nat} {G : Nat → Prop} {V : ByteArray → List ByteArray} (s : ByteArray) (w : World) (S : SrcW w0 w sb O pv ov m n G) (hE : EnvS w0 V pv) (hs : s.size ≤ 5000) :
    Calls Tryz.prog 62 #[.pointer (some ⟨sb, 0, none⟩), .string s] w fun e w' => w.grownBy w' none ∧ ∃ v, e = .returned v ∧ TxG w' (fun k => w.heap.size ≤ k) v (V s) := by
  obtain ⟨tv, h1, -⟩ := S.r
  obtain ⟨c0, c1, c2, c3⟩ := four_sr h1
  rcases hE.grown S.g0 with ⟨rfl, rfl⟩ | ⟨p, b, F, Z, rfl, hZ, rfl⟩
  · clear S hE h1
    go_enter Tryz.func62, Tryz.ntmps62
    go_wp2
    go_ret
    exact ⟨World.grownBy.refl _ _, _, rfl, tx_nilV _ _⟩
  · have CG := Lib.hid (pGetF p b F Z s w hZ hs)
    rw [wsV_got] at CG
    clear S hE h1 hZ
    go_enter Tryz.func62, Tryz.ntmps62
    go_wp2_with fail
    refine CG.out.mono ?_
    rintro e w3 ⟨g3, u, rfl, t3⟩
    obtain ⟨a3, c3', rfl, -⟩ := t3.shape
    have G3 := Lib.hid g3
    have T3 := Lib.hid t3
    clear g3 t3
    go_wp2
    go_ret
    exact ⟨G3.out, _, rfl, T3.out⟩
theorem SrcW.drewN {w0 W : World} {sb : Nat} {O : List Ot} {pv ov : Value} {m n : Nat} {G : Nat → Prop} (h : SrcW w0 W sb O pv ov m n G) (j : Nat) : SrcW w0 (W.drewN j) sb O pv ov m n G := h.grown (grown_drewN (World.grownBy.refl _ _) j)
theorem OutF.drewN {F : Nat → Prop} {w w' : World} (h : OutF F w w') (j : Nat) : OutF F w (w'.drewN j) := h.step (OutF.of (F := F) (grown_drewN (World.grownBy.refl _ _) j)) (fun _ hk => .inl hk)
theorem mapNilS (w : World) (r : Option Nat) : (binOp .eql 110 (.map r) (.map none)).run Tryz.prog w = .ok (.bool r.isNone) w := Go.run_eql_map_nil w _ _ _ r Tryz.underlying110
theorem zeroStr (w : World) : (zeroValue 9).run Tryz.prog w = .ok (.string ⟨#[]⟩) w := by kernel_rfl
theorem zeroSl (w : World) : (zeroValue 30).run Tryz.prog w = .ok (.slice none 0 0) w := by kernel_rfl
/-- what the outputs are like: all is small -/
def SmAll (O : List Ot) : Prop := O.length ≤ 5000 ∧ SmC O ∧ SmT O
/-- what a command's fields are -/
def flE (O : List Ot) (s : ByteArray) : Rs := match fndO O s with | none => .error 8 | some t => .ok (fldQ t.data.toList)
set_option maxRecDepth 100000 in
set_option maxHeartbeats 8000000 in
theorem pFlds17 (A : Nat → Addr) {w0 : World} {sb : Nat} {O : List Ot} {pv ov : Value} {m n : Nat} {G : Nat → Prop} (s : ByteArray) (w : World) (S : SrcW w0 w sb O pv ov m n G) (hO : ORow w0 ov O) (hs : s.size ≤ 5000) (hA : SmAll O) (hE : Sents L17 A w0) (hn : n + 1 < maxLen) :
    Calls Tryz.prog 64 #[.pointer (some ⟨sb, 0, none⟩), .string s] w (PSrc A (flE O s) w0 sb O pv ov m n G w) := by
  obtain ⟨oa, oc, rfl, -⟩ := hO.shape
  obtain ⟨hlt1, hlt2, hne⟩ := S.lt
  have HS := Lib.hid S
  have HO := Lib.hid hO
  have HA := Lib.hid hA
  have HE := Lib.hid (show Sents L17 A w0 from hE)
  obtain ⟨tv, h1, h2⟩ := S.r
  obtain ⟨c0, c1, c2, c3⟩ := four_sr h1
  have H1 := Lib.hid h1
  have fM := fun w r => mapNilS w r
  have fr := frozen_of_row w sb 2 _ _ h1
  clear hO hA hE h1 S
  go_enter Tryz.func64, Tryz.ntmps64
  rcases h2 with rfl | ⟨tb, k, rfl, h3, h4⟩
  · have CB := Lib.hid (pBy _ O w (HO.out.grown HS.out.g0) HA.out.1 HA.out.2.1)
    go_wp2_with fail
    refine CB.out.mono ?_
    rintro e w3 ⟨g3, tb, rfl, hM, hm⟩
    have Q3 := heap_grown g3 H1.out
    have f3 := frozen_of_row w3 sb 2 _ _ Q3
    have hmM : tb ≠ sb := by omega
    have g4 : w3.grownBy (w3.setCell ⟨sb, 2, none⟩ (.map (some tb))) (some sb) := ⟨rfl, rfl, rfl, by rw [World.size_setCell]; exact Nat.le_refl _, fun k hk hne => heap_setCell_other w3 ⟨sb, 2, none⟩ k _ (fun e => hne (by rw [e]))⟩
    have hr := Lib.hid (heap_setCell_same w3 sb 2 _ _ (.map (some tb)) Q3)
    have hm := Lib.hid (hm.kept g4 (fun e => hmM (Option.some.inj e)))
    have hx := Lib.hid (show OutF (fun k => k = sb) w (w3.setCell ⟨sb, 2, none⟩ (.map (some tb))) from (OutF.of g3).step (OutF.row g4 (F := fun k => k = sb) (fun k e => (Option.some.inj e).symm)) (fun k hk => .inl hk))
    have hg := Lib.hid (show w0.grownBy (w3.setCell ⟨sb, 2, none⟩ (.map (some tb))) none from (HS.out.g0.trans g3).andThen g4 (fun j hj => .inl (by have := Option.some.inj hj; have := HS.out.hs.1; omega)))
    have htm := Lib.hid (show tb ≠ m by omega)
    obtain ⟨k, hk⟩ : ∃ k, k = O.length := ⟨_, rfl⟩
    rw [← hk] at hm
    clear hk g4 hmM g3 CB
    obtain ⟨q0, q1, q2, q3⟩ := four_sr Q3
    clear c0 c1 c2 c3 Q3
    go_upto_region 3 with fail
    clear q0 q1 q2 q3 f3
    generalize w3.setCell _ _ = wx at hr hm hx hg ⊢
    obtain ⟨e0, e1, e2, e3⟩ := four_sr hr.out
    obtain ⟨f, hf, hc⟩ := HS.out.c
    have FX := Lib.hid (show MpS wx m n f from hf.block (hx.out.block m hlt2 hne.symm))
    have KG := Lib.hid (show KeepG G w wx from hx.out.keep (fun k hk => (HS.out.g k hk).2.1))
    have HC := Lib.hid hc
    have hlk := hm.out.look_ok (t := 110) Tryz.underlying110 (zeroStr wx) (s := s) (by unfold maxLen; omega)
    have EX := Lib.hid (HE.out.grown hg.out)
    have SX := Lib.hid (show SrcW w0 wx sb O pv (.slice oa O.length oc) m (n + 1) (Gn G w wx) from
      ⟨hg.out, HS.out.hs, ⟨_, hr.out, .inr ⟨tb, k, rfl, htm.out, hm.out⟩⟩, ⟨f, FX.out.mono (Nat.le_succ _), fun s' v' hs' => by
        obtain ⟨t', L', a1, a2, a3⟩ := HC.out s' v' hs'
        exact ⟨t', L', a1, a2, (a3.keep KG.out).more fun k hk _ => .inl hk⟩⟩, fun k hk => by
        rcases hk with hk | hk
        · exact ⟨Nat.lt_of_lt_of_le (HS.out.g k hk).1 hx.out.size, (HS.out.g k hk).2⟩
        · exact ⟨hk.2, by omega, by omega⟩⟩)
    have OX := Lib.hid (show OutF (SbF sb m) w wx from (OutF.refl (SbF sb m) w).step hx.out (fun k hk => .inl (.inl hk)))
    cases hfo : fndO O s with
    | none =>
      have HFL := Lib.hid (show flE O s = .error 8 by unfold flE; rw [hfo])
      rw [show byF O s = none by unfold byF; rw [hfo]; rfl] at hlk
      have ee := e17_none EX.out
      clear hf hc
      go_wp2
      go_quiet (fail)
      go_wp2
      go_ret2
      rw [HFL.out]
      exact ⟨SX.out.drewN _, OX.out.drewN _, _, [], rfl, tx_nilV _ _, rfl⟩
    | some tx =>
      have HFL := Lib.hid (show flE O s = .ok (fldQ tx.data.toList) by unfold flE; rw [hfo])
      rw [show byF O s = some (.string tx) by unfold byF; rw [hfo]; rfl] at hlk
      have hlc := FX.out.look_ok (t := 109) Tryz.underlying109 (zeroSl wx) (s := s) (by unfold maxLen; omega)
      have htx := HA.out.2.2.find hfo
      have HFO := Lib.hid hfo
      clear hf hc
      cases hfs : f s with
      | some u =>
        rw [hfs] at hlc
        obtain ⟨t', L', a1, a2, a3⟩ := HC.out s u hfs
        rw [HFO.out] at a1
        cases a1
        obtain ⟨ua, uc, rfl, -⟩ := a3.shape
        have A3 := Lib.hid ((a3.keep KG.out).more (G' := Gn G w wx) fun k hk _ => .inl hk)
        have A2 := Lib.hid a2
        clear a2 a3
        go_wp2
        go_ret2
        rw [HFL.out]
        exact ⟨SX.out, OX.out, _, L', rfl, A3.out, A2.out⟩
      | none =>
        rw [hfs] at hlc
        have CT := Lib.hid (pFieldsF tx wx htx)
        go_wp2_with fail
        refine CT.out.mono ?_
        rintro e w5 ⟨g5, v5, L5, rfl, t5, hL5, hb5⟩
        obtain ⟨a5, c5, rfl, -⟩ := id t5
        obtain ⟨w6, hrun, hm6, hg6⟩ := (FX.out.grown g5).store (t := 109) Tryz.underlying109 (by omega) (s := s) (by unfold maxLen; omega) (.slice a5 L5.length c5)
        have Q5 := heap_grown g5 hr.out
        clear e0 e1 e2 e3
        obtain ⟨e0, e1, e2, e3⟩ := four_sr Q5
        have hmw5 : m < w5.heap.size := (FX.out.grown g5).lt
        have hsw5 : sb < w5.heap.size := (Array.getElem?_eq_some_iff.1 Q5).1
        have hwx : w.heap.size ≤ wx.heap.size := hx.out.size
        have T6 := Lib.hid (show TxG w6 (Gn G w w6) (.slice a5 L5.length c5) L5 from by
          have t5' : TxG w5 (fun k => wx.heap.size ≤ k ∧ k < w5.heap.size) (.slice a5 L5.length c5) L5 := ⟨t5, fun hne' b hb => ⟨⟨hb5 b hb, tx_lt t5 hne' b hb⟩, tx_lt t5 hne' b hb⟩⟩
          refine (t5'.keep ⟨hg6.size, fun b hb hlb => hg6.block b hlb (fun e => by have := Option.some.inj e; have := FX.out.lt; omega)⟩).more fun k hk _ => .inr ⟨by omega, by have := hg6.size; omega⟩)
        have Q6 := Lib.hid ((hg6.block sb hsw5 (fun e => hne (Option.some.inj e))).trans Q5)
        have S6 := Lib.hid (show SrcW w0 w6 sb O pv (.slice oa O.length oc) m (n + 1) (Gn G w w6) from
          ⟨(hg.out.trans g5).andThen hg6 (fun j hj => .inl (by have := Option.some.inj hj; have := HS.out.hs.2; omega)), HS.out.hs, ⟨_, Q6.out, .inr ⟨tb, k, rfl, htm.out, (hm.out.grown g5).kept hg6 (fun e => htm.out (Option.some.inj e))⟩⟩,
            ⟨_, hm6, fun s' v' hs' => by
              unfold putF at hs'
              by_cases hss : s' = s
              · rw [if_pos hss] at hs'
                cases hs'
                subst hss
                exact ⟨tx, L5, HFO.out, hL5, T6.out⟩
              · rw [if_neg hss] at hs'
                obtain ⟨t', L', a1, a2, a3⟩ := HC.out s' v' hs'
                exact ⟨t', L', a1, a2, (((a3.keep KG.out).keep (KeepG.grown g5)).keep ⟨hg6.size, fun b hb hlb => hg6.block b hlb (fun e => (HS.out.g b hb).2.2 (Option.some.inj e))⟩).more fun k hk _ => .inl hk⟩⟩,
            fun k hk => by
              rcases hk with hk | hk
              · exact ⟨by have := (HS.out.g k hk).1; have := g5.size; have := hg6.size; omega, (HS.out.g k hk).2⟩
              · exact ⟨hk.2, by omega, by omega⟩⟩)
        have O6 := Lib.hid (show OutF (SbF sb m) w w6 from (OX.out.step (OutF.of (F := SbF sb m) g5) (fun k hk => .inl hk)).step (OutF.row hg6 (F := fun k => k = m) (fun k e => (Option.some.inj e).symm)) (fun k hk => .inl (.inr hk)))
        have L6 := Lib.hid hL5
        clear t5 hb5 hm6 hg6 g5 hL5 Q5 CT hlk hlc
        go_wp2
        go_ret2
        rw [HFL.out]
        exact ⟨S6.out, O6.out, _, L5, rfl, T6.out, L6.out⟩
  · obtain ⟨wx, ewx⟩ : ∃ wx, wx = w := ⟨_, rfl⟩
    have hr := Lib.hid (show wx.heap[sb]? = some (.cells #[pv, .slice oa O.length oc, .map (some tb), .map (some m)] 112 (0, 0)) by rw [ewx]; exact H1.out)
    have hm := Lib.hid (show MpS wx tb k (byF O) by rw [ewx]; exact h4)
    have hx := Lib.hid (show OutF (fun k => k = sb) w wx by rw [ewx]; exact OutF.refl _ _)
    have hg := Lib.hid (show w0.grownBy wx none by rw [ewx]; exact HS.out.g0)
    have htm := Lib.hid h3
    clear h4 h3
    go_upto_region 3 with fail
    rw [← ewx]
    clear c0 c1 c2 c3 ewx
    obtain ⟨e0, e1, e2, e3⟩ := four_sr hr.out
    obtain ⟨f, hf, hc⟩ := HS.out.c
    have FX := Lib.hid (show MpS wx m n f from hf.block (hx.out.block m hlt2 hne.symm))
    have KG := Lib.hid (show KeepG G w wx from hx.out.keep (fun k hk => (HS.out.g k hk).2.1))
    have HC := Lib.hid hc
    have hlk := hm.out.look_ok (t := 110) Tryz.underlying110 (zeroStr wx) (s := s) (by unfold maxLen; omega)
    have EX := Lib.hid (HE.out.grown hg.out)
    have SX := Lib.hid (show SrcW w0 wx sb O pv (.slice oa O.length oc) m (n + 1) (Gn G w wx) from
      ⟨hg.out, HS.out.hs, ⟨_, hr.out, .inr ⟨tb, k, rfl, htm.out, hm.out⟩⟩, ⟨f, FX.out.mono (Nat.le_succ _), fun s' v' hs' => by
        obtain ⟨t', L', a1, a2, a3⟩ := HC.out s' v' hs'
        exact ⟨t', L', a1, a2, (a3.keep KG.out).more fun k hk _ => .inl hk⟩⟩, fun k hk => by
        rcases hk with hk | hk
        · exact ⟨Nat.lt_of_lt_of_le (HS.out.g k hk).1 hx.out.size, (HS.out.g k hk).2⟩
        · exact ⟨hk.2, by omega, by omega⟩⟩)
    have OX := Lib.hid (show OutF (SbF sb m) w wx from (OutF.refl (SbF sb m) w).step hx.out (fun k hk => .inl (.inl hk)))
    cases hfo : fndO O s with
    | none =>
      have HFL := Lib.hid (show flE O s = .error 8 by unfold flE; rw [hfo])
      rw [show byF O s = none by unfold byF; rw [hfo]; rfl] at hlk
      have ee := e17_none EX.out
      clear hf hc
      go_wp2
      go_quiet (fail)
      go_wp2
      go_ret2
      rw [HFL.out]
      exact ⟨SX.out.drewN _, OX.out.drewN _, _, [], rfl, tx_nilV _ _, rfl⟩
    | some tx =>
      have HFL := Lib.hid (show flE O s = .ok (fldQ tx.data.toList) by unfold flE; rw [hfo])
      rw [show byF O s = some (.string tx) by unfold byF; rw [hfo]; rfl] at hlk
      have hlc := FX.out.look_ok (t := 109) Tryz.underlying109 (zeroSl wx) (s := s) (by unfold maxLen; omega)
      have htx := HA.out.2.2.find hfo
      have HFO := Lib.hid hfo
      clear hf hc
      cases hfs : f s with
      | some u =>
        rw [hfs] at hlc
        obtain ⟨t', L', a1, a2, a3⟩ := HC.out s u hfs
        rw [HFO.out] at a1
        cases a1
        obtain ⟨ua, uc, rfl, -⟩ := a3.shape
        have A3 := Lib.hid ((a3.keep KG.out).more (G' := Gn G w wx) fun k hk _ => .inl hk)
        have A2 := Lib.hid a2
        clear a2 a3
        go_wp2
        go_ret2
        rw [HFL.out]
        exact ⟨SX.out, OX.out, _, L', rfl, A3.out, A2.out⟩
      | none =>
        rw [hfs] at hlc
        have CT := Lib.hid (pFieldsF tx wx htx)
        go_wp2_with fail
        refine CT.out.mono ?_
        rintro e w5 ⟨g5, v5, L5, rfl, t5, hL5, hb5⟩
        obtain ⟨a5, c5, rfl, -⟩ := id t5
        obtain ⟨w6, hrun, hm6, hg6⟩ := (FX.out.grown g5).store (t := 109) Tryz.underlying109 (by omega) (s := s) (by unfold maxLen; omega) (.slice a5 L5.length c5)
        have Q5 := heap_grown g5 hr.out
        clear e0 e1 e2 e3
        obtain ⟨e0, e1, e2, e3⟩ := four_sr Q5
        have hmw5 : m < w5.heap.size := (FX.out.grown g5).lt
        have hsw5 : sb < w5.heap.size := (Array.getElem?_eq_some_iff.1 Q5).1
        have hwx : w.heap.size ≤ wx.heap.size := hx.out.size
        have T6 := Lib.hid (show TxG w6 (Gn G w w6) (.slice a5 L5.length c5) L5 from by
          have t5' : TxG w5 (fun k => wx.heap.size ≤ k ∧ k < w5.heap.size) (.slice a5 L5.length c5) L5 := ⟨t5, fun hne' b hb => ⟨⟨hb5 b hb, tx_lt t5 hne' b hb⟩, tx_lt t5 hne' b hb⟩⟩
          refine (t5'.keep ⟨hg6.size, fun b hb hlb => hg6.block b hlb (fun e => by have := Option.some.inj e; have := FX.out.lt; omega)⟩).more fun k hk _ => .inr ⟨by omega, by have := hg6.size; omega⟩)
        have Q6 := Lib.hid ((hg6.block sb hsw5 (fun e => hne (Option.some.inj e))).trans Q5)
        have S6 := Lib.hid (show SrcW w0 w6 sb O pv (.slice oa O.length oc) m (n + 1) (Gn G w w6) from
          ⟨(hg.out.trans g5).andThen hg6 (fun j hj => .inl (by have := Option.some.inj hj; have := HS.out.hs.2; omega)), HS.out.hs, ⟨_, Q6.out, .inr ⟨tb, k, rfl, htm.out, (hm.out.grown g5).kept hg6 (fun e => htm.out (Option.some.inj e))⟩⟩,
            ⟨_, hm6, fun s' v' hs' => by
              unfold putF at hs'
              by_cases hss : s' = s
              · rw [if_pos hss] at hs'
                cases hs'
                subst hss
                exact ⟨tx, L5, HFO.out, hL5, T6.out⟩
              · rw [if_neg hss] at hs'
                obtain ⟨t', L', a1, a2, a3⟩ := HC.out s' v' hs'
                exact ⟨t', L', a1, a2, (((a3.keep KG.out).keep (KeepG.grown g5)).keep ⟨hg6.size, fun b hb hlb => hg6.block b hlb (fun e => (HS.out.g b hb).2.2 (Option.some.inj e))⟩).more fun k hk _ => .inl hk⟩⟩,
            fun k hk => by
              rcases hk with hk | hk
              · exact ⟨by have := (HS.out.g k hk).1; have := g5.size; have := hg6.size; omega, (HS.out.g k hk).2⟩
              · exact ⟨hk.2, by omega, by omega⟩⟩)
        have O6 := Lib.hid (show OutF (SbF sb m) w w6 from (OX.out.step (OutF.of (F := SbF sb m) g5) (fun k hk => .inl hk)).step (OutF.row hg6 (F := fun k => k = m) (fun k e => (Option.some.inj e).symm)) (fun k hk => .inl (.inr hk)))
        have L6 := Lib.hid hL5
        clear t5 hb5 hm6 hg6 g5 hL5 Q5 CT hlk hlc
        go_wp2
        go_ret2
        rw [HFL.out]
        exact ⟨S6.out, O6.out, _, L5, rfl, T6.out, L6.out⟩
end Go.Proofs.YtcmfmfkpmgoieaaGreatDoor

namespace Go.Proofs.YtcmfmfkpmgoieaaGreatDoor
open Go.RowKit

theorem psrc_up {A : Nat → Addr} {x : Rs} {w0 : World} {sb : Nat} {O : List Ot} {pv ov : Value} {m n : Nat} {G : Nat → Prop} {w w1 w' : World} {e : Ending} (S : SrcW w0 w sb O pv ov m n G) (g : w.grownBy w1 none) (h : PSrc A x w0 sb O pv ov m n G w1 e w') : PSrc A x w0 sb O pv ov m n G w e w' := by
  obtain ⟨h1, h2, v, L, h3, h4, h5⟩ := h
  have hlt := S.lt
  have hsub : ∀ k, Gn G w1 w' k → Gn G w w' k := fun k hk => hk.imp id fun h => ⟨Nat.le_trans g.size h.1, h.2⟩
  exact ⟨h1.wide hsub (fun k hk => by
    rcases hk with hk | hk
    · exact ⟨Nat.lt_of_lt_of_le (S.g k hk).1 (Nat.le_trans g.size h2.size), (S.g k hk).2⟩
    · exact ⟨hk.2, by omega, by omega⟩), (OutF.of (F := SbF sb m) g).step h2 (fun k hk => .inl hk), v, L, h3, h4.more fun k hk _ => hsub k hk, h5⟩
theorem flE_pc {V : ByteArray → List ByteArray} {O : List Ot} {p : Pb} (h : p.k = 4) : flE O p.t = pcE V O p := by
  unfold flE
  cases hf : fndO O p.t with
  | none => rw [pcE_none h hf]
  | some t => rw [pcE_back h hf]
/-- no name has too many words, none too long -/
def SzF (V : ByteArray → List ByteArray) : Prop := ∀ s, (V s).length ≤ 60 ∧ ∀ t ∈ V s, t.size ≤ 200
set_option maxRecDepth 100000 in
set_option maxHeartbeats 8000000 in
theorem pWords17 (A : Nat → Addr) {w0 : World} {sb : Nat} {O : List Ot} {pv ov : Value} {m n : Nat} {G : Nat → Prop} {V : ByteArray → List ByteArray} (p : Pb) (w : World) (S : SrcW w0 w sb O pv ov m n G) (hO : ORow w0 ov O) (hV : EnvS w0 V pv) (hA : SmAll O) (hz : SzF V) (hp : SmP p) (hE : Sents L17 A w0) (hn : n + 1 < maxLen) :
    Calls Tryz.prog 49 #[.pointer (some ⟨sb, 0, none⟩), pcA p] w (PSrc A (pcE V O p) w0 sb O pv ov m n G w) := by
  have HS := Lib.hid S
  have HE := Lib.hid hE
  obtain ⟨pk, pt, pf, po⟩ := p
  have B1 := Lib.hid (show BxW w w.heap.size 57 ⟨pk, pt, pf, po⟩ (w.alloc (.cells #[.int .i64 pk, .string pt, .string pf, .string po] 57)) from ⟨World.grownBy_alloc _ _ _, heap_alloc_new w _⟩)
  have CV := Lib.hid (fun (W : World) (h : BxW w w.heap.size 57 ⟨pk, pt, pf, po⟩ W) => pVar17 pt W (S.grown h.1) hV hp.1)
  have CL := Lib.hid (fun (v : Value) (W : World) (h : BxW w w.heap.size 57 ⟨pk, pt, pf, po⟩ W) (ht : TxRow W v (V pt)) => sListF A v (V pt) pf po W ht (by have := (hz pt).1; omega) (hz pt).2 hp.2.1 hp.2.2 (e17_long (hE.grown (S.g0.trans h.1))))
  have CF := Lib.hid (fun (W : World) (g : w.grownBy W none) => pFlds17 A pt W (S.grown g) hO hp.1 hA hE hn)
  obtain ⟨k, hk⟩ : ∃ k, w.heap.size = k := ⟨_, rfl⟩
  clear S hO hV hA hz hp hE
  go_enter Tryz.func49, Tryz.ntmps49
  go_upto_region 1 with fail
  generalize w.alloc _ = w1 at B1 ⊢
  rw [hk] at B1 CV CL
  obtain ⟨c0, c1, c2, c3⟩ := B1.out.cells
  simp only at c0 c1 c2 c3
  have G1 := Lib.hid (show w.grownBy w1 none from B1.out.1)
  have PG := Lib.hid (fun (x : Rs) (W' : World) (v : Value) (L : List ByteArray) (g : w.grownBy W' none) (ht : TxRow W' v L) (hb : ∀ b, v.ownBlock = some b → w.heap.size ≤ b) (hx : txL L = exL x) =>
    psrc_grown (A := A) HS.out g ⟨ht, fun hne b hb' => ⟨hb b hb', tx_lt ht hne b hb'⟩⟩ hx)
  by_cases h01 : pk = 0 ∨ pk = 1
  · have HP := Lib.hid (pcE_text (V := V) (O := O) (p := ⟨pk, pt, pf, po⟩) h01)
    have OR := Lib.hid (one_row w1 pt)
    have hsz := G1.out.size
    rcases h01 with rfl | rfl <;>
    · go_wp2
      go_ret2
      rw [HP.out]
      exact PG.out (.ok [pt.data.toList]) _ _ [pt] (G1.out.trans (World.grownBy_alloc _ _ _)) OR.out (fun b hb => by simp [Value.ownBlock] at hb; omega) rfl
  · have e0 : (pk == 0) = false := by simpa using fun e => h01 (.inl e)
    have e1 : (pk == 1) = false := by simpa using fun e => h01 (.inr e)
    by_cases h2 : pk = 2
    · subst h2
      have HP := Lib.hid (pcE_var (V := V) (O := O) (p := ⟨2, pt, pf, po⟩) rfl)
      clear e0 e1
      go_wp2_with fail
      refine (CV.out _ B1.out).mono ?_
      rintro e w3 ⟨g3, u, rfl, t3⟩
      obtain ⟨a3, c3', rfl, -⟩ := t3.shape
      have G3 := Lib.hid (G1.out.trans g3)
      have T3 := Lib.hid (show TxG w3 (fun k => w.heap.size ≤ k) (.slice a3 (V pt).length c3') (V pt) from t3.more fun k hk _ => Nat.le_trans G1.out.size hk)
      clear g3 t3 c0 c1 c2 c3
      go_wp2
      go_ret2
      rw [HP.out]
      exact psrc_grown (A := A) (x := .ok (txL (V pt))) HS.out G3.out T3.out rfl
    have e2 : (pk == 2) = false := by simpa using h2
    by_cases h3 : pk = 3
    · subst h3
      clear e0 e1 e2
      cases hov : (V pt).any (ovrB pf.data.toList po.data.toList)
      · have HP := Lib.hid (pcE_sub (V := V) (O := O) (p := ⟨3, pt, pf, po⟩) rfl hov)
        have CK := Lib.hid (fun (v : Value) (W : World) (h : BxW w k 57 ⟨3, pt, pf, po⟩ W) (ht : TxRow W v (V pt)) => (CL.out v W h ht).mono (show ∀ e w', LstOutF A pf.data.toList po.data.toList (V pt) W e w' → W.grownBy w' none ∧ ∃ v, e = .returned (.tuple #[v, .nilIface]) ∧ TxRow w' v (putT pf.data.toList po.data.toList (V pt)) ∧ ∀ b, v.ownBlock = some b → W.heap.size ≤ b from fun e w' ⟨g, o⟩ => ⟨g, o.resolve_left (by rw [hov]; simp) |>.2⟩))
        clear hov CL
        go_upto_region 8 with fail
        have B2 := B1.out.drew
        go_region_held3 (fun W => W.cell? ⟨k, 0, none⟩ = some (.int .i64 3) ∧ W.cell? ⟨k, 1, none⟩ = some (.string pt) ∧ W.cell? ⟨k, 2, none⟩ = some (.string pf) ∧ W.cell? ⟨k, 3, none⟩ = some (.string po))
          (first | exact BxW.cells (x := ⟨3, pt, pf, po⟩) (by assumption))
          (first
            | (go_at_call 62; refine (CV.out _ (by assumption)).mono ?_; rintro e w3 ⟨g3, u3, rfl, t3⟩; have B3 := BxW.grown (x := ⟨3, pt, pf, po⟩) (by assumption) g3; have T3 := t3.1)
            | (go_at_call 63; refine (CK.out _ _ (by assumption) (by assumption)).mono ?_; rintro e w4 ⟨g4, v4, rfl, r4, b4⟩; have B4 := BxW.grown (x := ⟨3, pt, pf, po⟩) (by assumption) g4))
        all_goals
          go_wp2
          go_ret2
          rw [HP.out]
          exact PG.out (.ok _) _ _ _ B4.1 r4 (fun b hb => Nat.le_trans B3.1.size (b4 b hb)) rfl
      · have HP := Lib.hid (pcE_over (V := V) (O := O) (p := ⟨3, pt, pf, po⟩) rfl hov)
        have CK := Lib.hid (fun (v : Value) (W : World) (h : BxW w k 57 ⟨3, pt, pf, po⟩ W) (ht : TxRow W v (V pt)) => (CL.out v W h ht).mono (show ∀ e w', LstOutF A pf.data.toList po.data.toList (V pt) W e w' → W.grownBy w' none ∧ e = .returned (.tuple #[.slice none 0 0, lngE A]) from fun e w' ⟨g, o⟩ => ⟨g, (o.resolve_right (by rw [hov]; simp)).2⟩))
        clear hov CL
        go_upto_region 8 with fail
        have B2 := B1.out.drew
        go_region_held3 (fun W => W.cell? ⟨k, 0, none⟩ = some (.int .i64 3) ∧ W.cell? ⟨k, 1, none⟩ = some (.string pt) ∧ W.cell? ⟨k, 2, none⟩ = some (.string pf) ∧ W.cell? ⟨k, 3, none⟩ = some (.string po))
          (first | exact BxW.cells (x := ⟨3, pt, pf, po⟩) (by assumption))
          (first
            | (go_at_call 62; refine (CV.out _ (by assumption)).mono ?_; rintro e w3 ⟨g3, u3, rfl, t3⟩; have B3 := BxW.grown (x := ⟨3, pt, pf, po⟩) (by assumption) g3; have T3 := t3.1)
            | (go_at_call 63; refine (CK.out _ _ (by assumption) (by assumption)).mono ?_; rintro e w4 ⟨g4, rfl⟩; have B4 := BxW.grown (x := ⟨3, pt, pf, po⟩) (by assumption) g4))
        all_goals
          go_wp2
          go_ret2
          rw [HP.out]
          exact psrc_grown (A := A) (x := .error 2) HS.out B4.1 (tx_nilV _ _) rfl
    have e3 : (pk == 3) = false := by simpa using h3
    by_cases h4 : pk = 4
    · subst h4
      have HP := Lib.hid (flE_pc (V := V) (O := O) (p := ⟨4, pt, pf, po⟩) rfl)
      clear e0 e1 e2 e3
      go_wp2_with fail
      refine (CF.out _ G1.out).mono ?_
      intro e w3 h3
      have H3 := Lib.hid (psrc_up HS.out G1.out h3)
      clear h3 c0 c1 c2 c3
      obtain ⟨s1, s2, v3, L3, rfl, s4, s5⟩ := id H3.out
      clear s1 s2 s4 s5
      go_wp2
      go_ret2
      rw [← HP.out]
      exact H3.out
    · have e4 : (pk == 4) = false := by simpa using h4
      have HP := Lib.hid (pcE_kind (V := V) (O := O) (p := ⟨pk, pt, pf, po⟩) ⟨fun e => h01 (.inl e), fun e => h01 (.inr e), h2, h3, h4⟩)
      have ee := e17_kind (HE.out.grown (HS.out.g0.trans G1.out))
      go_wp2
      go_quiet (fail)
      go_wp2
      go_ret2
      rw [HP.out]
      exact psrc_grown (A := A) (x := .error 17) HS.out (grown_drewN G1.out _) (tx_nilV _ _) rfl
end Go.Proofs.YtcmfmfkpmgoieaaGreatDoor

namespace Go.Proofs.YtcmfmfkpmgoieaaGreatDoor
open Go.RowKit

theorem pSrcOf (p : Option Addr) (a : Option Addr) (l c : Nat) (w : World) (O : List Ot) : Calls Tryz.prog 35 #[.pointer p, .slice a l c] w fun e w' => w.grownBy w' none ∧ ∃ sb m, e = .returned (.pointer (some ⟨sb, 0, none⟩)) ∧ SrcW w w' sb O (.pointer p) (.slice a l c) m 0 (fun _ => False) := by
  have hmm := @run_makeMap Tryz.prog
  have M0 := Lib.hid (mpS_new w)
  have g0 := World.grownBy_alloc w (.map #[] 0) none
  have g1 := World.grownBy_alloc (w.alloc (.map #[] 0)) (.cells #[.pointer p, .slice a l c, .map none, .map (some w.heap.size)] 112) none
  have Q0 := heap_alloc_new (w.alloc (.map #[] 0)) (.cells #[.pointer p, .slice a l c, .map none, .map (some w.heap.size)] 112)
  rw [World.size_alloc] at Q0
  have S1 := Lib.hid (show SrcW w ((w.alloc (.map #[] 0)).alloc (.cells #[.pointer p, .slice a l c, .map none, .map (some w.heap.size)] 112)) (w.heap.size + 1) O (.pointer p) (.slice a l c) w.heap.size 0 (fun _ => False) from
    ⟨g0.trans g1, ⟨by omega, Nat.le_refl _⟩, ⟨.map none, Q0, .inl rfl⟩, ⟨_, M0.out.grown g1, fun s v hs => by cases hs⟩, fun k hk => hk.elim⟩)
  clear M0 g0 g1 Q0
  go_enter Tryz.func35, Tryz.ntmps35
  go_wp2
  go_ret
  exact ⟨S1.out.g0, _, _, rfl, S1.out⟩
/-- the source stays over what changes elsewhere -/
theorem SrcW.out {w0 W W' : World} {sb : Nat} {O : List Ot} {pv ov : Value} {m n : Nat} {G F : Nat → Prop} (h : SrcW w0 W sb O pv ov m n G) (o : OutF F W W') (hF : ∀ k, F k → w0.heap.size ≤ k ∧ k ≠ sb ∧ ¬ G k ∧ ∃ c t, W.heap[k]? = some (.cells c t (0, 0))) : SrcW w0 W' sb O pv ov m n G := by
  obtain ⟨l1, l2, l3⟩ := h.lt
  have hmap : ∀ {b k : Nat} {f : ByteArray → Option Value}, MpS W b k f → MpS W' b k f := fun {b k f} hm => hm.block (o.block b hm.lt (fun hf => by
    obtain ⟨-, -, -, c, t, hc⟩ := hF b hf
    obtain ⟨D, ⟨es, cl, hb, -⟩, -⟩ := hm
    rw [hc] at hb; cases hb))
  obtain ⟨tv, h1, h2⟩ := h.r
  obtain ⟨f, h3, h4⟩ := h.c
  exact ⟨OutF.grown o h.g0 (fun b hb => (hF b hb).1), h.hs, ⟨tv, (o.block sb l1 (fun hf => (hF sb hf).2.1 rfl)).trans h1, h2.imp id fun ⟨tb, k, a, b, c⟩ => ⟨tb, k, a, b, hmap c⟩⟩,
    ⟨f, hmap h3, fun s v hs => by
      obtain ⟨t, L, a, b, c⟩ := h4 s v hs
      exact ⟨t, L, a, b, c.keep (o.keep fun k hk hf => (hF k hf).2.2.1 hk)⟩⟩, fun k hk => ⟨Nat.lt_of_lt_of_le (h.g k hk).1 o.size, (h.g k hk).2⟩⟩
/-- a word's list and an error; the source as it is then -/
def PLst17 (A : Nat → Addr) (x : Rs) (w0 : World) (sb : Nat) (O : List Ot) (pv ov : Value) (m n : Nat) (G : Nat → Prop) (w : World) (e : Ending) (w' : World) : Prop :=
  SrcW w0 w' sb O pv ov m n (Gn G w w') ∧ OutF (SbF sb m) w w' ∧ ∃ v L, e = .returned (.tuple #[v, errV A (exN x)]) ∧ TxRow w' v L ∧ txL L = exL x
theorem RowW.cells {W : World} {rb base : Nat} {pa : Option Addr} {pc : Nat} {P : List ByteArray} {lg q : Bool} (h : RowW W rb base pa pc P lg q) : ∀ k, RwF rb (.slice pa P.length pc) k → (k = rb ∨ base ≤ k) ∧ ∃ c t, W.heap[k]? = some (.cells c t (0, 0)) := by
  intro k hk
  rcases hk with rfl | hk
  · exact ⟨.inl rfl, _, _, h.r⟩
  · obtain ⟨c, hc⟩ := own_cells h.o k hk
    exact ⟨.inr (h.o.lt k hk).1, c, _, hc⟩
theorem RowW.outS {W W' : World} {rb base sb m : Nat} {pa : Option Addr} {pc : Nat} {P : List ByteArray} {lg q : Bool} (h : RowW W rb base pa pc P lg q) (o : OutF (SbF sb m) W W') (hr : rb ≠ sb ∧ rb ≠ m) (hb : sb < base ∧ m < base) : RowW W' rb base pa pc P lg q := by
  have hlt := (Array.getElem?_eq_some_iff.1 h.r).1
  refine ⟨(o.block rb hlt (fun hf => hf.elim hr.1 hr.2)).trans h.r, ?_⟩
  refine ⟨h.o.1, h.o.2.imp id fun ⟨g, cap, cur, h1, h2, h3, rest⟩ => ⟨g, cap, cur, h1, h2, ?_, rest⟩⟩
  exact (o.block g (Array.getElem?_eq_some_iff.1 h3).1 (fun hf => by rcases hf with rfl | rfl <;> omega)).trans h3
theorem SrcW.upTo {w0 W : World} {sb : Nat} {O : List Ot} {pv ov : Value} {m n n' : Nat} {G : Nat → Prop} (h : SrcW w0 W sb O pv ov m n G) (hn : n ≤ n') : SrcW w0 W sb O pv ov m n' G := by
  obtain ⟨f, h3, h4⟩ := h.c
  exact ⟨h.g0, h.hs, h.r, ⟨f, h3.mono hn, h4⟩, h.g⟩
/-- what a round of list knows -/
structure LstI (V : ByteArray → List ByteArray) (O : List Ot) (ps : List Pb) (w0 w : World) (sb m n j : Nat) (pv ov : Value) (G : Nat → Prop) (rb base : Nat) (pa : Option Addr) (pc : Nat) (P : List ByteArray) (lg qb : Bool) (Gj : Nat → Prop) (W : World) : Prop where
  s : SrcW w0 W sb O pv ov m (n + j) Gj
  r : RowW W rb base pa pc P lg qb
  g : ∀ k, Gj k → G k ∨ w.heap.size ≤ k
  a : ∀ k, RwF rb (.slice pa P.length pc) k → ¬ Gj k
  t : ∃ t, wdS V O (ps.take j) = .ok (t, qb) ∧ RelP (txL P, lg) t
  k : OkP (txL P, lg)
  o : OutF (SbF sb m) w W
theorem wide_n {w0 w W : World} {sb m n n' : Nat} {O : List Ot} {pv ov : Value} {G Gj : Nat → Prop} (h : SrcW w0 W sb O pv ov m n Gj) (hn : n ≤ n') (hG : ∀ k, Gj k → G k ∨ w.heap.size ≤ k) (hs : ∀ k, G k → k < w.heap.size ∧ k ≠ sb ∧ k ≠ m) (hl : w.heap.size ≤ W.heap.size) (hw : sb < w.heap.size ∧ m < w.heap.size) : SrcW w0 W sb O pv ov m n' (Gn G w W) :=
  (h.upTo hn).wide (fun k hk => (hG k hk).imp id fun h1 => ⟨h1, (h.g k hk).1⟩) (fun k hk => by
    rcases hk with hk | hk
    · exact ⟨Nat.lt_of_lt_of_le (hs k hk).1 hl, (hs k hk).2⟩
    · exact ⟨hk.2, by omega, by omega⟩)
set_option maxRecDepth 100000 in
set_option maxHeartbeats 8000000 in
theorem pList17 (A : Nat → Addr) {w0 : World} {sb : Nat} {O : List Ot} {pv ov : Value} {m n : Nat} {G : Nat → Prop} {V : ByteArray → List ByteArray} (v : Value) (ps : List Pb) (w : World) (S : SrcW w0 w sb O pv ov m n G) (hO : ORow w0 ov O) (hV : EnvS w0 V pv) (hA : SmAll O) (hz : SzF V)
    (hR : PRow w0 v ps) (hps : ∀ p ∈ ps, SmP p) (hE : Sents L17 A w0) (hn : n + ps.length + 1 < maxLen) :
    Calls Tryz.prog 36 #[.pointer (some ⟨sb, 0, none⟩), v] w (PLst17 A (wordE V O ps) w0 sb O pv ov m (n + ps.length) G w) := by
  obtain ⟨va, vc, rfl, hm9⟩ := hR.shape
  have HS := Lib.hid S
  have HR := Lib.hid hR; have HP := Lib.hid hps; have HE := Lib.hid hE
  have CW := Lib.hid (fun (j : Nat) (hj : j < ps.length) (p : Pb) (H : Nat → Prop) (W : World) (s : SrcW w0 W sb O pv ov m (n + j) H) (hp : SmP p) => pWords17 A p W s hO hV hA hz hp hE (by omega))
  have HPL := Lib.hid (fun (p : Pb) (L : List (List UInt8)) (h : SmP p) (e : pcE V O p = .ok L) => pc_le (hz p.t) hA.2.2 h.1 e)
  obtain ⟨hl1, hl2, hl3⟩ := S.lt
  obtain ⟨rb, hrb⟩ : ∃ rb, rb = w.heap.size + 1 := ⟨_, rfl⟩
  have R1 := Lib.hid (show RowW ((w.alloc (.cells #[.string ⟨#[]⟩] 9)).alloc (.cells #[.slice (some ⟨w.heap.size, 0, none⟩) 1 1, .bool false, .bool false] 114)) rb w.heap.size (some ⟨w.heap.size, 0, none⟩) 1 [⟨#[]⟩] false false from by
    subst hrb
    refine ⟨?_, ?_⟩
    · have := heap_alloc_new (w.alloc (.cells #[.string ⟨#[]⟩] 9)) (.cells #[.slice (some ⟨w.heap.size, 0, none⟩) 1 1, .bool false, .bool false] 114)
      rw [World.size_alloc] at this
      exact this
    · exact (World.ownsRow_lit w #[.string ⟨#[]⟩] 1 (Nat.le_refl _) (by unfold maxLen; omega) rfl).alloc _)
  have G1 := Lib.hid ((World.grownBy_alloc w (.cells #[.string ⟨#[]⟩] 9) none).trans (World.grownBy_alloc _ (.cells #[.slice (some ⟨w.heap.size, 0, none⟩) 1 1, .bool false, .bool false] 114) none))
  clear S hR hps hE hO hV hA hz
  go_enter Tryz.func36, Tryz.ntmps36
  go_upto_region 2 with fail
  generalize World.alloc (World.alloc _ _) _ = w1 at R1 G1 ⊢
  rw [← hrb]
  obtain ⟨base, hbase⟩ : ∃ base, w.heap.size = base := ⟨_, rfl⟩
  rw [hbase] at R1
  have HBL := Lib.hid hbase
  have HGS := Lib.hid (show ∀ k, G k → k < base from fun k hk => by have := (HS.out.g k hk).1; omega)
  have I1 := Lib.hid (show LstI V O ps w0 w sb m n 0 pv ov G rb base (some ⟨base, 0, none⟩) 1 [⟨#[]⟩] false false G w1 from
    ⟨HS.out.grown G1.out, R1.out, fun k hk => .inl hk, fun k hk hg => by
      have h1 := HGS.out k hg
      rcases hk with rfl | hk
      · omega
      · simp [Value.ownBlock] at hk; omega, ⟨([], []), rfl, rel_start⟩, ok_start, OutF.of G1.out⟩)
  have hsb : sb < base ∧ m < base := by omega
  have hrbb : base ≤ rb := by omega
  rw [hbase]
  clear R1 G1 hbase hrb
  go_wp2
  go_loopw [9, 10, 15] (fun _ _ i wr => ∃ (j : Nat) (pa : Option Addr) (pc : Nat) (P : List ByteArray) (lg qb : Bool) (Gj : Nat → Prop), j ≤ ps.length ∧ i = .int .i64 j ∧ Hid (LstI V O ps w0 w sb m n j pv ov G rb base pa pc P lg qb Gj wr)) (fun _ _ i _ => ps.length - (intOf i).toNat)
  case atStart => exact ⟨0, _, _, _, _, _, _, Nat.zero_le _, rfl, I1⟩
  case round =>
    obtain ⟨j, pa, pc, P, lg, qb, Gj, hj, rfl, hI⟩ := hrel
    obtain ⟨o1, o2, o3⟩ := ok_of hI.out.k
    have hwr : base ≤ wr.heap.size := by have := hI.out.o.size; have := HBL.out; omega
    have hw0 : w0.heap.size ≤ base := by have := HS.out.g0.size; have := HBL.out; omega
    by_cases hlt : j < ps.length
    · obtain ⟨b, off, c, p, ev, hx, hb, c0, c1, c2, c3⟩ := (HR.out.grown hI.out.s.g0).at j hlt
      injection ev with ev1 ev2 ev3
      subst ev1 ev3
      have hsp := HP.out p (List.mem_of_getElem? hx)
      have g4 := World.grownBy_alloc wr (.cells #[.int .i64 p.k, .string p.t, .string p.f, .string p.o] 57) none
      have B4 := Lib.hid (heap_alloc_new wr (.cells #[.int .i64 p.k, .string p.t, .string p.f, .string p.o] 57))
      have G4 := Lib.hid g4
      have S4 := Lib.hid (hI.out.s.grown g4)
      have R4 := Lib.hid (hI.out.r.grown g4)
      have Z4 := Lib.hid (show (wr.alloc (.cells #[.int .i64 p.k, .string p.t, .string p.f, .string p.o] 57)).heap.size = wr.heap.size + 1 from World.size_alloc _ _)
      have HX := Lib.hid hx
      have hrlt : rb < wr.heap.size := (Array.getElem?_eq_some_iff.1 hI.out.r.r).1
      have holt : ∀ k, (Value.slice pa P.length pc).ownBlock = some k → base ≤ k ∧ k < wr.heap.size := hI.out.r.o.lt
      clear hb g4 hx
      go_upto_region 5 with fail
      obtain ⟨pb, hpb⟩ : ∃ pb, wr.heap.size = pb := ⟨_, rfl⟩
      rw [hpb] at B4 Z4 hrlt holt ⊢
      generalize wr.alloc _ = w4 at B4 G4 S4 R4 Z4 ⊢
      have hz4 := Z4.out
      obtain ⟨d0, d1, d2, d3⟩ := four_px B4.out
      clear c0 c1 c2 c3
      have CP := Lib.hid (CW.out j hlt p Gj w4 S4.out hsp)
      obtain ⟨x, hpx⟩ : ∃ x, pcE V O p = x := ⟨_, rfl⟩
      rw [hpx] at CP
      obtain ⟨ts, hts, hrl⟩ := hI.out.t
      cases x with
      | error k =>
        have hk0 := pc_num hpx
        have HN := Lib.hid (show wordE V O ps = .error k from wdS_bad HX.out hts hpx)
        clear hpx hts hrl
        go_wp2_with fail
        refine CP.out.mono ?_
        rintro e w5 ⟨s5, x5, v5, L5, he, t5, -⟩
        rw [show exN (.error k) = k from rfl, errV_ne (by omega)] at he
        subst he
        obtain ⟨a5, c5, rfl, -⟩ := t5.shape
        have X5 := Lib.hid (show OutF (SbF sb m) w w5 from (hI.out.o.step (OutF.of (F := SbF sb m) G4.out) (fun k hk => .inl hk)).step x5 (fun k hk => .inl hk))
        have S5 := Lib.hid (show SrcW w0 w5 sb O pv ov m (n + ps.length) (Gn G w w5) from wide_n s5 (by omega) (fun k hk => by
          rcases hk with hk | hk
          · exact hI.out.g k hk
          · right; have := HBL.out; omega) HS.out.g (X5.out.size) ⟨hl1, hl2⟩)
        clear s5 x5 t5 CP d0 d1 d2 d3
        go_wp2
        go_ret2
        rw [HN.out]
        exact ⟨S5.out, X5.out, _, [], by rw [show exN (.error k) = k from rfl, errV_ne (by omega)]; rfl, tx_nilP _, rfl⟩
      | ok L =>
        have HN := Lib.hid (wdS_go HX.out hts hpx)
        have HL := Lib.hid (HPL.out p L hsp hpx)
        have HRL := Lib.hid hrl
        clear hpx hts hrl
        go_wp2_with fail
        refine CP.out.mono ?_
        rintro e w5 ⟨s5, x5, v5, L5, he, t5, hL5⟩
        rw [show exN (.ok L) = 0 from rfl, errV_zero] at he
        subst he
        have e5 : txL L5 = L := hL5
        clear hL5
        subst e5
        obtain ⟨a5, c5, rfl, -⟩ := t5.shape
        have R5 := Lib.hid (R4.out.outS x5 (by omega) (by omega))
        have B5 := Lib.hid ((x5.block pb (by omega) (fun hf => by rcases hf with h | h <;> omega)).trans B4.out)
        have HH := Lib.hid (show ∀ k, Gn Gj w4 w5 k → k ≠ rb ∧ (Value.slice pa P.length pc).ownBlock ≠ some k from fun k hk => by
          rcases hk with hk | hk
          · exact ⟨fun e => hI.out.a k (.inl e) hk, fun e => hI.out.a k (.inr e) hk⟩
          · exact ⟨by omega, fun e => by have := holt k e; omega⟩)
        have hz5 : w4.heap.size ≤ w5.heap.size := x5.size
        have CA := Lib.hid (pAdd17 rb base pa pc P lg qb _ L5 (Gn Gj w4 w5) w5 R5.out hI.out.k t5 HH.out ⟨by have := HL.out.1; simpa using this, fun y hy => by have := HL.out.2 _ (List.mem_map_of_mem hy); simpa using this⟩ (by omega))
        have S5 := Lib.hid s5
        have X5 := Lib.hid (show OutF (SbF sb m) w w5 from (hI.out.o.step (OutF.of (F := SbF sb m) G4.out) (fun k hk => .inl hk)).step x5 (fun k hk => .inl hk))
        clear s5 x5 t5 CP d0 d1 d2 d3 S4 R4 B4 G4
        go_wp2_with fail
        refine CA.out.mono ?_
        rintro e w6 ⟨⟨u6, rfl⟩, pa6, pc6, P6, lg6, r6, e6, x6, f6⟩
        have hnr : ∀ k, RwF rb (.slice pa P.length pc) k → ¬ Gn Gj w4 w5 k := fun k hk hg => by
          rcases hk with h | h
          · exact (HH.out k hg).1 h
          · exact (HH.out k hg).2 h
        have S6 := Lib.hid (S5.out.out x6 (fun k hk => by
          have h1 := R5.out.cells k hk
          refine ⟨by omega, by omega, hnr k hk, h1.2⟩))
        have hpbr : pb ≠ rb := by omega
        have B6 := Lib.hid ((x6.block pb (by omega) (fun hf => by
          rcases hf with h | h
          · exact hpbr h
          · have := holt pb h; omega)).trans B5.out)
        have X6 := Lib.hid (show OutF (SbF sb m) w w6 from X5.out.step x6 (fun k hk => by
          right
          have h1 := (R5.out.cells k hk).1
          have := HBL.out; omega))
        have R6 := Lib.hid r6
        have A6 := Lib.hid (show ∀ k, RwF rb (.slice pa6 P6.length pc6) k → ¬ Gn Gj w4 w5 k from fun k hk hg => by
          rcases hk with h | h
          · exact (HH.out k hg).1 h
          · rcases f6 k h with h2 | h2
            · exact (HH.out k hg).2 h2
            · have := (S5.out.g k hg).1; omega)
        have T6 := Lib.hid (show RelP (txL P6, lg6) (goD ts (txL L5)) by rw [e6]; exact rel_add HRL.out _)
        have K6 := Lib.hid (show OkP (txL P6, lg6) by rw [e6]; exact ok_add hI.out.k _)
        have GG := Lib.hid (show ∀ k, Gn Gj w4 w5 k → G k ∨ w.heap.size ≤ k from fun k hk => by
          rcases hk with hk | hk
          · exact hI.out.g k hk
          · right; have := HBL.out; omega)
        clear r6 e6 x6 f6 CA B5 S5 X5 R5 hnr
        obtain ⟨d0, d1, d2, d3⟩ := four_px B6.out
        obtain ⟨r0, r1, r2⟩ := three_rw R6.out.r
        have fr := frozen_of_row w6 rb 2 _ _ R6.out.r
        have NX := Lib.hid (fun (q' : Bool) (hq : q' = (qb || decide (p.k = 1))) => show LstI V O ps w0 w sb m n (j + 1) pv ov G rb base pa6 pc6 P6 lg6 q' (Gn Gj w4 w5) (w6.setCell ⟨rb, 2, none⟩ (.bool q')) from by
          have g9 : w6.grownBy (w6.setCell ⟨rb, 2, none⟩ (.bool q')) (some rb) := ⟨rfl, rfl, rfl, by rw [World.size_setCell]; exact Nat.le_refl _, fun k hk hne => heap_setCell_other w6 ⟨rb, 2, none⟩ k _ (fun e => hne (by rw [e]))⟩
          have o9 : OutF (fun k => k = rb) w6 (w6.setCell ⟨rb, 2, none⟩ (.bool q')) := OutF.row g9 (fun k e => (Option.some.inj e).symm)
          exact ⟨S6.out.out o9 (fun k hk => by
              subst hk
              exact ⟨by omega, by omega, A6.out k (.inl rfl), _, _, R6.out.r⟩),
            ⟨heap_setCell_same _ rb 2 _ _ _ R6.out.r, R6.out.o.kept g9 (.inr R6.out.ne)⟩, GG.out, A6.out, ⟨_, by rw [HN.out, hq], T6.out⟩, K6.out,
            X6.out.step o9 (fun k hk => .inr (by have := HBL.out; omega))⟩)
        cases qb with
        | true =>
          have N2 := Lib.hid (NX.out true rfl)
          go_wp2
          go_roundw
          case rel => exact ⟨j + 1, pa6, pc6, P6, lg6, true, _, hlt, by go_num, N2⟩
          case measure => simp [intOf]; omega
        | false =>
          by_cases hk1 : p.k = 1
          · have e1 : (p.k == 1) = true := by rw [hk1]; rfl
            have N2 := Lib.hid (NX.out true (by simp [hk1]))
            go_wp2
            go_roundw
            case rel => exact ⟨j + 1, pa6, pc6, P6, lg6, true, _, hlt, by go_num, N2⟩
            case measure => simp [intOf]; omega
          · have e1 : (p.k == 1) = false := by simpa using hk1
            have N2 := Lib.hid (NX.out false (by simp [hk1]))
            go_wp2
            go_roundw
            case rel => exact ⟨j + 1, pa6, pc6, P6, lg6, false, _, hlt, by go_num, N2⟩
            case measure => simp [intOf]; omega
    · obtain ⟨ts, hts, hrl⟩ := hI.out.t
      rw [List.take_of_length_le (by omega)] at hts
      have HN := Lib.hid (show wordE V O ps = endP (txL P, lg) qb by unfold wordE; rw [hts]; exact (rel_end hrl qb).symm)
      have CE := Lib.hid (pEnd17 A rb base pa pc P lg qb wr hI.out.r hI.out.k (HE.out.grown hI.out.s.g0))
      clear hts hrl
      go_wp2_with fail
      refine CE.out.mono ?_
      rintro e w3 ⟨g3, v3, L3, rfl, t3, h3, -⟩
      have S3 := Lib.hid (show SrcW w0 w3 sb O pv ov m (n + ps.length) (Gn G w w3) from wide_n (hI.out.s.grown g3) (by omega) hI.out.g HS.out.g (Nat.le_trans hI.out.o.size g3.size) ⟨hl1, hl2⟩)
      have X3 := Lib.hid (show OutF (SbF sb m) w w3 from hI.out.o.step (OutF.of (F := SbF sb m) g3) (fun k hk => .inl hk))
      have T3 := Lib.hid t3
      have H3 := Lib.hid h3
      clear g3 t3 h3 CE
      go_wp2
      go_ret2
      rw [HN.out]
      exact ⟨S3.out, X3.out, v3, L3, rfl, T3.out, H3.out⟩
end Go.Proofs.YtcmfmfkpmgoieaaGreatDoor

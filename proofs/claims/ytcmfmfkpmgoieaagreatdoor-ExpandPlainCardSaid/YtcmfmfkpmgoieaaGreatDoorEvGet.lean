/- Package env: Find, Get, Unset. Package env: Set. -/
import Derived.Test.YtcmfmfkpmgoieaaGreatDoorEvFn
import Derived.StillTailTactics
import Derived.Deep.RegionHeld3
import Derived.StillTactics
namespace Go.Proofs.YtcmfmfkpmgoieaaGreatDoor
open Go.RowKit Go.Maps

theorem tx_nilV (w : World) (G : Nat → Prop) : TxG w G (.slice none 0 0) [] := ⟨⟨none, 0, rfl, ⟨by decide, fun _ => rfl⟩, fun h => absurd rfl h⟩, fun h => absurd rfl h⟩
theorem EvZ.got {w : World} {p b : Nat} {F : Nat → Prop} {Z : List Vz} (h : EvZ w p b F Z) (s : ByteArray) : TxRow w (gotZ Z s).u (gotZ Z s).ws ∧ (gotZ Z s).ws.length ≤ 100 := by
  unfold gotZ
  cases hf : Z.find? (fun x => decide (x.n = s)) with
  | none => exact ⟨(tx_nilV w (fun _ => True)).1, by simp [nilZ]⟩
  | some x =>
    have hm := List.mem_of_find?_eq_some hf
    exact ⟨(h.t x hm).1, (h.s x hm).2⟩
theorem EvZ.okz {w : World} {p b : Nat} {F : Nat → Prop} {Z : List Vz} (h : EvZ w p b F Z) : OkZ Z :=
  ⟨h.m.ris.imp fun hab e => by rw [e] at hab; exact absurd hab (List.lt_irrefl _), h.n⟩
/-- what was found, with words of its own -/
def PFz (g : Vz) (q : Bool) (w : World) (e : Ending) (w' : World) : Prop :=
  ∃ a c, e = .returned (.tuple #[.agg #[.string g.n, .slice a g.ws.length c, .int .i64 g.lv, .bool g.hd], .bool q]) ∧ TxG w' (fun b => w.heap.size ≤ b) (.slice a g.ws.length c) g.ws ∧ w.grownBy w' none
set_option maxRecDepth 100000 in
set_option maxHeartbeats 2000000 in
theorem pFind (p b : Nat) (F : Nat → Prop) (Z : List Vz) (s : ByteArray) (w : World) (h : EvZ w p b F Z) (hs : s.size ≤ 5000) :
    Calls Tryz.prog 92 #[.pointer (some ⟨p, 0, none⟩), .string s] w (PFz (gotZ Z s) (hasZ Z s) w) := by
  have g1 := World.grownBy_alloc w (.cells #[.string ⟨#[]⟩, .slice none 0 0, .int .i64 0, .bool false] 67) none
  have b1 := heap_alloc_new w (.cells #[.string ⟨#[]⟩, .slice none 0 0, .int .i64 0, .bool false] 67)
  have z1 : (w.alloc (.cells #[.string ⟨#[]⟩, .slice none 0 0, .int .i64 0, .bool false] 67)).heap.size = w.heap.size + 1 := Array.size_push _
  have h1 := h.grown g1
  obtain ⟨gt, gl⟩ := h1.got s
  have hl := h1.m.look_ok (s := s) (by unfold maxLen; omega)
  have hc := h1.c
  obtain ⟨g, eg⟩ : ∃ g, gotZ Z s = g := ⟨_, rfl⟩
  obtain ⟨q, eq⟩ : ∃ q, hasZ Z s = q := ⟨_, rfl⟩
  rw [eg] at gt gl hl ⊢
  rw [eq] at hl ⊢
  obtain ⟨gn, gws, glv, ghd, gu⟩ := g
  obtain ⟨ga, gc, eu, -⟩ := id gt
  simp only at eu gt gl hl
  subst eu
  have GT := Lib.hid gt; have GL := Lib.hid gl; have G1 := Lib.hid g1; have B1 := Lib.hid b1
  clear gt gl g1 b1 h h1 eg eq
  go_enter Tryz.func92, Tryz.ntmps92
  go_upto_region 1 with fail
  generalize w.alloc (.cells #[.string ⟨#[]⟩, .slice none 0 0, .int .i64 0, .bool false] 67) = w1 at hl hc z1 GT G1 B1 ⊢
  go_upto_region 2 with (go_at_call 104; refine (pAll p b _ hc).mono ?_; rintro e w' ⟨rfl, rfl⟩)
  have g2 := World.grownBy_alloc w1 (.cells #[.string gn, .slice ga gws.length gc, .int .i64 glv, .bool ghd] 67) none
  have b2 := heap_alloc_new w1 (.cells #[.string gn, .slice ga gws.length gc, .int .i64 glv, .bool ghd] 67)
  rw [z1] at b2
  generalize w1.alloc _ = w2 at g2 b2 ⊢
  have B2 := Lib.hid b2
  have B3 := Lib.hid (heap_grown g2 B1.out)
  have T2 := Lib.hid (GT.out.later (below_of_grown g2))
  have G2 := Lib.hid (G1.out.trans g2)
  obtain ⟨k, ek⟩ : ∃ k, w.heap.size = k := ⟨_, rfl⟩
  rw [ek] at B2 B3 ⊢
  have EK := Lib.hid ek
  clear g2 b2 z1 hl hc B1 GT G1 ek
  obtain ⟨c0, c1, c2, c3⟩ := four_vx B2.out
  have fr := free4V B3.out
  obtain ⟨d0, d1, d2, d3⟩ := four_vx B3.out
  go_wp2_with (go_at_call 41; (with_reducible refine (pApart gn gws glv ghd ga gc _ T2.out GL.out).mono ?_); rintro e w3 ⟨a', c', rfl, ht, g3⟩; have T3 := Lib.hid ht.tx; have G3 := Lib.hid g3; have B4 := Lib.hid (heap_grown g3 B3.out); clear ht g3 c0 c1 c2 c3 fr d0 d1 d2 d3; have fr := free4V B4.out; obtain ⟨d0, d1, d2, d3⟩ := four_vx B4.out)
  refine bodyPost_ret (back2V (a0 := .string gn) (a1 := .slice a' gws.length c') (a2 := .int .i64 glv) (a3 := .bool ghd) (u := .bool q) Tryz.results92 rfl rfl (set4V B4.out _ _ _ _)) rfl ?_
  have hk := EK.out
  have hk2 := (Array.getElem?_eq_some_iff.1 B2.out).1
  exact ⟨a', c', rfl, (T3.out.keep (keep4V (KeepG.refl _ _) (by omega) _ _ _ _)).more fun b hb _ => by omega, grown_of_below (below4V (below_of_grown (G2.out.trans G3.out)) _ _ _ _ (by omega))⟩

set_option maxRecDepth 100000 in
set_option maxHeartbeats 1000000 in
theorem pGetF (p b : Nat) (F : Nat → Prop) (Z : List Vz) (s : ByteArray) (w : World) (h : EvZ w p b F Z) (hs : s.size ≤ 5000) :
    Calls Tryz.prog 75 #[.pointer (some ⟨p, 0, none⟩), .string s] w fun e w' => w.grownBy w' none ∧ ∃ u, e = .returned u ∧ TxG w' (fun k => w.heap.size ≤ k) u (gotZ Z s).ws := by
  have CF := Lib.hid (pFind p b F Z s w h hs)
  obtain ⟨g, eg⟩ : ∃ g, gotZ Z s = g := ⟨_, rfl⟩
  obtain ⟨q, eq⟩ : ∃ q, hasZ Z s = q := ⟨_, rfl⟩
  rw [eg, eq] at CF
  rw [eg]
  clear h eg eq
  obtain ⟨gn, gws, glv, ghd, gu⟩ := g
  go_enter Tryz.func75, Tryz.ntmps75
  go_upto_region 2 with (go_at_call 92; (with_reducible refine (CF.out).mono ?_); rintro e w3 ⟨a', c', rfl, ht, g3⟩; have T3 := Lib.hid ht; have G3 := Lib.hid g3; clear ht g3)
  have g4 := World.grownBy_alloc w3 (.cells #[.string gn, .slice a' gws.length c', .int .i64 glv, .bool ghd] 67) none
  have b4 := heap_alloc_new w3 (.cells #[.string gn, .slice a' gws.length c', .int .i64 glv, .bool ghd] 67)
  generalize w3.alloc _ = w4 at g4 b4 ⊢
  generalize w3.heap.size = k at b4 ⊢
  have T4 := Lib.hid (T3.out.keep (KeepG.grown g4))
  have G4 := Lib.hid (G3.out.trans g4)
  obtain ⟨d0, d1, d2, d3⟩ := four_vx b4
  clear b4 g4
  go_wp2
  go_ret
  exact ⟨G4.out, _, rfl, T4.out⟩
theorem pGet (p b : Nat) (F : Nat → Prop) (Z : List Vz) (s : ByteArray) (w : World) (h : EvZ w p b F Z) (hs : s.size ≤ 100) :
    Calls Tryz.prog 75 #[.pointer (some ⟨p, 0, none⟩), .string s] w fun e w' => w.grownBy w' none ∧ ∃ u, e = .returned u ∧ TxRow w' u (gotZ Z s).ws :=
  (pGetF p b F Z s w h (by omega)).mono fun _ _ ⟨g, u, he, hr⟩ => ⟨g, u, he, hr.1⟩

/-- a map has been changed: what the Env holds then; what is new in it lies in new blocks -/
theorem EvZ.turn {w w' : World} {p b B : Nat} {F : Nat → Prop} {Z Z' : List Vz} (h : EvZ w p b F Z) (g : w.grownBy w' (some b)) (hm : MapV w' b Z') (hn : Z'.length ≤ 24) (hp : p < B) (hb : b < B)
    (ht : ∀ x ∈ Z', x ∈ Z ∨ (TxG w' (fun k => B ≤ k) x.u x.ws ∧ x.n.size ≤ 100 ∧ x.ws.length ≤ 100)) : EvZ w' p b (fun k => F k ∨ (B ≤ k ∧ k < w'.heap.size)) Z' := by
  refine ⟨g.cell h.c (fun e => h.ne (Option.some.inj e)), hm, hn, .inl h.fp, .inl h.fb, fun k hk => ?_, fun x hx => ?_, fun x hx => ?_⟩
  · rcases hk with hk | hk
    · exact Nat.lt_of_lt_of_le (h.lt k hk) g.size
    · exact hk.2
  · rcases ht x hx with hz | ⟨hz, -⟩
    · exact ((h.t x hz).keep (KeepG.but g fun hk => hk.2.2 rfl)).more fun k hk _ => ⟨.inl hk.1, hk.2⟩
    · exact hz.more fun k hk hl => ⟨.inr ⟨hk, hl⟩, by omega, by omega⟩
  · rcases ht x hx with hz | ⟨-, hz⟩
    · exact h.s x hz
    · exact hz
theorem OutF.but {F : Nat → Prop} {w w' : World} {b : Nat} (g : w.grownBy w' (some b)) (hb : F b) : OutF F w w' :=
  ⟨g.os, g.tape, g.output, g.size, fun k hk hF => g.block k hk (by rintro e; cases e; exact hF hb)⟩
theorem find_none_filter {Z : List Vz} {s : ByteArray} (h : hasZ Z s = false) : (Z.filter fun x => !decide (x.n = s)) = Z := by
  unfold hasZ at h
  rw [Option.isSome_eq_false_iff, Option.isNone_iff_eq_none, List.find?_eq_none] at h
  exact List.filter_eq_self.2 fun x hx => by simpa using h x hx
end Go.Proofs.YtcmfmfkpmgoieaaGreatDoor

namespace Go.Proofs.YtcmfmfkpmgoieaaGreatDoor
open Go.RowKit Go.Maps

/-- what Set answers, and what there is then -/
def PSet (A : Nat → Addr) (F : Nat → Prop) (p : Nat) (Z : List Vz) (x : Vz) (w : World) (e : Ending) (w' : World) : Prop :=
  e = .returned (errV A (putZ Z x).1) ∧ OutF F w w' ∧ ∃ b F' Z', EvZ w' p b F' Z' ∧ vbL Z' = vbL (putZ Z x).2 ∧ ∀ k, F' k → F k ∨ w.heap.size ≤ k
theorem pSet_same {A : Nat → Addr} {F : Nat → Prop} {p b k : Nat} {Z : List Vz} {x : Vz} {w w' : World} (hk : (putZ Z x) = (k, Z)) (h : EvZ w p b F Z) (g : w.grownBy w' none) : PSet A F p Z x w (.returned (errV A k)) w' :=
  ⟨by rw [hk], OutF.of g, b, F, Z, h.grown g, by rw [hk], fun _ hk => .inl hk⟩
theorem put_has {Z : List Vz} {x y : Vz} (h0 : chkV x.b = 0) (h : hasZ Z x.n = true) (hy : gotZ Z x.n = y) : putZ Z x = if x.lv < y.lv then (0, Z) else (0, setZ Z x) := by
  unfold hasZ at h
  unfold gotZ at hy
  unfold putZ
  rw [if_neg (by rw [h0]; simp)]
  cases hf : Z.find? (fun y => decide (y.n = x.n)) with
  | none => rw [hf] at h; cases h
  | some z =>
    rw [hf] at hy
    obtain rfl : z = y := hy
    rfl
theorem put_not {Z : List Vz} {x : Vz} (h0 : chkV x.b = 0) (h : hasZ Z x.n = false) : putZ Z x = if 24 ≤ Z.length then (10, Z) else (0, setZ Z x) := by
  unfold hasZ at h
  unfold putZ
  rw [if_neg (by rw [h0]; simp)]
  cases hf : Z.find? (fun y => decide (y.n = x.n)) with
  | none => rfl
  | some z => rw [hf] at h; cases h
theorem has_mem {Z : List Vz} {s : ByteArray} (h : hasZ Z s = true) : ∃ y ∈ Z, y.n = s := by
  unfold hasZ at h
  rw [List.find?_isSome] at h
  obtain ⟨y, hy, e⟩ := h
  exact ⟨y, hy, by simpa using e⟩
/-- what is left when the map has been written -/
theorem pSet_new {A : Nat → Addr} {F : Nat → Prop} {p b : Nat} {Z : List Vz} {n : ByteArray} {ws : List ByteArray} {lv : Int} {hd : Bool} {u u' : Value} {w w5 w6 : World} (hk : putZ Z ⟨n, ws, lv, hd, u⟩ = (0, setZ Z ⟨n, ws, lv, hd, u⟩)) (h0 : EvZ w p b F Z) (g5 : w.grownBy w5 none)
    (ht : TxG w5 (fun k => w.heap.size ≤ k) u' ws) (hn : n.size ≤ 100) (hl : ws.length ≤ 100) (hr : (∃ y ∈ Z, y.n = n) ∨ Z.length < 24) (hm : MapV w6 b (setZ Z ⟨n, ws, lv, hd, u'⟩)) (g6 : w5.grownBy w6 (some b)) :
    PSet A F p Z ⟨n, ws, lv, hd, u⟩ w (.returned .nilIface) w6 := by
  have hb := h0.lt b h0.fb
  have hp := h0.lt p h0.fp
  have o1 := OutF.of (F := F) g5
  have o2 := OutF.but g6 h0.fb
  refine ⟨by rw [hk]; rfl, ⟨o2.os.trans o1.os, o2.tape.trans o1.tape, o2.output.trans o1.output, Nat.le_trans o1.size o2.size, fun k hk hF => (o2.block k (Nat.lt_of_lt_of_le hk o1.size) hF).trans (o1.block k hk hF)⟩, b, _, _,
    (h0.grown g5).turn (B := w.heap.size) g6 hm (set_ok h0.okz hr).2 hp hb fun x hx => ?_, ?_, ?_⟩
  · rcases set_mem hx with hx | rfl
    · exact .inl hx
    · exact .inr ⟨ht.keep (KeepG.but g6 (by show ¬ w.heap.size ≤ b; omega)), hn, hl⟩
  · rw [hk]
    have e1 := vb_set Z ⟨n, ws, lv, hd, u'⟩
    have e2 := vb_set Z ⟨n, ws, lv, hd, u⟩
    rw [← e1, ← e2]; rfl
  · rintro k (hk | hk)
    · exact .inl hk
    · exact .inr hk.1
/-- what the walk's region reads -/
def RdV (p b q : Nat) (n : ByteArray) (u : Value) (lv : Int) (hd : Bool) (W : World) : Prop :=
  W.cell? ⟨p, 0, none⟩ = some (.map (some b)) ∧ W.cell? ⟨q, 0, none⟩ = some (.string n) ∧ W.cell? ⟨q, 1, none⟩ = some u ∧ W.cell? ⟨q, 2, none⟩ = some (.int .i64 lv) ∧ W.cell? ⟨q, 3, none⟩ = some (.bool hd)
theorem RdV.kept {p b q : Nat} {n : ByteArray} {u : Value} {lv : Int} {hd : Bool} {W W' : World} {r : Option Nat} (h : RdV p b q n u lv hd W) (g : W.grownBy W' r) (hp : some p ≠ r) (hq : some q ≠ r) : RdV p b q n u lv hd W' :=
  ⟨g.cell h.1 hp, g.cell h.2.1 hq, g.cell h.2.2.1 hq, g.cell h.2.2.2.1 hq, g.cell h.2.2.2.2 hq⟩
set_option maxRecDepth 100000 in
set_option maxHeartbeats 4000000 in
theorem pSet (A : Nat → Addr) (p b : Nat) (F : Nat → Prop) (Z : List Vz) (n : ByteArray) (ws : List ByteArray) (lv : Int) (hd : Bool) (a : Option Addr) (c : Nat) (w : World) (hE : Sents LV A w) (h : EvZ w p b F Z)
    (hx : TxG w (fun k => ¬F k) (.slice a ws.length c) ws) (hn : n.size ≤ 100) (hl : ws.length ≤ 100) :
    Calls Tryz.prog 28 #[.pointer (some ⟨p, 0, none⟩), .agg #[.string n, .slice a ws.length c, .int .i64 lv, .bool hd]] w (PSet A F p Z ⟨n, ws, lv, hd, .slice a ws.length c⟩ w) := by
  have g1 := World.grownBy_alloc w (.cells #[.string n, .slice a ws.length c, .int .i64 lv, .bool hd] 67) none
  have b1 := heap_alloc_new w (.cells #[.string n, .slice a ws.length c, .int .i64 lv, .bool hd] 67)
  have z1 : (w.alloc (.cells #[.string n, .slice a ws.length c, .int .i64 lv, .bool hd] 67)).heap.size = w.heap.size + 1 := Array.size_push _
  have HH := Lib.hid h; have HX := Lib.hid hx; have HE := Lib.hid hE
  have hpl := h.lt p h.fp
  have hbl := h.lt b h.fb
  clear h hx hE
  generalize ew : w.alloc (.cells #[.string n, .slice a ws.length c, .int .i64 lv, .bool hd] 67) = w1 at g1 b1 z1
  have CC := Lib.hid (pCheck A n ws lv hd a c w1 (HE.out.kept g1 (by simp)) (HX.out.1.later (below_of_grown g1)) hn hl)
  obtain ⟨k, hk⟩ : ∃ k, chkV ⟨n, ws, lv, hd⟩ = k := ⟨_, rfl⟩
  rw [hk] at CC
  have HK := Lib.hid hk
  have G1 := Lib.hid g1; have B1 := Lib.hid b1
  subst ew
  clear hk g1 b1
  by_cases h0 : k = 0
  case neg =>
    have HP := Lib.hid (show putZ Z ⟨n, ws, lv, hd, .slice a ws.length c⟩ = (k, Z) by unfold putZ Vz.b; rw [HK.out, if_pos h0])
    have ev : errV A k = .iface 194 (.pointer (some (A k))) := by unfold errV; rw [if_neg h0]
    unfold PChk at CC
    rw [ev] at CC
    have EV := Lib.hid ev
    clear ev z1
    go_enter Tryz.func28, Tryz.ntmps28
    go_upto_region 1 with fail
    generalize w.alloc _ = w1 at CC G1 B1 ⊢
    generalize w.heap.size = q at B1 ⊢
    obtain ⟨d0, d1, d2, d3⟩ := four_vx B1.out
    go_wp2_with (go_at_call 40; (with_reducible refine (CC.out).mono ?_); rintro e w3 ⟨rfl, g3⟩; have G3 := Lib.hid (G1.out.trans g3); clear g3)
    go_ret
    have := pSet_same (A := A) HP.out HH.out G3.out
    rw [EV.out] at this
    exact this
  subst h0
  unfold PChk at CC
  rw [show errV A 0 = .nilIface from rfl] at CC
  have hlk := fun (x : World) (hx : MapV x b Z) => hx.look_ok (s := n) (by unfold maxLen; omega)
  obtain ⟨gt, -⟩ := HH.out.got n
  obtain ⟨q, eq⟩ : ∃ q, hasZ Z n = q := ⟨_, rfl⟩
  have EQ := Lib.hid eq
  obtain ⟨g, eg⟩ : ∃ g, gotZ Z n = g := ⟨_, rfl⟩
  have EG := Lib.hid eg
  rw [eq, eg] at hlk
  rw [eg] at gt
  obtain ⟨gn, gws, glv, ghd, gu⟩ := g
  obtain ⟨ga, gc, eu, -⟩ := gt
  simp only at eu
  subst eu
  have HLK := Lib.hid hlk
  have Z1 := Lib.hid z1
  have PL := Lib.hid hpl; have BL := Lib.hid hbl
  clear eq eg hlk z1 hpl hbl
  go_enter Tryz.func28, Tryz.ntmps28
  go_upto_region 1 with fail
  generalize w.alloc _ = w1 at CC G1 B1 Z1 ⊢
  obtain ⟨k, ek⟩ : ∃ k, w.heap.size = k := ⟨_, rfl⟩
  rw [ek] at B1 Z1 ⊢
  have EK := Lib.hid ek
  clear ek
  obtain ⟨d0, d1, d2, d3⟩ := four_vx B1.out
  go_upto_region 6 with (go_at_call 40; (with_reducible refine (CC.out).mono ?_); rintro e w3 ⟨rfl, g3⟩; have G3 := Lib.hid (G1.out.trans g3); have B3 := Lib.hid (heap_grown g3 B1.out); have Z3 := Lib.hid (Nat.le_trans (Nat.le_of_eq Z1.out.symm) g3.size); clear g3)
  have H3 := Lib.hid (HH.out.grown G3.out)
  clear d0 d1 d2 d3 CC G1 B1 Z1
  obtain ⟨d0, d1, d2, d3⟩ := four_vx B3.out
  have hc := H3.out.c
  have hm := H3.out.m
  go_region_held3 (fun W => W.cell? ⟨p, 0, none⟩ = some (.map (some b)) ∧ W.cell? ⟨k, 0, none⟩ = some (.string n) ∧
      (Instr.lookup 95 (.map (some b)) (.string n) true).run Tryz.prog W = .ok (.tuple #[.agg #[.string gn, .slice ga gws.length gc, .int .i64 glv, .bool ghd], .bool q]) W)
    (first
      | (go_split_ands
         refine ⟨by go_keep, by go_keep, ?_⟩
         refine HLK.out _ ?_
         repeat (first | exact hm | apply MapV.alloc | apply MapV.drew)))
    (fail)
  all_goals
    have gW : w3.grownBy (w3.alloc (.cells #[.string gn, .slice ga gws.length gc, .int .i64 glv, .bool ghd] 67)).drew none := grown_drew (World.grownBy_alloc _ _ _)
    have oW : (w3.alloc (.cells #[.string gn, .slice ga gws.length gc, .int .i64 glv, .bool ghd] 67)).drew.heap[w3.heap.size]? = some (.cells #[.string gn, .slice ga gws.length gc, .int .i64 glv, .bool ghd] 67 (0, 0)) := heap_alloc_new w3 _
    have hmk : w3.heap.size ≠ k := by have := Z3.out; omega
    generalize (w3.alloc (.cells #[.string gn, .slice ga gws.length gc, .int .i64 glv, .bool ghd] 67)).drew = W at gW oW ⊢
    generalize w3.heap.size = m at oW hmk ⊢
    have HW := Lib.hid (H3.out.grown gW)
    have BW := Lib.hid (heap_grown gW B3.out)
    have OW := Lib.hid oW
    have GW := Lib.hid (G3.out.trans gW)
    clear d0 d1 d2 d3 hc hm gW oW H3 B3 G3 Z3 hmk
    obtain ⟨d0, d1, d2, d3⟩ := four_vx BW.out
    obtain ⟨o0, o1, o2, o3⟩ := four_vx OW.out
    have hcW := HW.out.c
    have hll := fun ty => HW.out.m.len_run ty
    clear d0 d1 d3 o0 o1 o3
    cases q
    · by_cases h24 : 24 ≤ Z.length
      · have e4 : decide ((Z.length : Int) ≥ 24) = true := by simp; omega
        have HP := Lib.hid (show putZ Z ⟨n, ws, lv, hd, .slice a ws.length c⟩ = (10, Z) by rw [put_not (x := ⟨n, ws, lv, hd, .slice a ws.length c⟩) HK.out EQ.out, if_pos h24])
        have s10 := (HE.out.kept GW.out (by simp)) (10, 0) (by simp [LV])
        simp only at s10
        clear d2 o2
        go_wp2
        go_ret
        exact pSet_same HP.out HH.out GW.out
      have HP := Lib.hid (show putZ Z ⟨n, ws, lv, hd, .slice a ws.length c⟩ = (0, setZ Z ⟨n, ws, lv, hd, .slice a ws.length c⟩) by rw [put_not (x := ⟨n, ws, lv, hd, .slice a ws.length c⟩) HK.out EQ.out, if_neg h24])
      have e4 : decide ((Z.length : Int) ≥ 24) = false := by simp; omega
      have HR := Lib.hid (show (∃ y ∈ Z, y.n = n) ∨ Z.length < 24 from .inr (by omega))
      clear d2 o2
      obtain ⟨e0, e1, e2, e3⟩ := four_vx BW.out
      have fM := fun w r => mapVNil w r
      go_upto_region 13 with fail
      have SK := Lib.hid (show ∀ W', W.grownBy W' none → RdV p b k n (.slice a ws.length c) lv hd W' from fun W' g => ⟨g.cell hcW (by simp), g.cell e0 (by simp), g.cell e1 (by simp), g.cell e2 (by simp), g.cell e3 (by simp)⟩)
      have gd : W.grownBy W.drew none := grown_drew (World.grownBy.refl W none)
      have TX := Lib.hid (HX.out.1.later (below_of_grown (GW.out.trans gd)))
      clear fM hll e0 e1 e2 e3
      go_region_held3 (fun W' => W'.cell? ⟨p, 0, none⟩ = some (.map (some b)) ∧ W'.cell? ⟨k, 0, none⟩ = some (.string n) ∧ W'.cell? ⟨k, 1, none⟩ = some (.slice a ws.length c) ∧ W'.cell? ⟨k, 2, none⟩ = some (.int .i64 lv) ∧ W'.cell? ⟨k, 3, none⟩ = some (.bool hd))
        (first
          | exact SK.out _ gd
          | exact SK.out _ (gd.trans g5)
          | exact SK6.out)
        (first | (go_at_call 41; (with_reducible refine (pApart n ws lv hd a c _ TX.out hl).mono ?_); rintro e w5 ⟨a', c', rfl, ht, g5⟩; have T5 := Lib.hid ht.tx; clear ht; obtain ⟨w6, hrun, hm6, hg6⟩ := MapV.store (HW.out.grown (gd.trans g5)).m ⟨n, ws, lv, hd, .slice a' ws.length c'⟩ (by show n.size ≤ _; unfold maxLen; omega) (by have := HW.out.n; unfold maxLen; omega); have M6 := Lib.hid hm6; have G6 := Lib.hid hg6; have SK6 := Lib.hid ((SK.out _ (gd.trans g5)).kept hg6 (fun e => HW.out.ne (Option.some.inj e)) (fun e => by have := Option.some.inj e; have := BL.out; have := EK.out; omega)); clear hm6 hg6))
      all_goals
        go_wp2
        go_ret
        exact pSet_new HP.out HH.out (GW.out.trans (gd.trans g5)) (T5.out.more fun j hj _ => Nat.le_trans (GW.out.trans gd).size hj) hn hl HR.out M6.out G6.out
    · by_cases hlv : lv < glv
      · have e4 : decide (glv > lv) = true := by simp; omega
        have HP := Lib.hid (show putZ Z ⟨n, ws, lv, hd, .slice a ws.length c⟩ = (0, Z) by rw [put_has (x := ⟨n, ws, lv, hd, .slice a ws.length c⟩) HK.out EQ.out EG.out, if_pos hlv])
        go_wp2
        go_ret
        exact pSet_same HP.out HH.out GW.out
      have HP := Lib.hid (show putZ Z ⟨n, ws, lv, hd, .slice a ws.length c⟩ = (0, setZ Z ⟨n, ws, lv, hd, .slice a ws.length c⟩) by rw [put_has (x := ⟨n, ws, lv, hd, .slice a ws.length c⟩) HK.out EQ.out EG.out, if_neg hlv])
      have e4 : decide (glv > lv) = false := by simp; omega
      have HR := Lib.hid (show (∃ y ∈ Z, y.n = n) ∨ Z.length < 24 from .inl (has_mem EQ.out))
      obtain ⟨e0, e1, e2, e3⟩ := four_vx BW.out
      have fM := fun w r => mapVNil w r
      go_upto_region 13 with fail
      have SK := Lib.hid (show ∀ W', W.grownBy W' none → RdV p b k n (.slice a ws.length c) lv hd W' from fun W' g => ⟨g.cell hcW (by simp), g.cell e0 (by simp), g.cell e1 (by simp), g.cell e2 (by simp), g.cell e3 (by simp)⟩)
      have gd : W.grownBy W.drew none := grown_drew (World.grownBy.refl W none)
      have TX := Lib.hid (HX.out.1.later (below_of_grown (GW.out.trans gd)))
      clear fM hll e0 e1 e2 e3
      go_region_held3 (fun W' => W'.cell? ⟨p, 0, none⟩ = some (.map (some b)) ∧ W'.cell? ⟨k, 0, none⟩ = some (.string n) ∧ W'.cell? ⟨k, 1, none⟩ = some (.slice a ws.length c) ∧ W'.cell? ⟨k, 2, none⟩ = some (.int .i64 lv) ∧ W'.cell? ⟨k, 3, none⟩ = some (.bool hd))
        (first
          | exact SK.out _ gd
          | exact SK.out _ (gd.trans g5)
          | exact SK6.out)
        (first | (go_at_call 41; (with_reducible refine (pApart n ws lv hd a c _ TX.out hl).mono ?_); rintro e w5 ⟨a', c', rfl, ht, g5⟩; have T5 := Lib.hid ht.tx; clear ht; obtain ⟨w6, hrun, hm6, hg6⟩ := MapV.store (HW.out.grown (gd.trans g5)).m ⟨n, ws, lv, hd, .slice a' ws.length c'⟩ (by show n.size ≤ _; unfold maxLen; omega) (by have := HW.out.n; unfold maxLen; omega); have M6 := Lib.hid hm6; have G6 := Lib.hid hg6; have SK6 := Lib.hid ((SK.out _ (gd.trans g5)).kept hg6 (fun e => HW.out.ne (Option.some.inj e)) (fun e => by have := Option.some.inj e; have := BL.out; have := EK.out; omega)); clear hm6 hg6))
      all_goals
        go_wp2
        go_ret
        exact pSet_new HP.out HH.out (GW.out.trans (gd.trans g5)) (T5.out.more fun j hj _ => Nat.le_trans (GW.out.trans gd).size hj) hn hl HR.out M6.out G6.out
end Go.Proofs.YtcmfmfkpmgoieaaGreatDoor

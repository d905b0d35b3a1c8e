/- Package env: Find, Get, Unset. -/
import Derived.Test.YtaihpgjimhifcaaDoorEvFn
import Derived.StillTailTactics
namespace Go.Proofs.YtaihpgjimhifcaaDoor
open Go.RowKit Go.Maps

theorem tx_nilV (w : World) (G : Nat → Prop) : TxG w G (.slice none 0 0) [] := ⟨⟨none, 0, rfl, ⟨by decide, fun _ => rfl⟩, fun h => absurd rfl h⟩, fun h => absurd rfl h⟩
theorem EvZ.got {w : World} {p b : Nat} {F : Nat → Prop} {Z : List Vz} (h : EvZ w p b F Z) (s : ByteArray) : TxRow w (gotZ Z s).u (gotZ Z s).ws ∧ (gotZ Z s).ws.length ≤ 100 := by
  unfold gotZ
  cases hf : Z.find? (fun x => decide (x.n = s)) with
  | none => exact ⟨(tx_nilV w (fun _ => True)).1, by simp [nilZ]⟩
  | some x =>
    have hm := List.mem_of_find?_eq_some hf
    exact ⟨(h.t x hm).1, (h.s x hm).2⟩
theorem EvZ.okz {w : World} {p b : Nat} {F : Nat → Prop} {Z : List Vz} (h : EvZ w p b F Z) : OkZ Z :=
  ⟨h.m.ris.imp fun hab e => by rw [e] at hab; exact absurd hab (List.lt_irrefl _), h.n⟩
/-- what was found, with words of its own -/
def PFz (g : Vz) (q : Bool) (w : World) (e : Ending) (w' : World) : Prop :=
  ∃ a c, e = .returned (.tuple #[.agg #[.string g.n, .slice a g.ws.length c, .int .i64 g.lv, .bool g.hd], .bool q]) ∧ TxG w' (fun b => w.heap.size ≤ b) (.slice a g.ws.length c) g.ws ∧ w.grownBy w' none
set_option maxRecDepth 100000 in
set_option maxHeartbeats 2000000 in
theorem pFind (p b : Nat) (F : Nat → Prop) (Z : List Vz) (s : ByteArray) (w : World) (h : EvZ w p b F Z) (hs : s.size ≤ 100) :
    Calls Tryd.prog 18 #[.pointer (some ⟨p, 0, none⟩), .string s] w (PFz (gotZ Z s) (hasZ Z s) w) := by
  have g1 := World.grownBy_alloc w (.cells #[.string ⟨#[]⟩, .slice none 0 0, .int .i64 0, .bool false] 33) none
  have b1 := heap_alloc_new w (.cells #[.string ⟨#[]⟩, .slice none 0 0, .int .i64 0, .bool false] 33)
  have z1 : (w.alloc (.cells #[.string ⟨#[]⟩, .slice none 0 0, .int .i64 0, .bool false] 33)).heap.size = w.heap.size + 1 := Array.size_push _
  have h1 := h.grown g1
  obtain ⟨gt, gl⟩ := h1.got s
  have hl := h1.m.look_ok (s := s) (by unfold maxLen; omega)
  have hc := h1.c
  obtain ⟨g, eg⟩ : ∃ g, gotZ Z s = g := ⟨_, rfl⟩
  obtain ⟨q, eq⟩ : ∃ q, hasZ Z s = q := ⟨_, rfl⟩
  rw [eg] at gt gl hl ⊢
  rw [eq] at hl ⊢
  obtain ⟨gn, gws, glv, ghd, gu⟩ := g
  obtain ⟨ga, gc, eu, -⟩ := id gt
  simp only at eu gt gl hl
  subst eu
  have GT := Lib.hid gt; have GL := Lib.hid gl; have G1 := Lib.hid g1; have B1 := Lib.hid b1
  clear gt gl g1 b1 h h1 eg eq
  go_enter Tryd.func18, Tryd.ntmps18
  go_upto_region 1 with fail
  generalize w.alloc (.cells #[.string ⟨#[]⟩, .slice none 0 0, .int .i64 0, .bool false] 33) = w1 at hl hc z1 GT G1 B1 ⊢
  go_upto_region 2 with (go_at_call 34; refine (pAll p b _ hc).mono ?_; rintro e w' ⟨rfl, rfl⟩)
  have g2 := World.grownBy_alloc w1 (.cells #[.string gn, .slice ga gws.length gc, .int .i64 glv, .bool ghd] 33) none
  have b2 := heap_alloc_new w1 (.cells #[.string gn, .slice ga gws.length gc, .int .i64 glv, .bool ghd] 33)
  rw [z1] at b2
  generalize w1.alloc _ = w2 at g2 b2 ⊢
  have B2 := Lib.hid b2
  have B3 := Lib.hid (heap_grown g2 B1.out)
  have T2 := Lib.hid (GT.out.later (below_of_grown g2))
  have G2 := Lib.hid (G1.out.trans g2)
  obtain ⟨k, ek⟩ : ∃ k, w.heap.size = k := ⟨_, rfl⟩
  rw [ek] at B2 B3 ⊢
  have EK := Lib.hid ek
  clear g2 b2 z1 hl hc B1 GT G1 ek
  obtain ⟨c0, c1, c2, c3⟩ := four_vx B2.out
  have fr := free4V B3.out
  obtain ⟨d0, d1, d2, d3⟩ := four_vx B3.out
  go_wp2_with (go_at_call 33; (with_reducible refine (pApart gn gws glv ghd ga gc _ T2.out GL.out).mono ?_); rintro e w3 ⟨a', c', rfl, ht, g3⟩; have T3 := Lib.hid ht.tx; have G3 := Lib.hid g3; have B4 := Lib.hid (heap_grown g3 B3.out); clear ht g3 c0 c1 c2 c3 fr d0 d1 d2 d3; have fr := free4V B4.out; obtain ⟨d0, d1, d2, d3⟩ := four_vx B4.out)
  refine bodyPost_ret (back2V (a0 := .string gn) (a1 := .slice a' gws.length c') (a2 := .int .i64 glv) (a3 := .bool ghd) (u := .bool q) Tryd.results18 rfl rfl (set4V B4.out _ _ _ _)) rfl ?_
  have hk := EK.out
  have hk2 := (Array.getElem?_eq_some_iff.1 B2.out).1
  exact ⟨a', c', rfl, (T3.out.keep (keep4V (KeepG.refl _ _) (by omega) _ _ _ _)).more fun b hb _ => by omega, grown_of_below (below4V (below_of_grown (G2.out.trans G3.out)) _ _ _ _ (by omega))⟩

set_option maxRecDepth 100000 in
set_option maxHeartbeats 1000000 in
theorem pGet (p b : Nat) (F : Nat → Prop) (Z : List Vz) (s : ByteArray) (w : World) (h : EvZ w p b F Z) (hs : s.size ≤ 100) :
    Calls Tryd.prog 22 #[.pointer (some ⟨p, 0, none⟩), .string s] w fun e w' => w.grownBy w' none ∧ ∃ u, e = .returned u ∧ TxRow w' u (gotZ Z s).ws := by
  have CF := Lib.hid (pFind p b F Z s w h hs)
  obtain ⟨g, eg⟩ : ∃ g, gotZ Z s = g := ⟨_, rfl⟩
  obtain ⟨q, eq⟩ : ∃ q, hasZ Z s = q := ⟨_, rfl⟩
  rw [eg, eq] at CF
  rw [eg]
  clear h eg eq
  obtain ⟨gn, gws, glv, ghd, gu⟩ := g
  go_enter Tryd.func22, Tryd.ntmps22
  go_upto_region 2 with (go_at_call 18; (with_reducible refine (CF.out).mono ?_); rintro e w3 ⟨a', c', rfl, ht, g3⟩; have T3 := Lib.hid ht; have G3 := Lib.hid g3; clear ht g3)
  have g4 := World.grownBy_alloc w3 (.cells #[.string gn, .slice a' gws.length c', .int .i64 glv, .bool ghd] 33) none
  have b4 := heap_alloc_new w3 (.cells #[.string gn, .slice a' gws.length c', .int .i64 glv, .bool ghd] 33)
  generalize w3.alloc _ = w4 at g4 b4 ⊢
  generalize w3.heap.size = k at b4 ⊢
  have T4 := Lib.hid (T3.out.1.later (below_of_grown g4))
  have G4 := Lib.hid (G3.out.trans g4)
  obtain ⟨d0, d1, d2, d3⟩ := four_vx b4
  clear b4 g4
  go_wp2
  go_ret
  exact ⟨G4.out, _, rfl, T4.out⟩

/-- a map has been changed: what the Env holds then; what is new in it lies in new blocks -/
theorem EvZ.turn {w w' : World} {p b B : Nat} {F : Nat → Prop} {Z Z' : List Vz} (h : EvZ w p b F Z) (g : w.grownBy w' (some b)) (hm : MapV w' b Z') (hn : Z'.length ≤ 24) (hp : p < B) (hb : b < B)
    (ht : ∀ x ∈ Z', x ∈ Z ∨ (TxG w' (fun k => B ≤ k) x.u x.ws ∧ x.n.size ≤ 100 ∧ x.ws.length ≤ 100)) : EvZ w' p b (fun k => F k ∨ (B ≤ k ∧ k < w'.heap.size)) Z' := by
  refine ⟨g.cell h.c (fun e => h.ne (Option.some.inj e)), hm, hn, .inl h.fp, .inl h.fb, fun k hk => ?_, fun x hx => ?_, fun x hx => ?_⟩
  · rcases hk with hk | hk
    · exact Nat.lt_of_lt_of_le (h.lt k hk) g.size
    · exact hk.2
  · rcases ht x hx with hz | ⟨hz, -⟩
    · exact ((h.t x hz).keep (KeepG.but g fun hk => hk.2.2 rfl)).more fun k hk _ => ⟨.inl hk.1, hk.2⟩
    · exact hz.more fun k hk hl => ⟨.inr ⟨hk, hl⟩, by omega, by omega⟩
  · rcases ht x hx with hz | ⟨-, hz⟩
    · exact h.s x hz
    · exact hz
theorem OutF.but {F : Nat → Prop} {w w' : World} {b : Nat} (g : w.grownBy w' (some b)) (hb : F b) : OutF F w w' :=
  ⟨g.os, g.tape, g.output, g.size, fun k hk hF => g.block k hk (by rintro e; cases e; exact hF hb)⟩
theorem find_none_filter {Z : List Vz} {s : ByteArray} (h : hasZ Z s = false) : (Z.filter fun x => !decide (x.n = s)) = Z := by
  unfold hasZ at h
  rw [Option.isSome_eq_false_iff, Option.isNone_iff_eq_none, List.find?_eq_none] at h
  exact List.filter_eq_self.2 fun x hx => by simpa using h x hx
def PUnz (F : Nat → Prop) (p b : Nat) (Z : List Vz) (s : ByteArray) (w : World) (e : Ending) (w' : World) : Prop :=
  e = .returned (.bool (hasZ Z s)) ∧ OutF F w w' ∧ EvZ w' p b (fun k => F k ∨ (w.heap.size ≤ k ∧ k < w'.heap.size)) (Z.filter fun x => !decide (x.n = s))
set_option maxRecDepth 100000 in
set_option maxHeartbeats 2000000 in
theorem pUnset (p b : Nat) (F : Nat → Prop) (Z : List Vz) (s : ByteArray) (w : World) (h : EvZ w p b F Z) (hs : s.size ≤ 100) :
    Calls Tryd.prog 16 #[.pointer (some ⟨p, 0, none⟩), .string s] w (PUnz F p b Z s w) := by
  have hl := h.m.look_ok (s := s) (by unfold maxLen; omega)
  have HK := Lib.hid (keyV (s := s) (by unfold maxLen; omega))
  have hc := h.c
  have HZ := Lib.hid h
  obtain ⟨gt, -⟩ := h.got s
  obtain ⟨q, eq⟩ : ∃ q, hasZ Z s = q := ⟨_, rfl⟩
  have EQ := Lib.hid eq
  obtain ⟨g, eg⟩ : ∃ g, gotZ Z s = g := ⟨_, rfl⟩
  rw [eq, eg] at hl
  rw [eg] at gt
  obtain ⟨gn, gws, glv, ghd, gu⟩ := g
  obtain ⟨ga, gc, eu, -⟩ := gt
  simp only at eu
  subst eu
  clear eq eg h
  go_enter Tryd.func16, Tryd.ntmps16
  go_upto_region 2 with (go_at_call 34; refine (pAll p b _ hc).mono ?_; rintro e w' ⟨rfl, rfl⟩)
  have g4 := World.grownBy_alloc w (.cells #[.string gn, .slice ga gws.length gc, .int .i64 glv, .bool ghd] 33) none
  generalize w.alloc _ = w4 at g4 ⊢
  have H4 := Lib.hid (HZ.out.grown g4)
  have hc4 := H4.out.c
  have hm1 := H4.out.m
  have G4 := Lib.hid g4
  clear g4 hl
  go_wp2_with (first | (go_at_call 34; refine (pAll p b _ hc4).mono ?_; rintro e w' ⟨rfl, rfl⟩) | (at_delete; refine wpList_delete_own _ rfl _ _ 54 9 rfl 33 lawV Tryd.underlying54 hElem b Z.length (toZ Z) rfl hm1 _ _ rfl HK.out ?_; intro w1 hown1 hturn1; have O1 := Lib.hid hown1; have U1 := Lib.hid hturn1.grown; clear hown1 hturn1))
  go_ret
  have hm2 : MapV w1 b (Z.filter fun x => !decide (x.n = s)) := mapV_of (by have := O1.out; rwa [toZ_del] at this)
  refine ⟨by rw [EQ.out]; rfl, ?_, H4.out.turn U1.out hm2 (Nat.le_trans (List.length_filter_le _ _) H4.out.n) (HZ.out.lt p HZ.out.fp) (HZ.out.lt b HZ.out.fb) fun x hx => .inl (List.mem_filter.1 hx).1⟩
  have o1 := OutF.of (F := F) G4.out
  have o2 := OutF.but U1.out HZ.out.fb
  exact ⟨o2.os.trans o1.os, o2.tape.trans o1.tape, o2.output.trans o1.output, Nat.le_trans o1.size o2.size, fun k hk hF => (o2.block k (Nat.lt_of_lt_of_le hk o1.size) hF).trans (o1.block k hk hF)⟩
end Go.Proofs.YtaihpgjimhifcaaDoor

/- A round of the law EnvPlays: all that it knows, said of one world; each call takes it and gives it of the next world. -/
import Derived.Test.YtaihpgjimhifcaaDoorEvMod
import Derived.Test.YtaihpgjimhifcaaDoorLaidErr
namespace Go.Proofs.YtaihpgjimhifcaaDoor
open Go.RowKit

/-- where things lie: the program's Env, the document's, the act, the variable, its words' row, the copy, the document's row as it was -/
structure Sp where
  p : Nat
  q : Nat
  ba : Nat
  bv : Nat
  gw : Nat
  pc : Nat
  bw : Nat
/-- the blocks that stay apart from what the two Envs change -/
def Sp.own (s : Sp) (b : Nat) : Prop := b = s.q ∨ b = s.ba ∨ b = s.bv ∨ b = s.gw ∨ b = s.bw
structure Sit (I : World → Nat → (Nat → Prop) → List Vb → Prop) (s : Sp) (w : World) (y : Ac) (Fc : Nat → Prop) (Zc : List Vz) (uc : Value) (F : Nat → Prop) (l : List Vb) (Z : List Vz) (uv : Value) (mk : Bool) (W : World) : Prop where
  g : w.grownBy W none
  i : I W s.p F l
  f : ∀ b, F b → w.heap.size ≤ b ∧ ¬s.own b ∧ ¬Fc b
  hq : W.heap[s.q]? = some (.cells #[uv] 30 (0, 0))
  r : VRow W (fun b => ¬F b ∧ b ≠ s.q ∧ b ≠ s.gw) uv Z
  a : W.heap[s.ba]? = some (.cells #[.int .i64 y.k, .string y.v.n, y.v.u, .int .i64 y.v.lv, .bool y.v.hd] 35 (0, 0))
  v : W.heap[s.bv]? = some (.cells #[.string y.v.n, .slice (some ⟨s.gw, 0, none⟩) y.v.ws.length (y.v.ws.length + 3), .int .i64 y.v.lv, .bool y.v.hd] 33 (0, 0))
  ic : I W s.pc Fc (vbL Zc)
  fc : ∀ b, Fc b → w.heap.size ≤ b ∧ ¬s.own b
  hw : W.heap[s.bw]? = some (.cells #[uc] 30 (0, 0))
  rc : VRow W (fun b => ¬F b ∧ b ≠ s.q ∧ b ≠ s.gw) uc Zc
  t : TxRow w y.v.u y.v.ws
  tb : y.v.ws ≠ [] → ∀ b, y.v.u.ownBlock = some b → b < w.heap.size
  lo : w.heap.size ≤ s.q ∧ w.heap.size ≤ s.ba ∧ w.heap.size ≤ s.bv ∧ w.heap.size ≤ s.gw ∧ w.heap.size ≤ s.bw
  gl : s.gw < W.heap.size
  m : mk = true → MarkT W w.heap.size (.slice (some ⟨s.gw, 0, none⟩) y.v.ws.length (y.v.ws.length + 3)) y.v.ws
  ne : s.bw ≠ s.q ∧ s.ba ≠ s.q ∧ s.bv ≠ s.q ∧ s.gw ≠ s.q ∧ s.gw ≠ s.bv ∧ s.gw ≠ s.ba ∧ s.gw ≠ s.bw
theorem mark_keep {W W' : World} {base gw n c : Nat} {l : List ByteArray} (h : MarkT W base (.slice (some ⟨gw, 0, none⟩) n c) l) (hb : W'.heap[gw]? = W.heap[gw]?) : MarkT W' base (.slice (some ⟨gw, 0, none⟩) n c) l := by
  obtain ⟨g, e, ho⟩ := h
  injection e with e1 e2 e3
  injection e1 with e1
  injection e1 with e1
  subst e1
  refine ⟨gw, by rw [e2, e3], ho.1, ?_⟩
  rcases ho.2 with ⟨e4, -⟩ | ⟨g', cap, cur, e4, h1, h2, h3⟩
  · cases e4
  · injection e4 with e5 e6 e7
    injection e5 with e5
    injection e5 with e5
    subst e5
    exact .inr ⟨gw, cap, cur, by rw [e7], h1, hb.trans h2, h3⟩
variable {A : Nat → Addr} {E : World → Prop} {I : World → Nat → (Nat → Prop) → List Vb → Prop}
theorem Sit.grown (C : EvC A E I) {s : Sp} {w : World} {y : Ac} {Fc F : Nat → Prop} {Zc Z : List Vz} {uc uv : Value} {l : List Vb} {mk : Bool} {W W' : World} (h : Sit I s w y Fc Zc uc F l Z uv mk W) (g : W.grownBy W' none) : Sit I s w y Fc Zc uc F l Z uv mk W' :=
  { g := h.g.trans g, i := C.keep _ _ _ _ _ h.i (KeepG.grown g), f := h.f, hq := heap_grown g h.hq, r := h.r.keep (KeepG.grown g), a := heap_grown g h.a, v := heap_grown g h.v, ic := C.keep _ _ _ _ _ h.ic (KeepG.grown g), fc := h.fc, hw := heap_grown g h.hw, rc := h.rc.keep (KeepG.grown g), t := h.t, tb := h.tb, lo := h.lo, gl := Nat.lt_of_lt_of_le h.gl g.size, m := fun e => mark_keep (h.m e) (g.block _ h.gl (by simp)), ne := h.ne }
theorem OutF.heap {F : Nat → Prop} {w w' : World} (o : OutF F w w') {b : Nat} {x : Obj} (h : w.heap[b]? = some x) (hb : ¬F b) : w'.heap[b]? = some x :=
  (o.block b (Array.getElem?_eq_some_iff.1 h).1 hb).trans h
/-- behind what only the program's Env changes -/
theorem Sit.out (C : EvC A E I) {s : Sp} {w : World} {y : Ac} {Fc F F' : Nat → Prop} {Zc Z : List Vz} {uc uv : Value} {l l' : List Vb} {mk : Bool} {W W' : World} (h : Sit I s w y Fc Zc uc F l Z uv mk W) (o : OutF F W W') (i' : I W' s.p F' l') (f' : ∀ b, F' b → F b ∨ W.heap.size ≤ b) : Sit I s w y Fc Zc uc F' l' Z uv mk W' := by
  have g' : w.grownBy W' none := o.grown h.g (fun b hb => (h.f b hb).1)
  have hlt : ∀ b, s.own b → b < W.heap.size := by
    rintro b (rfl | rfl | rfl | rfl | rfl)
    · exact (Array.getElem?_eq_some_iff.1 h.hq).1
    · exact (Array.getElem?_eq_some_iff.1 h.a).1
    · exact (Array.getElem?_eq_some_iff.1 h.v).1
    · exact h.gl
    · exact (Array.getElem?_eq_some_iff.1 h.hw).1
  have hc : ∀ b, Fc b → b < W.heap.size := C.lt _ _ _ _ h.ic
  have nF : ∀ b, s.own b → ¬F b := fun b hb hf => (h.f b hf).2.1 hb
  have hGr : ∀ (v : Value) (Y : List Vz), VRow W (fun b => ¬F b ∧ b ≠ s.q ∧ b ≠ s.gw) v Y → VRow W' (fun b => ¬F' b ∧ b ≠ s.q ∧ b ≠ s.gw) v Y := fun v Y hr => by
    have h1 := hr.more (G' := fun b => ¬F b ∧ b ≠ s.q ∧ b ≠ s.gw ∧ b < W.heap.size) fun b hb hl => ⟨hb.1, hb.2.1, hb.2.2, hl⟩
    have h2 := h1.keep (w' := W') (o.keep fun b hb => hb.1)
    exact h2.more fun b hb _ => ⟨fun hf => by
      rcases f' b hf with h3 | h3
      · exact hb.1 h3
      · have := hb.2.2.2; omega, hb.2.1, hb.2.2.1⟩
  exact { g := g', i := i', f := fun b hb => by
            rcases f' b hb with h3 | h3
            · exact h.f b h3
            · exact ⟨Nat.le_trans h.g.size h3, fun ho => by have := hlt b ho; omega, fun hf => by have := hc b hf; omega⟩
          hq := o.heap h.hq (nF _ (.inl rfl)), r := hGr _ _ h.r, a := o.heap h.a (nF _ (.inr (.inl rfl))), v := o.heap h.v (nF _ (.inr (.inr (.inl rfl))))
          ic := C.keep _ _ _ _ _ h.ic (o.keep fun b hb hf => (h.f b hf).2.2 hb), fc := h.fc, hw := o.heap h.hw (nF _ (.inr (.inr (.inr (.inr rfl))))), rc := hGr _ _ h.rc
          t := h.t
          tb := h.tb, lo := h.lo, gl := Nat.lt_of_lt_of_le h.gl o.size, m := fun e => mark_keep (h.m e) (o.block _ h.gl (nF _ (.inr (.inr (.inr (.inl rfl)))))), ne := h.ne }
theorem Sit.drewN (C : EvC A E I) {s : Sp} {w : World} {y : Ac} {Fc F : Nat → Prop} {Zc Z : List Vz} {uc uv : Value} {l : List Vb} {mk : Bool} {W : World} (h : Sit I s w y Fc Zc uc F l Z uv mk W) (n : Nat) : Sit I s w y Fc Zc uc F l Z uv mk (W.drewN n) := h.grown C (grown_drewN (World.grownBy.refl _ _) n)
theorem Sit.drew (C : EvC A E I) {s : Sp} {w : World} {y : Ac} {Fc F : Nat → Prop} {Zc Z : List Vz} {uc uv : Value} {l : List Vb} {mk : Bool} {W : World} (h : Sit I s w y Fc Zc uc F l Z uv mk W) : Sit I s w y Fc Zc uc F l Z uv mk W.drew := h.grown C (grown_drew (World.grownBy.refl _ _))
/-- the variable as the round hands it in -/
abbrev vOf (s : Sp) (y : Ac) : Vz := ⟨y.v.n, y.v.ws, y.v.lv, y.v.hd, .slice (some ⟨s.gw, 0, none⟩) y.v.ws.length (y.v.ws.length + 3)⟩
theorem chk_le (x : Vb) : chkV x ≤ 18 := by
  unfold chkV
  split; · decide
  split; · decide
  split; · decide
  split <;> decide
theorem put_le (l : List Vb) (x : Vb) : (putB l x).1 ≤ 18 := by
  unfold putB
  split
  · exact chk_le x
  · split
    · split <;> exact Nat.zero_le _
    · split
      · show 10 ≤ 18; decide
      · exact Nat.zero_le _
section
variable {s : Sp} {w : World} {y : Ac} {Fc F : Nat → Prop} {Zc Z : List Vz} {uc uv : Value} {l : List Vb} {mk : Bool} {W : World}
theorem sCheck (C : EvC A E I) (hE : E w) (h : Sit I s w y Fc Zc uc F l Z uv true W) (hy : Sha y) : Calls Tryd.prog 11 #[vzA (vOf s y)] W fun e W' => e = .returned (errV A (chkV y.v.b)) ∧ Sit I s w y Fc Zc uc F l Z uv true W' := by
  obtain ⟨h1, h2, -⟩ := hy
  exact (C.check W (vOf s y) (C.gr _ _ hE h.g) ((h.m rfl).row (by omega)) (by show y.v.n.size ≤ 100; omega) (by show y.v.ws.length ≤ 100; omega)).mono fun _ _ ⟨e1, g⟩ => ⟨e1, h.grown C g⟩
theorem sNum (C : EvC A E I) (hN : ErrEnv A w) (k : Nat) (hk : k ≤ 18) (h : Sit I s w y Fc Zc uc F l Z uv mk W) : Calls Tryd.prog 10 #[errV A k] W fun e W' => e = .returned (.int .i64 k) ∧ Sit I s w y Fc Zc uc F l Z uv mk W' :=
  (lNumV A k hk W (hN.later (below_of_grown h.g))).mono fun _ _ ⟨e1, g⟩ => ⟨e1, h.grown C g⟩
theorem sCheckR (C : EvC A E I) (h : Sit I s w y Fc Zc uc F l Z uv mk W) (hy : Sha y) : Calls Tryd.prog 12 #[vzA y.v] W fun e W' => e = .returned (.int .i64 (chkV y.v.b)) ∧ Sit I s w y Fc Zc uc F l Z uv mk W' := by
  obtain ⟨h1, -, -⟩ := hy
  exact (dCheckV y.v W (by omega) (h.t.later (below_of_grown h.g))).mono fun _ _ ⟨e1, g⟩ => ⟨e1, h.grown C g⟩
theorem sSet (C : EvC A E I) (hE : E w) (h : Sit I s w y Fc Zc uc F l Z uv true W) (hy : Sha y) : Calls Tryd.prog 13 #[.pointer (some ⟨s.p, 0, none⟩), vzA (vOf s y)] W fun e W' => e = .returned (errV A (putB l y.v.b).1) ∧ ∃ F', Sit I s w y Fc Zc uc F' (putB l y.v.b).2 Z uv true W' := by
  obtain ⟨h1, h2, -⟩ := hy
  have ht : TxG W (fun b => ¬F b) (vOf s y).u (vOf s y).ws := ⟨(h.m rfl).row (by omega), fun _ b hb => by
    have e : s.gw = b := by simpa [Value.ownBlock] using hb
    subst e
    exact ⟨fun hf => (h.f _ hf).2.1 (.inr (.inr (.inr (.inl rfl)))), h.gl⟩⟩
  exact (C.set W s.p F l (vOf s y) (C.gr _ _ hE h.g) h.i ht (by show y.v.n.size ≤ 100; omega) (by show y.v.ws.length ≤ 100; omega)).mono fun _ _ ⟨e1, o, F', i', f'⟩ => ⟨e1, F', h.out C o i' f'⟩
theorem sUnset (C : EvC A E I) (hE : E w) (h : Sit I s w y Fc Zc uc F l Z uv mk W) (hy : Sha y) : Calls Tryd.prog 16 #[.pointer (some ⟨s.p, 0, none⟩), .string y.v.n] W fun e W' => e = .returned (.bool (l.find? (isB y.v.n)).isSome) ∧ ∃ F', Sit I s w y Fc Zc uc F' (delB l y.v.n) Z uv mk W' := by
  obtain ⟨h1, -, -⟩ := hy
  exact (C.unset W s.p F l y.v.n (C.gr _ _ hE h.g) h.i (by omega)).mono fun _ _ ⟨e1, o, F', i', f'⟩ => ⟨e1, F', h.out C o i' f'⟩
theorem Sit.row (C : EvC A E I) {Z' : List Vz} {uv' : Value} {W' : World} (h : Sit I s w y Fc Zc uc F l Z uv mk W) (g : W.grownBy W' (some s.q)) (hq : W'.heap[s.q]? = some (.cells #[uv'] 30 (0, 0))) (r : VRow W' (fun b => (¬F b ∧ b ≠ s.q ∧ b ≠ s.gw) ∨ W.heap.size ≤ b) uv' Z') : Sit I s w y Fc Zc uc F l Z' uv' mk W' := by
  have hlt := C.lt _ _ _ _ h.i
  have hqW : s.q < W.heap.size := (Array.getElem?_eq_some_iff.1 h.hq).1
  have keepB : ∀ {b : Nat} {x : Obj}, W.heap[b]? = some x → b ≠ s.q → W'.heap[b]? = some x := fun {b x} hx hb => (g.block b (Array.getElem?_eq_some_iff.1 hx).1 (by simpa using hb)).trans hx
  have g' : w.grownBy W' none := ⟨g.os.trans h.g.os, g.tape.trans h.g.tape, g.output.trans h.g.output, Nat.le_trans h.g.size g.size, fun k hk _ => (g.block k (Nat.lt_of_lt_of_le hk h.g.size) (by have := h.lo.1; simp; omega)).trans (h.g.block k hk (by simp))⟩
  exact { g := g', i := C.keep _ _ _ _ _ h.i (KeepG.but g fun hf => (h.f _ hf).2.1 (.inl rfl)), f := h.f, hq := hq
          r := r.more fun b hb _ => by
            rcases hb with hb | hb
            · exact hb
            · exact ⟨fun hf => by have := hlt b hf; omega, by omega, by have := h.gl; omega⟩
          a := keepB h.a h.ne.2.1, v := keepB h.v h.ne.2.2.1, ic := C.keep _ _ _ _ _ h.ic (KeepG.but g fun hf => (h.fc _ hf).2 (.inl rfl)), fc := h.fc, hw := keepB h.hw h.ne.1
          rc := h.rc.keep (KeepG.but g fun hf => hf.2.1 rfl), t := h.t, tb := h.tb, lo := h.lo, gl := Nat.lt_of_lt_of_le h.gl g.size
          m := fun e => mark_keep (h.m e) (g.block _ h.gl (by have := h.ne.2.2.2.1; simpa using this)), ne := h.ne }
theorem sSetR (C : EvC A E I) (h : Sit I s w y Fc Zc uc F l Z uv mk W) (hy : Sha y) (hZ : OkZ Z) : Calls Tryd.prog 14 #[.pointer (some ⟨s.q, 0, none⟩), vzA y.v] W fun e W' => e = .returned (.int .i64 (putZ Z y.v).1) ∧ ∃ uv', Sit I s w y Fc Zc uc F l (putZ Z y.v).2 uv' mk W' := by
  obtain ⟨h1, -, -⟩ := hy
  refine (dSetV s.q uv Z y.v (fun b => ¬F b ∧ b ≠ s.q ∧ b ≠ s.gw) W h.hq h.r (fun hf => hf.2.1 rfl) ⟨h.t.later (below_of_grown h.g), fun hl b hb => ?_⟩ (by omega) hZ.2).mono ?_
  · have hb' := h.tb hl b hb
    exact ⟨⟨fun hf => by have := (h.f b hf).1; omega, by have := h.lo.1; omega, by have := h.lo.2.2.2.1; omega⟩, Nat.lt_of_lt_of_le hb' h.g.size⟩
  · rintro e W' ⟨rfl, g, uv', hq, r⟩
    exact ⟨rfl, uv', h.row C g hq r⟩
theorem sUnsetR (C : EvC A E I) (h : Sit I s w y Fc Zc uc F l Z uv mk W) (hZ : OkZ Z) : Calls Tryd.prog 17 #[.pointer (some ⟨s.q, 0, none⟩), .string y.v.n] W fun e W' => e = .returned (.bool (idxZ Z y.v.n).isSome) ∧ ∃ uv', Sit I s w y Fc Zc uc F l (unZ Z y.v.n) uv' mk W' :=
  (dUnsetV s.q uv Z y.v.n (fun b => ¬F b ∧ b ≠ s.q ∧ b ≠ s.gw) W h.hq h.r (fun hf => hf.2.1 rfl) hZ.2).mono fun _ _ ⟨e1, g, uv', hq, r⟩ => ⟨e1, uv', h.row C g hq r⟩
theorem sKept (C : EvC A E I) (h : Sit I s w y Fc Zc uc F l Z uv true W) (hy : Sha y) : Calls Tryd.prog 15 #[(vOf s y).u, y.v.u] W fun e W' => e = .returned (.bool true) ∧ Sit I s w y Fc Zc uc F l Z uv true W' := by
  obtain ⟨-, h2, -⟩ := hy
  exact (cKeptT _ y.v.u w.heap.size y.v.ws W (h.m rfl) (h.t.later (below_of_grown h.g)) (by omega)).mono fun _ _ ⟨e1, n, e2⟩ => ⟨e1, e2 ▸ h.drewN C n⟩
theorem Sit.bx (h : Sit I s w y Fc Zc uc F l Z uv mk W) : (W.cell? ⟨s.bv, 0, none⟩ = some (.string y.v.n) ∧ W.cell? ⟨s.bv, 1, none⟩ = some (.slice (some ⟨s.gw, 0, none⟩) y.v.ws.length (y.v.ws.length + 3)) ∧ W.cell? ⟨s.bv, 2, none⟩ = some (.int .i64 y.v.lv) ∧ W.cell? ⟨s.bv, 3, none⟩ = some (.bool y.v.hd)) ∧
    (W.cell? ⟨s.ba, 1, none⟩ = some (.string y.v.n) ∧ W.cell? ⟨s.ba, 2, none⟩ = some y.v.u ∧ W.cell? ⟨s.ba, 3, none⟩ = some (.int .i64 y.v.lv) ∧ W.cell? ⟨s.ba, 4, none⟩ = some (.bool y.v.hd)) := by
  obtain ⟨h0, h1, h2, h3⟩ := four_vz h.v
  obtain ⟨-, m1, m2, m3, m4⟩ := five_ac h.a
  exact ⟨⟨h0, h1, h2, h3⟩, m1, m2, m3, m4⟩
/-- Set, its answer as the document's -/
theorem sSetZ (C : EvC A E I) (hE : E w) (h : Sit I s w y Fc Zc uc F (vbL Z) Z uv true W) (hy : Sha y) {kz : Nat} {Z2 : List Vz} (hp : putZ Z y.v = (kz, Z2)) : Calls Tryd.prog 13 #[.pointer (some ⟨s.p, 0, none⟩), vzA (vOf s y)] W fun e W' => e = .returned (errV A kz) ∧ ∃ F', Sit I s w y Fc Zc uc F' (vbL Z2) Z uv true W' := by
  have := sSet C hE h hy
  rw [vb_put, hp] at this
  exact this
theorem sSetRZ (C : EvC A E I) (h : Sit I s w y Fc Zc uc F l Z uv mk W) (hy : Sha y) (hZ : OkZ Z) {kz : Nat} {Z2 : List Vz} (hp : putZ Z y.v = (kz, Z2)) : Calls Tryd.prog 14 #[.pointer (some ⟨s.q, 0, none⟩), vzA y.v] W fun e W' => e = .returned (.int .i64 kz) ∧ ∃ uv', Sit I s w y Fc Zc uc F l Z2 uv' mk W' := by
  have := sSetR C h hy hZ
  rw [hp] at this
  exact this
theorem sUnsetZ (C : EvC A E I) (hE : E w) (h : Sit I s w y Fc Zc uc F (vbL Z) Z uv mk W) (hy : Sha y) (hZ : OkZ Z) {z : Bool} (hz : (idxZ Z y.v.n).isSome = z) : Calls Tryd.prog 16 #[.pointer (some ⟨s.p, 0, none⟩), .string y.v.n] W fun e W' => e = .returned (.bool z) ∧ ∃ F', Sit I s w y Fc Zc uc F' (vbL (unZ Z y.v.n)) Z uv mk W' := by
  have := sUnset C hE h hy
  rw [vb_is, hz, vb_un hZ] at this
  exact this
/-- behind a change of the words' row -/
theorem Sit.mark (C : EvC A E I) {W' : World} (h : Sit I s w y Fc Zc uc F l Z uv mk W) (g : W.grownBy W' (some s.gw)) : Sit I s w y Fc Zc uc F l Z uv false W' := by
  have keepB : ∀ {b : Nat} {x : Obj}, W.heap[b]? = some x → b ≠ s.gw → W'.heap[b]? = some x := fun {b x} hx hb => (g.block b (Array.getElem?_eq_some_iff.1 hx).1 (by simpa using hb)).trans hx
  have g' : w.grownBy W' none := ⟨g.os.trans h.g.os, g.tape.trans h.g.tape, g.output.trans h.g.output, Nat.le_trans h.g.size g.size, fun k hk _ => (g.block k (Nat.lt_of_lt_of_le hk h.g.size) (by have := h.lo.2.2.2.1; simp; omega)).trans (h.g.block k hk (by simp))⟩
  obtain ⟨n1, n2, n3, n4, n5, n6, n7⟩ := h.ne
  exact { g := g', i := C.keep _ _ _ _ _ h.i (KeepG.but g fun hf => (h.f _ hf).2.1 (.inr (.inr (.inr (.inl rfl))))), f := h.f, hq := keepB h.hq (fun e => n4 e.symm)
          r := h.r.keep (KeepG.but g fun hf => hf.2.2 rfl), a := keepB h.a (fun e => n6 e.symm), v := keepB h.v (fun e => n5 e.symm), ic := C.keep _ _ _ _ _ h.ic (KeepG.but g fun hf => (h.fc _ hf).2 (.inr (.inr (.inr (.inl rfl))))), fc := h.fc, hw := keepB h.hw (fun e => n7 e.symm)
          rc := h.rc.keep (KeepG.but g fun hf => hf.2.2 rfl), t := h.t, tb := h.tb, lo := h.lo, gl := Nat.lt_of_lt_of_le h.gl g.size, m := fun e => (by cases e), ne := ⟨n1, n2, n3, n4, n5, n6, n7⟩ }
theorem Sit.weak (h : Sit I s w y Fc Zc uc F l Z uv mk W) : Sit I s w y Fc Zc uc F l Z uv false W := { h with m := fun e => (by cases e) }
theorem mark_block {base gw n c : Nat} {L : List ByteArray} (h : MarkT W base (.slice (some ⟨gw, 0, none⟩) n c) L) : ∃ cur : Array Value, W.heap[gw]? = some (.cells cur 9 (0, 0)) ∧ cur.size = L.length + 3 := by
  obtain ⟨g, e, ho⟩ := h
  injection e with e1 e2 e3
  injection e1 with e1
  injection e1 with e1
  subst e1
  rcases ho.2 with ⟨e4, -⟩ | ⟨g', cap, cur, e4, -, h2, -, -, h5, -⟩
  · cases e4
  · injection e4 with e5 e6 e7
    injection e5 with e5
    injection e5 with e5
    subst e5
    exact ⟨cur, h2, by rw [h5, ← e7]; omega⟩
theorem sUnsetRZ (C : EvC A E I) (h : Sit I s w y Fc Zc uc F l Z uv mk W) (hZ : OkZ Z) {z : Bool} (hz : (idxZ Z y.v.n).isSome = z) : Calls Tryd.prog 17 #[.pointer (some ⟨s.q, 0, none⟩), .string y.v.n] W fun e W' => e = .returned (.bool z) ∧ ∃ uv', Sit I s w y Fc Zc uc F l (unZ Z y.v.n) uv' mk W' := by
  have := sUnsetR C h hZ
  rw [hz] at this
  exact this
end
end Go.Proofs.YtaihpgjimhifcaaDoor

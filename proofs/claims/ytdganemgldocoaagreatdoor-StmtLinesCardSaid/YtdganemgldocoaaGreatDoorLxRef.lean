/- Rows of pieces and rows of such rows, as they lie in memory. The document's own answers of layer 13: a word's text; two rows of words. -/
import Derived.Test.YtdganemgldocoaaGreatDoorLxPlain
import Derived.Test.YtdganemgldocoaaGreatDoorGrown
import Derived.Laws.Pointers
import Derived.Deep.AppendLies
import Derived.OneCell
import Derived.OwnWalk
import Derived.Test.YtdganemgldocoaaGreatDoorQtRow
import Derived.WalkSmall
namespace Go.Proofs.YtdganemgldocoaaGreatDoor
open Go.RowKit

/-- a piece, its texts as the program has them -/
structure Pb where
  k : Int
  t : ByteArray
  f : ByteArray
  o : ByteArray
def Pb.q (x : Pb) : Pq := ⟨x.k, x.t.data.toList, x.f.data.toList, x.o.data.toList⟩
abbrev pcL (l : List Pb) : List Pq := l.map Pb.q
abbrev pcLL (L : List (List Pb)) : List (List Pq) := L.map pcL
theorem bytes_inj {a b : ByteArray} (h : a.data.toList = b.data.toList) : a = b := by
  cases a; cases b; congr 1; exact Array.toList_inj.1 h
theorem Pb.q_inj {a b : Pb} (h : a.q = b.q) : a = b := by
  obtain ⟨k, t, f, o⟩ := a
  obtain ⟨k', t', f', o'⟩ := b
  unfold Pb.q at h
  simp only [Pq.mk.injEq] at h
  obtain ⟨h1, h2, h3, h4⟩ := h
  rw [h1, bytes_inj h2, bytes_inj h3, bytes_inj h4]
theorem pcL_inj {a b : List Pb} (h : pcL a = pcL b) : a = b := List.map_inj_right (fun _ _ => Pb.q_inj) |>.1 h
theorem pcLL_inj {a b : List (List Pb)} (h : pcLL a = pcLL b) : a = b := List.map_inj_right (fun _ _ => pcL_inj) |>.1 h
abbrev pcC (x : Pb) : List Value := [.int .i64 x.k, .string x.t, .string x.f, .string x.o]
/-- the cells of pieces, one behind the other -/
def pcV (l : List Pb) : List Value := l.flatMap pcC
theorem pcV_snoc (l : List Pb) (x : Pb) : pcV (l ++ [x]) = pcV l ++ [.int .i64 x.k, .string x.t, .string x.f, .string x.o] := by unfold pcV; rw [List.flatMap_append]; rfl
theorem pcV_get : ∀ {l : List Pb} {j : Nat} {x : Pb}, l[j]? = some x → (pcV l)[j * 4]? = some (.int .i64 x.k) ∧ (pcV l)[j * 4 + 1]? = some (.string x.t) ∧ (pcV l)[j * 4 + 2]? = some (.string x.f) ∧ (pcV l)[j * 4 + 3]? = some (.string x.o)
  | [], j, x, h => by simp at h
  | a :: l, 0, x, h => by
    obtain rfl : a = x := by simpa using h
    exact ⟨rfl, rfl, rfl, rfl⟩
  | a :: l, j + 1, x, h => by
    obtain ⟨h1, h2, h3, h4⟩ := pcV_get (l := l) (j := j) (x := x) (by simpa using h)
    have e : pcV (a :: l) = .int .i64 a.k :: .string a.t :: .string a.f :: .string a.o :: pcV l := rfl
    rw [e, show (j + 1) * 4 = j * 4 + 1 + 1 + 1 + 1 by omega]
    exact ⟨by simpa using h1, by simpa using h2, by simpa using h3, by simpa using h4⟩
theorem pcV_len (l : List Pb) : (pcV l).length = l.length * 4 := by
  unfold pcV
  induction l with
  | nil => rfl
  | cons a l ih => rw [List.flatMap_cons, List.length_append, ih]; simp; omega
theorem pc_one (x : Pb) : ∀ u ∈ pcC x, u.oneCell' = true := by
  intro u hu; simp at hu; rcases hu with rfl | rfl | rfl | rfl <;> rfl
theorem pc_new (w : World) (x : Pb) (T : TypeId) (m : Nat) (hm : m = w.heap.size) : ∀ j u, ([.int .i64 x.k, .string x.t, .string x.f, .string x.o] : List Value)[j]? = some u → (w.alloc (.cells #[.int .i64 x.k, .string x.t, .string x.f, .string x.o] T)).cell? ((⟨m, 0, none⟩ : Addr).add j) = some u := by
  subst hm
  exact World.news_of_block (cs := #[.int .i64 x.k, .string x.t, .string x.f, .string x.o]) (t := T) (fr := (0, 0)) (heap_alloc_new w _)
/-- v is a slice that holds these pieces -/
def PRow (w : World) (v : Value) (l : List Pb) : Prop :=
  ∃ a c, v = .slice a l.length c ∧ l.length ≤ 9223372036854775807 ∧
    (l ≠ [] → ∃ b off, a = some ⟨b, off, none⟩ ∧ b < w.heap.size ∧ ∀ (j : Nat) (x : Pb), l[j]? = some x →
      w.cell? ⟨b, off + j * 4, none⟩ = some (.int .i64 x.k) ∧ w.cell? ⟨b, off + j * 4 + 1, none⟩ = some (.string x.t) ∧ w.cell? ⟨b, off + j * 4 + 2, none⟩ = some (.string x.f) ∧ w.cell? ⟨b, off + j * 4 + 3, none⟩ = some (.string x.o))
theorem PRow.later {w w' : World} {v : Value} {l : List Pb} (h : PRow w v l) (hb : Below w.heap.size w w') : PRow w' v l := by
  obtain ⟨a, c, e, hn, hc⟩ := h
  refine ⟨a, c, e, hn, fun hne => ?_⟩
  obtain ⟨b, off, ea, hlt, hcc⟩ := hc hne
  refine ⟨b, off, ea, Nat.lt_of_lt_of_le hlt hb.size, fun j m hj => ?_⟩
  obtain ⟨h1, h2, h3, h4⟩ := hcc j m hj
  exact ⟨(hb.cell hlt).trans h1, (hb.cell hlt).trans h2, (hb.cell hlt).trans h3, (hb.cell hlt).trans h4⟩
theorem PRow.grown {w w' : World} {v : Value} {l : List Pb} (h : PRow w v l) (hg : w.grownBy w' none) : PRow w' v l := h.later (below_of_grown hg)
/-- the k-th piece, as the walk reads it -/
theorem PRow.at {w : World} {v : Value} {l : List Pb} (h : PRow w v l) (k : Nat) (hk : k < l.length) :
    ∃ b off c x, v = .slice (some ⟨b, off, none⟩) l.length c ∧ l[k]? = some x ∧ b < w.heap.size ∧
      w.cell? ⟨b, off + k * 4, none⟩ = some (.int .i64 x.k) ∧ w.cell? ⟨b, off + k * 4 + 1, none⟩ = some (.string x.t) ∧ w.cell? ⟨b, off + k * 4 + 2, none⟩ = some (.string x.f) ∧ w.cell? ⟨b, off + k * 4 + 3, none⟩ = some (.string x.o) := by
  obtain ⟨a, c, e, hn, hc⟩ := h
  have hne : l ≠ [] := by intro e; rw [e] at hk; simp at hk
  obtain ⟨b, off, rfl, hlt, hcc⟩ := hc hne
  have hf : l[k]? = some l[k] := List.getElem?_eq_getElem hk
  exact ⟨b, off, c, l[k], e, hf, hlt, hcc k _ hf⟩
theorem pc_row {w : World} {base : Nat} {e : TypeId} {v : Value} {l : List Pb} {n : Nat} (h : w.ownsRow base e 4 v n (pcV l)) (hn : n = l.length) (hm : n ≤ 9223372036854775807) : PRow w v l := by
  subst hn
  rcases h.2 with ⟨rfl, h0⟩ | ⟨g, cap, cur, rfl, hb, hg, h1, h2, h3, h4⟩
  · exact ⟨none, 0, by rw [h0], hm, fun hne => absurd (List.eq_nil_of_length_eq_zero h0) hne⟩
  · refine ⟨_, cap, rfl, hm, fun _ => ⟨g, 0, rfl, (Array.getElem?_eq_some_iff.1 hg).1, fun j m hj => ?_⟩⟩
    obtain ⟨g1, g2, g3, g4⟩ := pcV_get hj
    have k1 := h.cells (g := g) rfl _ _ g1
    have k2 := h.cells (g := g) rfl _ _ g2
    have k3 := h.cells (g := g) rfl _ _ g3
    have k4 := h.cells (g := g) rfl _ _ g4
    rw [Addr.add_lit] at k1 k2 k3 k4
    exact ⟨k1, k2, k3, k4⟩
/-- v is a slice that holds slices that hold these -/
def RRow (w : World) (v : Value) (L : List (List Pb)) : Prop :=
  ∃ a c, v = .slice a L.length c ∧ L.length ≤ 9223372036854775807 ∧
    (L ≠ [] → ∃ b off, a = some ⟨b, off, none⟩ ∧ b < w.heap.size ∧ ∀ (j : Nat) (l : List Pb), L[j]? = some l → ∃ u, w.cell? ⟨b, off + j, none⟩ = some u ∧ PRow w u l)
theorem RRow.later {w w' : World} {v : Value} {L : List (List Pb)} (h : RRow w v L) (hb : Below w.heap.size w w') : RRow w' v L := by
  obtain ⟨a, c, e, hn, hc⟩ := h
  refine ⟨a, c, e, hn, fun hne => ?_⟩
  obtain ⟨b, off, ea, hlt, hcc⟩ := hc hne
  refine ⟨b, off, ea, Nat.lt_of_lt_of_le hlt hb.size, fun j m hj => ?_⟩
  obtain ⟨u, h1, h2⟩ := hcc j m hj
  exact ⟨u, (hb.cell hlt).trans h1, h2.later hb⟩
theorem RRow.grown {w w' : World} {v : Value} {L : List (List Pb)} (h : RRow w v L) (hg : w.grownBy w' none) : RRow w' v L := h.later (below_of_grown hg)
/-- the k-th row -/
theorem RRow.at {w : World} {v : Value} {L : List (List Pb)} (h : RRow w v L) (k : Nat) (hk : k < L.length) :
    ∃ b off c l u, v = .slice (some ⟨b, off, none⟩) L.length c ∧ L[k]? = some l ∧ b < w.heap.size ∧ w.cell? ⟨b, off + k, none⟩ = some u ∧ PRow w u l := by
  obtain ⟨a, c, e, hn, hc⟩ := h
  have hne : L ≠ [] := by intro e; rw [e] at hk; simp at hk
  obtain ⟨b, off, rfl, hlt, hcc⟩ := hc hne
  have hf : L[k]? = some L[k] := List.getElem?_eq_getElem hk
  obtain ⟨u, h1, h2⟩ := hcc k _ hf
  exact ⟨b, off, c, L[k], u, e, hf, hlt, h1, h2⟩
theorem RRow.shape {w : World} {v : Value} {L : List (List Pb)} (h : RRow w v L) : ∃ a c, v = .slice a L.length c ∧ L.length ≤ 9223372036854775807 := by
  obtain ⟨a, c, e, hn, -⟩ := h; exact ⟨a, c, e, hn⟩
theorem PRow.shape {w : World} {v : Value} {l : List Pb} (h : PRow w v l) : ∃ a c, v = .slice a l.length c ∧ l.length ≤ 9223372036854775807 := by
  obtain ⟨a, c, e, hn, -⟩ := h; exact ⟨a, c, e, hn⟩
/-- rows of pieces that a call makes, the slice of them too: the values vs of the outer row, each its own row of type T -/
def OwnRR (w : World) (base : Nat) (T TT : TypeId) (v : Value) (L : List (List Pb)) : Prop :=
  ∃ vs : List Value, vs.length = L.length ∧ w.ownsRow base TT 1 v L.length vs ∧ ∀ (j : Nat) (u : Value) (l : List Pb), vs[j]? = some u → L[j]? = some l → l.length ≤ 9223372036854775807 ∧ w.ownsRow base T 4 u l.length (pcV l)
theorem rr_row {w : World} {base : Nat} {T TT : TypeId} {v : Value} {L : List (List Pb)} (h : OwnRR w base T TT v L) (hm : L.length ≤ 9223372036854775807) : RRow w v L := by
  obtain ⟨vs, hvs, ho, hi⟩ := h
  rcases ho.2 with ⟨rfl, h0⟩ | ⟨g, cap, cur, rfl, hb, hg, h1, h2, h3, h4⟩
  · exact ⟨none, 0, by rw [h0], hm, fun hne => absurd (List.eq_nil_of_length_eq_zero h0) hne⟩
  · refine ⟨_, cap, rfl, hm, fun _ => ⟨g, 0, rfl, (Array.getElem?_eq_some_iff.1 hg).1, fun j l hj => ?_⟩⟩
    have hjl := (List.getElem?_eq_some_iff.1 hj).1
    have hu : vs[j]? = some vs[j] := List.getElem?_eq_getElem (by omega)
    have k1 := ho.cells (g := g) rfl _ _ hu
    rw [Addr.add_lit] at k1
    obtain ⟨hl, hr⟩ := hi j _ l hu hj
    exact ⟨_, k1, pc_row hr rfl hl⟩
end Go.Proofs.YtdganemgldocoaaGreatDoor

namespace Go.Proofs.YtdganemgldocoaaGreatDoor
open Go.RowKit

/-- short pieces -/
def Shp (x : Pb) : Prop := x.t.size ≤ 100 ∧ x.f.size ≤ 100 ∧ x.o.size ≤ 100
def eqPb (x y : Pb) : Bool := x.k == y.k && x.t.toList == y.t.toList && x.f.toList == y.f.toList && x.o.toList == y.o.toList
theorem eqPb_iff {x y : Pb} : eqPb x y = true ↔ x = y := by
  obtain ⟨k, t, f, o⟩ := x
  obtain ⟨k', t', f', o'⟩ := y
  unfold eqPb
  simp only [Bool.and_eq_true, beq_iff_eq, Pb.mk.injEq]
  have h : ∀ a b : ByteArray, a.toList = b.toList ↔ a = b := fun a b => ⟨fun e => by rw [Lib.toList_data, Lib.toList_data] at e; exact bytes_inj e, fun e => by rw [e]⟩
  rw [h, h, h, and_assoc, and_assoc]
theorem neqPd (f g : Pb) (w : World) : (binOp .neq 107 (.agg #[.int .i64 f.k, .string f.t, .string f.f, .string f.o]) (.agg #[.int .i64 g.k, .string g.t, .string g.f, .string g.o])).run Tryz.prog w = .ok (.bool (!eqPb f g)) w := by
  have hS : Tryz.prog.underlying 107 = some (.struct (Tryz.prog.fieldsOf 107)) := by kernel_rfl
  have hp : Tryz.prog.stoodInHeld 107 = false := by kernel_rfl
  have u3 := Tryz.underlying3
  have a3 := Tryz.isAgg3
  have z3 := Tryz.sizeOf3
  have u9 := Tryz.underlying9
  have a9 := Tryz.isAgg9
  have z9 := Tryz.sizeOf9
  rw [run_neq_struct, show (10000 : Nat) = 9999 + 1 from rfl, run_equalIn_agg w 9999 _ _ _ hS hp]
  simp only [Program.fieldsOf, Tryz.underlying107]
  go_simp
  unfold eqPb
  by_cases h1 : (f.k == g.k) = true <;> by_cases h2 : (f.t.toList == g.t.toList) = true <;> by_cases h3 : (f.f.toList == g.f.toList) = true <;> by_cases h4 : (f.o.toList == g.o.toList) = true <;> simp_all
theorem guardPd (op : BinOp) (x y : Operand) (xs ys : Array Value) (w : World) : (eqGuard op 107 x y (.agg xs) (.agg ys)).run Tryz.prog w = .ok () w := run_eqGuard_agg w op _ x y xs ys (by kernel_rfl)
theorem four_px {w : World} {b : Nat} {v0 v1 v2 v3 : Value} {t : TypeId} (h : w.heap[b]? = some (.cells #[v0, v1, v2, v3] t (0, 0))) :
    w.cell? ⟨b, 0, none⟩ = some v0 ∧ w.cell? ⟨b, 1, none⟩ = some v1 ∧ w.cell? ⟨b, 2, none⟩ = some v2 ∧ w.cell? ⟨b, 3, none⟩ = some v3 := by
  refine ⟨?_, ?_, ?_, ?_⟩ <;> (unfold World.cell?; rw [h]; rfl)
theorem two_cons (b : UInt8) (l : List UInt8) : twoQ (b :: l) = (if b = 39 then [39, 39] else [b]) ++ twoQ l := by unfold twoQ; rw [List.flatMap_cons]
theorem take_more {α : Type} {a b : List α} {j : Nat} {x : α} (h : ∀ m, m < j → a[m]? = b[m]?) (ha : a[j]? = some x) (hb : b[j]? = some x) : ∀ m, m < j + 1 → a[m]? = b[m]? := by
  intro m hm
  rcases Nat.lt_succ_iff_lt_or_eq.1 hm with h1 | rfl
  · exact h m h1
  · rw [ha, hb]
theorem take_all {α : Type} {a b : List α} (hl : a.length = b.length) (h : ∀ m, m < a.length → a[m]? = b[m]?) : a = b := by
  apply List.ext_getElem?
  intro m
  rcases Nat.lt_or_ge m a.length with h1 | h1
  · exact h m h1
  · rw [List.getElem?_eq_none h1, List.getElem?_eq_none (by omega)]
set_option maxRecDepth 100000 in
set_option maxHeartbeats 4000000 in
theorem dSameX (v1 v2 : Value) (La Lb : List (List Pb)) (w : World) (ha : RRow w v1 La) (hb : RRow w v2 Lb) :
    Calls Tryz.prog 25 #[v1, v2] w fun e w' => (∃ z, e = .returned (.bool z) ∧ (z = true ↔ La = Lb)) ∧ w.grownBy w' none := by
  obtain ⟨va, vc, rfl, hm1⟩ := ha.shape
  obtain ⟨ua, uc, rfl, hm2⟩ := hb.shape
  have HA := Lib.hid ha; have HB := Lib.hid hb
  have GE := guardPd
  clear ha hb
  by_cases hlen : La.length = Lb.length
  case neg =>
    have e0 : ((La.length : Int) != (Lb.length : Int)) = true := by simp; omega
    have HN := Lib.hid (show ¬La = Lb from fun e => hlen (by rw [e]))
    clear hlen
    go_enter Tryz.func25, Tryz.ntmps25
    go_wp2
    go_ret
    exact ⟨⟨false, rfl, by simp [HN.out]⟩, World.grownBy.refl _ _⟩
  have HLN := Lib.hid hlen
  have e0 : ((La.length : Int) != (Lb.length : Int)) = false := by simp; omega
  clear hlen
  go_enter Tryz.func25, Tryz.ntmps25
  go_wp2
  clear e0
  go_loopw [14] (fun i wr => ∃ j : Nat, j ≤ La.length ∧ i = .int .i64 j ∧ Hid (∀ m, m < j → La[m]? = Lb[m]?) ∧ Hid (w.grownBy wr none)) (fun i _ => La.length - (intOf i).toNat)
  case atStart => exact ⟨0, Nat.zero_le _, rfl, Lib.hid (fun m hm => by omega), Lib.hid (World.grownBy.refl _ _)⟩
  case round =>
    obtain ⟨j, hj, rfl, hI, hG⟩ := hrel
    by_cases hlt : j < La.length
    · have hlt2 : j < Lb.length := by have := HLN.out; omega
      obtain ⟨b1, o1, c1, l1, u1, ev1, hx1, hb1, k1, p1⟩ := (HA.out.grown hG.out).at j hlt
      obtain ⟨b2, o2, c2, l2, u2, ev2, hx2, hb2, k2, p2⟩ := (HB.out.grown hG.out).at j hlt2
      injection ev1 with e1 e2 e3
      injection ev2 with f1 f2 f3
      subst e1 e3 f1 f3
      obtain ⟨a1, c1, rfl, hq1⟩ := p1.shape
      obtain ⟨a2, c2, rfl, hq2⟩ := p2.shape
      have P1 := Lib.hid p1; have P2 := Lib.hid p2; have X1 := Lib.hid hx1; have X2 := Lib.hid hx2
      clear p1 p2 hx1 hx2 hb1 hb2 e2 f2
      have d1 : decide ((j : Int) < (La.length : Int)) = true := by simp; omega
      by_cases hll : l1.length = l2.length
      case neg =>
        have e9 : ((l1.length : Int) != (l2.length : Int)) = true := by simp; omega
        have HN := Lib.hid (show ¬La = Lb from fun e => hll (by
          have h1 := X1.out; rw [e, X2.out] at h1; rw [Option.some.inj h1]))
        clear hll
        go_wp2
        go_quiet (fail)
        go_wp2
        go_ret
        exact ⟨⟨false, rfl, by simp [HN.out]⟩, grown_drewN hG.out _⟩
      have HLL := Lib.hid hll
      have e9 : ((l1.length : Int) != (l2.length : Int)) = false := by simp; omega
      clear hll
      go_wp2
      go_quiet (fail)
      go_wp2
      clear e9
      have K1 := Lib.hid k1; have K2 := Lib.hid k2
      have GN := Lib.hid (grown_drewN (World.grownBy.refl wr none) nq)
      obtain ⟨wo, rfl⟩ : ∃ wo : World, wo = wr := ⟨_, rfl⟩
      generalize wo.drewN nq = w5 at GN ⊢
      clear k1 k2
      go_loopw [33] (fun i wi => ∃ n : Nat, n ≤ l1.length ∧ i = .int .i64 n ∧ Hid (∀ m, m < n → l1[m]? = l2[m]?) ∧ Hid (wo.grownBy wi none)) (fun i _ => l1.length - (intOf i).toNat)
      case atStart => exact ⟨0, Nat.zero_le _, rfl, Lib.hid (fun m hm => by omega), GN⟩
      case round =>
        obtain ⟨n, hn, rfl, hI2, hG2⟩ := hrel
        by_cases hnt : n < l1.length
        · have hnt2 : n < l2.length := by have := HLL.out; omega
          have k1 := hG2.out.cell K1.out (by simp)
          have k2 := hG2.out.cell K2.out (by simp)
          obtain ⟨p1, q1, r1, x1, ew1, hy1, hp1, g0, g1, g2, g3⟩ := (P1.out.grown hG2.out).at n hnt
          obtain ⟨p2, q2, r2, x2, ew2, hy2, hp2, h0, h1, h2, h3⟩ := (P2.out.grown hG2.out).at n hnt2
          injection ew1 with z1 z2 z3
          injection ew2 with y1 y2 y3
          subst z1 z3 y1 y3
          have Y1 := Lib.hid hy1; have Y2 := Lib.hid hy2
          have NX := fun w => neqPd x1 x2 w
          clear hy1 hy2 hp1 hp2 z2 y2
          cases hx : eqPb x1 x2
          · rw [hx] at NX
            have HN := Lib.hid (show ¬La = Lb from fun e => by
              have h1 := X1.out
              rw [e, X2.out] at h1
              have h2 := Y1.out
              rw [← Option.some.inj h1, Y2.out] at h2
              have := eqPb_iff.2 (Option.some.inj h2).symm
              rw [hx] at this; cases this)
            clear hx
            go_wp2
            go_quiet (fail)
            go_wp2
            go_ret
            exact ⟨⟨false, rfl, by simp [HN.out]⟩, hG.out.trans (grown_drewN hG2.out _)⟩
          · rw [hx] at NX
            have HI := Lib.hid (show ∀ m, m < n + 1 → l1[m]? = l2[m]? from take_more hI2.out Y1.out (by rw [Y2.out, eqPb_iff.1 hx]))
            clear hx
            go_wp2
            go_quiet (fail)
            go_wp2
            go_roundw
            case rel => exact ⟨n + 1, hnt, by go_num, HI, Lib.hid (grown_drewN hG2.out _)⟩
            case measure => simp [intOf]; omega
        · have HI := Lib.hid (show ∀ m, m < j + 1 → La[m]? = Lb[m]? from take_more hI.out X1.out (by rw [X2.out, take_all HLL.out (fun m hm => hI2.out m (by omega))]))
          have k1 := hG2.out.cell K1.out (by simp)
          have k2 := hG2.out.cell K2.out (by simp)
          go_wp2
          go_roundw
          case rel => exact ⟨j + 1, hlt, by go_num, HI, Lib.hid (hG.out.trans hG2.out)⟩
          case measure => simp [intOf]; omega
    · have HE := Lib.hid (show La = Lb from take_all HLN.out (fun m hm => hI.out m (by omega)))
      go_wp2
      go_ret
      exact ⟨⟨true, rfl, by simp [HE.out]⟩, hG.out⟩
end Go.Proofs.YtdganemgldocoaaGreatDoor

/- The document's own ways, one behind the other, each to its end: what they come to, plainly; its variable in memory. -/
import Derived.Test.YtgpmhnpacpgckaaDoorPkStep
import Derived.Test.YtgpmhnpacpgckaaDoorPkRep
import Derived.Test.YtgpmhnpacpgckaaDoorClsE
import Derived.Laws.Tables
import Derived.Deep.CutBlock
import Derived.Deep.MidRow
namespace Go.Proofs.YtgpmhnpacpgckaaDoor
open Go.RowKit

/-- the marks as a row of bools, m places an instruction -/
def vis9 (m : Nat) (Z : List Bool) : Vis := fun a q => decide (q < m) && (Z[a * m + q]?).getD false
theorem idx9 {m a q a' q' : Nat} (h : q < m) (h' : q' < m) (e : a * m + q = a' * m + q') : a = a' ∧ q = q' := by
  have h1 : (a * m + q) / m = a := by rw [Nat.mul_comm, Nat.mul_add_div (by omega), Nat.div_eq_of_lt h]; omega
  have h2 : (a' * m + q') / m = a' := by rw [Nat.mul_comm, Nat.mul_add_div (by omega), Nat.div_eq_of_lt h']; omega
  rw [e, h2] at h1
  subst h1
  exact ⟨rfl, by omega⟩
theorem vis9_set {m a q : Nat} {Z : List Bool} (hq : q < m) (hi : a * m + q < Z.length) : vis9 m (Z.set (a * m + q) true) = mrk (vis9 m Z) a q := by
  funext a' q'
  unfold vis9 mrk
  by_cases h' : q' < m
  · by_cases e : a * m + q = a' * m + q'
    · obtain ⟨rfl, rfl⟩ := idx9 hq h' e
      rw [List.getElem?_set_self hi]; simp [h']
    · rw [List.getElem?_set_ne e]
      have : (a' == a && q' == q) = false := by
        cases h1 : (a' == a && q' == q)
        · rfl
        · simp at h1; obtain ⟨rfl, rfl⟩ := h1; exact (e rfl).elim
      rw [this, Bool.false_or]
  · have : (q' == q) = false := by simp; omega
    simp [h', this]
theorem count9 : ∀ (l : List Bool) (i : Nat), l[i]? = some false → (l.set i true).count false + 1 = l.count false
  | [], _, h => by simp at h
  | b :: l, 0, h => by
    simp only [List.getElem?_cons_zero, Option.some.injEq] at h; subst h
    simp
  | b :: l, i + 1, h => by
    simp only [List.getElem?_cons_succ] at h
    have := count9 l i h
    simp only [List.set_cons_succ, List.count_cons]
    omega
/-- what the ways from one on come to -/
def FromR (L : List Ins) (s : ByteArray) (Z : List Bool) (x : Wy) (Z' : List Bool) (out : List Int) (ok : Bool) : Prop :=
  Z'.length = Z.length ∧ Z'.count false ≤ Z.count false ∧ out.length = 20 ∧
    ((ok = true ∧ ∀ S, Run9 L s (x :: S) (vis9 (s.size + 1) Z) (some out)) ∨ (ok = false ∧ ∀ S r, Run9 L s S (vis9 (s.size + 1) Z') r → Run9 L s (x :: S) (vis9 (s.size + 1) Z) r))
def zeroK : List Int := List.replicate 20 0
section
variable {L : List Ins} {s : ByteArray} {Z Z' : List Bool} {x : Wy} {out : List Int} {ok : Bool} {i : Ins}
theorem fromR_blk (h : blk9 L (vis9 (s.size + 1) Z) x) : FromR L s Z x Z zeroK false := ⟨rfl, Nat.le_refl _, rfl, .inr ⟨rfl, fun _ _ hr => .skip h hr⟩⟩
/-- a way that may go on, marked -/
structure Opn9 (L : List Ins) (s : ByteArray) (Z : List Bool) (x : Wy) (i : Ins) (n q : Nat) : Prop where
  ha : x.at_ = n
  hp : x.pl = q
  hq : q ≤ s.size
  hi : L[n]? = some i
  hz : Z[n * (s.size + 1) + q]? = some false
theorem Opn9.opn {n q : Nat} (h : Opn9 L s Z x i n q) : opn9 L (vis9 (s.size + 1) Z) x i := by
  refine ⟨by rw [h.ha]; omega, by rw [h.ha]; exact h.hi, ?_⟩
  rw [h.ha, h.hp]
  unfold vis9
  rw [Int.toNat_natCast, h.hz]; simp
theorem Opn9.mrk {n q : Nat} (h : Opn9 L s Z x i n q) : vis9 (s.size + 1) (Z.set (n * (s.size + 1) + q) true) = mrk (vis9 (s.size + 1) Z) x.at_.toNat x.pl := by
  rw [h.ha, h.hp, Int.toNat_natCast]
  exact vis9_set (by have := h.hq; omega) (List.getElem?_eq_some_iff.1 h.hz).1
theorem fromR_go {n q : Nat} {y : Wy} (h : Opn9 L s Z x i n q) (hs : stp9 s i x = some [y]) (hr : FromR L s (Z.set (n * (s.size + 1) + q) true) y Z' out ok) : FromR L s Z x Z' out ok := by
  obtain ⟨h1, h2, h3, h4⟩ := hr
  have hc := count9 _ _ h.hz
  rw [h.mrk] at h4
  refine ⟨by rw [h1]; simp, by omega, h3, h4.imp (fun ⟨e, hh⟩ => ⟨e, fun S => .go h.opn hs (hh S)⟩) (fun ⟨e, hh⟩ => ⟨e, fun S r hr => .go h.opn hs (hh S r hr)⟩)⟩
theorem fromR_none {n q : Nat} (h : Opn9 L s Z x i n q) (hs : stp9 s i x = some []) (ho : out.length = 20) : FromR L s Z x (Z.set (n * (s.size + 1) + q) true) out false := by
  have hc := count9 _ _ h.hz
  refine ⟨by simp, by omega, ho, .inr ⟨rfl, fun S r hr => ?_⟩⟩
  rw [h.mrk] at hr
  exact .go h.opn hs hr
theorem fromR_win {n q : Nat} (h : Opn9 L s Z x i n q) (hs : stp9 s i x = none) (hk : x.k.length = 20) : FromR L s Z x (Z.set (n * (s.size + 1) + q) true) x.k true := by
  have hc := count9 _ _ h.hz
  exact ⟨by simp, by omega, hk, .inl ⟨rfl, fun S => .win h.opn hs⟩⟩
theorem fromR_left {n q : Nat} {y z : Wy} (h : Opn9 L s Z x i n q) (hs : stp9 s i x = some [y, z]) (hr : FromR L s (Z.set (n * (s.size + 1) + q) true) y Z' out true) : FromR L s Z x Z' out true := by
  obtain ⟨h1, h2, h3, h4⟩ := hr
  have hc := count9 _ _ h.hz
  rw [h.mrk] at h4
  rcases h4 with ⟨-, h4⟩ | ⟨e, -⟩
  · exact ⟨by rw [h1]; simp, by omega, h3, .inl ⟨rfl, fun S => .go h.opn hs (h4 (z :: S))⟩⟩
  · cases e
theorem fromR_right {n q : Nat} {y z : Wy} {Z2 : List Bool} {out2 : List Int} (h : Opn9 L s Z x i n q) (hs : stp9 s i x = some [y, z]) (hr : FromR L s (Z.set (n * (s.size + 1) + q) true) y Z' out2 false) (hr2 : FromR L s Z' z Z2 out ok) : FromR L s Z x Z2 out ok := by
  obtain ⟨h1, h2, h3, h4⟩ := hr
  obtain ⟨k1, k2, k3, k4⟩ := hr2
  have hc := count9 _ _ h.hz
  rw [h.mrk] at h4
  rcases h4 with ⟨e, -⟩ | ⟨-, h4⟩
  · cases e
  · refine ⟨by rw [k1, h1]; simp, by omega, k3, k4.imp (fun ⟨e, hh⟩ => ⟨e, fun S => .go h.opn hs (h4 (z :: S) _ (hh S))⟩) (fun ⟨e, hh⟩ => ⟨e, fun S r hr => .go h.opn hs (h4 (z :: S) _ (hh S r hr))⟩)⟩
end

def boolV (Z : List Bool) : List Value := Z.map Value.bool
theorem boolV_len (Z : List Bool) : (boolV Z).length = Z.length := by unfold boolV; simp
theorem boolV_get {Z : List Bool} {j : Nat} {v : Bool} (h : Z[j]? = some v) : (boolV Z)[j]? = some (.bool v) := by unfold boolV; simp [h]
theorem boolV_set (Z : List Bool) (j : Nat) (v : Bool) : (boolV Z).set j (.bool v) = boolV (Z.set j v) := by unfold boolV; rw [List.map_set]
/-- the document's variable in block b -/
structure Sr (w0 : World) (b : Nat) (pv : Value) (s : ByteArray) (zv : Value) (Z : List Bool) (w : World) : Prop where
  G : w0.grownBy w none
  hb : w0.heap.size ≤ b
  P : w.heap[b]? = some (.cells #[pv, .string s, zv] 52 (0, 0))
  oZ : w.ownsRow w0.heap.size 4 1 zv Z.length (boolV Z)
section
variable {w0 w w' : World} {b : Nat} {pv zv : Value} {s : ByteArray} {Z : List Bool}
theorem Sr.lt (h : Sr w0 b pv s zv Z w) : b < w.heap.size := (Array.getElem?_eq_some_iff.1 h.P).1
theorem Sr.grown (h : Sr w0 b pv s zv Z w) (g : w.grownBy w' none) : Sr w0 b pv s zv Z w' := ⟨h.G.trans g, h.hb, heap_grown g h.P, h.oZ.kept g (by cases zv.ownBlock <;> simp)⟩
/-- a block of twenty numbers that is written -/
theorem Sr.far (h : Sr w0 b pv s zv Z w) {r : Nat} {cs : Array Value} (hr : w.heap[r]? = some (.cells cs 27 (0, 0))) (h0 : w0.heap.size ≤ r) (g : w.grownBy w' (some r)) : Sr w0 b pv s zv Z w' :=
  ⟨h.G.andThen g (fun j hj => .inl (by cases hj; exact h0)), h.hb, (g.block b h.lt (fun e => by cases e; have := h.P; rw [hr] at this; simp at this)).trans h.P, h.oZ.kept g (.inr (own_type h.oZ hr (by decide)))⟩
theorem Sr.mark (h : Sr w0 b pv s zv Z w) {g n cap a : Nat} (e : zv = .slice (some ⟨g, 0, none⟩) n cap) (hn : n = Z.length) (v : Bool) : Sr w0 b pv s zv (Z.set a v) (w.setCell ⟨g, a, none⟩ (.bool v)) := by
  subst e hn
  obtain ⟨h1, h2⟩ := h.oZ.stored a (.bool v)
  have hnp : (Value.slice (some ⟨g, 0, none⟩) Z.length cap).ownBlock ≠ some b := own_type h.oZ h.P (by decide)
  refine ⟨h.G.andThen h2 (fun j hj => .inl (by cases hj; exact (h.oZ.lt g rfl).1)), h.hb, (h2.block b h.lt (fun e => hnp (by cases e; rfl))).trans h.P, ?_⟩
  rw [List.length_set, ← boolV_set]; exact h1
theorem Sr.nb (h : Sr w0 b pv s zv Z w) {g : Nat} {cs : Array Value} {t : TypeId} (hg : w.heap[g]? = some (.cells cs t (0, 0))) (ht : t ≠ 4) (gr : w.grownBy w' zv.ownBlock) : w'.heap[g]? = some (.cells cs t (0, 0)) :=
  (gr.block g (Array.getElem?_eq_some_iff.1 hg).1 (fun e => own_type h.oZ hg (fun e2 => ht e2.symm) e.symm)).trans hg
end
theorem three_cells9 {w : World} {v0 v1 v2 : Value} {t : TypeId} {b : Nat} (h : w.heap[b]? = some (.cells #[v0, v1, v2] t (0, 0))) : w.cell? ⟨b, 0, none⟩ = some v0 ∧ w.cell? ⟨b, 1, none⟩ = some v1 ∧ w.cell? ⟨b, 2, none⟩ = some v2 := by
  unfold World.cell?; rw [h]; exact ⟨rfl, rfl, rfl⟩
theorem info20 : (Tryd.prog.info? 27).map (fun i => (i.zero, i.size)) = some (some (.agg (intsV zeroK).toArray), 20) := by kernel_rfl
theorem size20 (k : List Int) (h : k.length = 20) : (Tryd.prog.info? 27).map (·.size) = some (intsV k).toArray.size := by
  rw [List.size_toArray, intsV_len, h]; kernel_rfl
theorem one20 (k : List Int) : (intsV k).toArray.all (·.oneCell') = true := by
  refine Array.all_eq_true_iff_forall_mem.2 fun v hv => ?_
  have hv : v ∈ intsV k := by simpa using hv
  unfold intsV at hv
  obtain ⟨x, -, rfl⟩ := List.mem_map.1 hv
  rfl
theorem back20 {fn : Func} {p q : Tmp} {w : World} {g : Nat} {k : List Int} {tmps : Array Value} {v : Value} (hf : fn.results = #[.cell p 27, .tmp q]) (hp : tmps.getD p undef = .pointer (some ⟨g, 0, none⟩)) (hq : tmps.getD q undef = v)
    (hg : w.heap[g]? = some (.cells (intsV k).toArray 27 (0, 0))) (hk : k.length = 20) : (results fn tmps).run Tryd.prog w = .ok (.tuple #[.agg (intsV k).toArray, v]) w := by
  have hp' : tmps[p]?.getD undef = .pointer (some ⟨g, 0, none⟩) := by simpa using hp
  have hq' : tmps[q]?.getD undef = v := by simpa using hq
  have hl := run_loadVar_row (P := Tryd.prog) w g 27 27 _ (0, 0) _ hg Tryd.underlying27 rfl (size20 k hk)
  simp [results, hf, hp', hq', asAddr, hl]
theorem row_grown9 {w : World} {g : Nat} {cs cs' : Array Value} {t : TypeId} (h : w.heap[g]? = some (.cells cs t (0, 0))) : (w.setRow g cs').heap[g]? = some (.cells cs' t (0, 0)) ∧ w.grownBy (w.setRow g cs') (some g) :=
  ⟨setRow_heap w g cs cs' t _ h, ⟨rfl, rfl, rfl, by simp [World.setRow], fun k _ hk => by
    have : g ≠ k := fun e => hk (by rw [e])
    simp [World.setRow, Array.getElem?_modify, this]⟩⟩
theorem rows_cells9 {w : World} {g : Nat} {old : Array Value} {k : List Int} (hg : w.heap[g]? = some (.cells old 27 (0, 0))) (ho : old.size = 20) (hk : k.length = 20) : w.setCells g 0 (intsV k) = w.setRow g (intsV k).toArray := by
  have a := run_storeVar_row (P := Tryd.prog) w g 27 27 old (intsV k).toArray hg (size20 k hk) (by rw [ho, List.size_toArray, intsV_len, hk]) (one20 k)
  have b := run_storeVar_mid (P := Tryd.prog) w g 0 27 (intsV k).toArray (fun j hj => by
    have hj : j < 20 := by rwa [List.size_toArray, intsV_len, hk] at hj
    rw [Nat.zero_add]
    refine ⟨?_, frozen_of_row w g j _ _ hg⟩
    rw [cell_of_row w g j _ _ _ hg, Array.getElem?_eq_getElem (by omega)]; rfl) (size20 k hk) (one20 k)
  exact (Result.ok.inj (a.symm.trans b)).2.symm
theorem there20 {w : World} {g : Nat} {cs : Array Value} {t : TypeId} (hg : w.heap[g]? = some (.cells cs t (0, 0))) (ho : cs.size = 20) : w.there g 0 20 := fun j hj => by
  rw [Nat.zero_add]
  refine ⟨?_, frozen_of_row w g j _ _ hg⟩
  rw [cell_of_row w g j _ _ _ hg, Array.getElem?_eq_getElem (by omega)]; rfl
theorem range20 {w : World} {g : Nat} {k : List Int} {t : TypeId} (hg : w.heap[g]? = some (.cells (intsV k).toArray t (0, 0))) : w.rangeAt g 0 (intsV k) := fun j v hv => by
  rw [Nat.zero_add, cell_of_row w g j _ _ _ hg]; simpa using hv
end Go.Proofs.YtgpmhnpacpgckaaDoor

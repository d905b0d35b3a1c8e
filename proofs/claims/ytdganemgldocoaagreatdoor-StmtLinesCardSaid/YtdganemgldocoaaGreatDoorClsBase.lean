/- Sets of bytes as numbers of 256 bits: their four words, which bytes are in them, how many. Worlds that a call leaves behind; a region that draws and calls what only makes memory: what layer 6's walks share. -/
import Derived.Laws.Bits64b
import Derived.Laws.BitsAllLaws
import Derived.Test.YtdganemgldocoaaGreatDoorGrown
import Derived.WalkKit
import Derived.WalkSpells
import Derived.OwnWalk
import Derived.Lib.Hide
import Derived.KernelRfl
import Derived.StillTactics
import Derived.Laws.Pointers
import Derived.Deep.RegionHeld3
import Derived.Deep.QuietTactic
import Derived.Deep.LoopGhost
import Derived.BigQuiet
import Derived.Deep.DeepCutAuto
import Derived.Deep.CutBlock
import Derived.Shelf.Abstract
namespace Go.Proofs.YtdganemgldocoaaGreatDoor

/-- word i of a set -/
def wn (s : BitVec 256) (i : Nat) : Nat := (s.extractLsb' (64 * i) 64).toNat
def wd (s : BitVec 256) (i : Nat) : Int := (wn s i : Int)
def un (s t : BitVec 256) : BitVec 256 := s ||| t
def me (s t : BitVec 256) : BitVec 256 := s &&& t
def no (s : BitVec 256) : BitVec 256 := ~~~s
def emp : BitVec 256 := 0#256
/-- is a byte in it? -/
def inn (s : BitVec 256) (b : Nat) : Bool := s.getLsbD b

theorem wn_bit (s : BitVec 256) (i j : Nat) : (wn s i).testBit j = (decide (j < 64) && inn s (64 * i + j)) := by
  unfold wn inn
  rw [BitVec.testBit_toNat, BitVec.getLsbD_extractLsb']
theorem wn_lt (s : BitVec 256) (i : Nat) : wn s i < 18446744073709551616 := by
  have := (s.extractLsb' (64 * i) 64).isLt
  unfold wn; omega
theorem wd_ge (s : BitVec 256) (i : Nat) : 0 ≤ wd s i := by unfold wd; omega
theorem wd_lt (s : BitVec 256) (i : Nat) : wd s i < 18446744073709551616 := by have := wn_lt s i; unfold wd; omega
theorem wd_le (s : BitVec 256) (i : Nat) : wd s i ≤ 18446744073709551615 := by have := wn_lt s i; unfold wd; omega
theorem wd_nat (s : BitVec 256) (i : Nat) : (wd s i).toNat = wn s i := by unfold wd; omega

theorem wn_or (s t : BitVec 256) (i : Nat) : wn (un s t) i = wn s i ||| wn t i := by
  apply Nat.eq_of_testBit_eq; intro j
  rw [Nat.testBit_or, wn_bit, wn_bit, wn_bit]; unfold inn un
  rw [BitVec.getLsbD_or]; cases decide (j < 64) <;> rfl
theorem wn_and (s t : BitVec 256) (i : Nat) : wn (me s t) i = wn s i &&& wn t i := by
  apply Nat.eq_of_testBit_eq; intro j
  rw [Nat.testBit_and, wn_bit, wn_bit, wn_bit]; unfold inn me
  rw [BitVec.getLsbD_and]; cases decide (j < 64) <;> simp
theorem wn_not (s : BitVec 256) (i : Nat) (hi : i < 4) : wn (no s) i = 18446744073709551615 ^^^ wn s i := by
  have e : (18446744073709551615 : Nat) = 2 ^ 64 - 1 := rfl
  apply Nat.eq_of_testBit_eq; intro j
  rw [Nat.testBit_xor, wn_bit, wn_bit, e, Nat.testBit_two_pow_sub_one]; unfold inn no
  by_cases hj : j < 64
  · have : 64 * i + j < 256 := by omega
    simp [hj, this]
  · simp [hj]
theorem wd_or (s t : BitVec 256) (i : Nat) : bits .or .u64 (wd s i) (wd t i) = wd (un s t) i := by
  unfold wd; rw [bits_or_u64_nat _ _ (wn_lt s i) (wn_lt t i), wn_or]
theorem wd_and (s t : BitVec 256) (i : Nat) : bits .and .u64 (wd s i) (wd t i) = wd (me s t) i := by
  unfold wd; rw [bits_and_u64_nat _ _ (wn_lt s i) (wn_lt t i), wn_and]
theorem wd_not (s : BitVec 256) (i : Nat) (hi : i < 4) : bits .xor .u64 18446744073709551615 (wd s i) = wd (no s) i := by
  unfold wd
  have := bits_xor_u64_nat 18446744073709551615 (wn s i) (by omega) (wn_lt s i)
  rw [wn_not s i hi, ← this]; rfl
theorem wd_emp (i : Nat) : wd emp i = 0 := by
  unfold wd wn emp; simp

theorem wn_ext {s t : BitVec 256} (h : ∀ i, i < 4 → wn s i = wn t i) : s = t := by
  apply BitVec.eq_of_getLsbD_eq; intro b hb
  have h1 := wn_bit s (b / 64) (b % 64)
  have h2 := wn_bit t (b / 64) (b % 64)
  rw [h (b / 64) (by omega)] at h1
  have hm : b % 64 < 64 := by omega
  have he : 64 * (b / 64) + b % 64 = b := by omega
  rw [he] at h1 h2
  simp only [hm, decide_true, Bool.true_and] at h1 h2
  exact h1.symm.trans h2
theorem wd_ext {s t : BitVec 256} (h0 : wd s 0 = wd t 0) (h1 : wd s 1 = wd t 1) (h2 : wd s 2 = wd t 2) (h3 : wd s 3 = wd t 3) : s = t := by
  unfold wd at *
  apply wn_ext; intro i hi
  obtain rfl | rfl | rfl | rfl : i = 0 ∨ i = 1 ∨ i = 2 ∨ i = 3 := by omega
  all_goals omega

/-- any four words are a set's -/
theorem wd_any (a b c d : Int) (a0 : 0 ≤ a) (a1 : a < 18446744073709551616) (b0 : 0 ≤ b) (b1 : b < 18446744073709551616) (c0 : 0 ≤ c) (c1 : c < 18446744073709551616) (d0 : 0 ≤ d) (d1 : d < 18446744073709551616) :
    ∃ s : BitVec 256, a = wd s 0 ∧ b = wd s 1 ∧ c = wd s 2 ∧ d = wd s 3 := by
  refine ⟨BitVec.ofNat 256 (a.toNat + 18446744073709551616 * (b.toNat + 18446744073709551616 * (c.toNat + 18446744073709551616 * d.toNat))), ?_⟩
  unfold wd wn
  simp only [BitVec.extractLsb'_toNat, BitVec.toNat_ofNat, Nat.shiftRight_eq_div_pow]
  refine ⟨?_, ?_, ?_, ?_⟩ <;> omega

/-- what the program asks of a byte -/
theorem has_bit (s : BitVec 256) (i j : Nat) (hj : j < 64) : wn s i / 2 ^ j % 2 = if inn s (64 * i + j) then 1 else 0 := by
  have h := wn_bit s i j
  rw [Nat.testBit_eq_decide_div_mod_eq] at h
  simp only [hj, decide_true, Bool.true_and] at h
  rw [← h]
  by_cases h1 : wn s i / 2 ^ j % 2 = 1
  · simp [h1]
  · simp [h1]; omega

/-! how many -/
def cnt (s : BitVec 256) : Nat := (List.range 256).countP (inn s)
def popN : Nat → Nat → Nat
  | 0, _ => 0
  | n + 1, x => x % 2 + popN n (x / 2)
theorem popN_count (f : Nat → Bool) : ∀ (n x : Nat), (∀ j, j < n → x.testBit j = f j) → popN n x = (List.range n).countP f
  | 0, _, _ => rfl
  | n + 1, x, h => by
    rw [List.range_succ_eq_map, List.countP_cons, List.countP_map]
    have h0 := h 0 (by omega)
    have hs := popN_count (f ∘ Nat.succ) n (x / 2) (fun j hj => by
      have := h (j + 1) (by omega)
      rw [Nat.testBit_succ] at this; exact this)
    show x % 2 + popN n (x / 2) = _
    rw [hs]
    rw [Nat.testBit_zero] at h0
    rw [← h0]
    by_cases hx : x % 2 = 1
    · simp [hx]; omega
    · have : x % 2 = 0 := by omega
      simp [this]
theorem pop_word (s : BitVec 256) (i : Nat) : popN 64 (wn s i) = (List.range 64).countP (fun j => inn s (64 * i + j)) :=
  popN_count _ 64 _ (fun j hj => by rw [wn_bit]; simp [hj])
theorem count_add (f : Nat → Bool) (m : Nat) : ∀ n, (List.range (m + n)).countP f = (List.range m).countP f + (List.range n).countP (fun j => f (m + j)) := by
  intro n
  rw [List.range_add, List.countP_append, List.countP_map]; rfl
theorem cnt_words (s : BitVec 256) : cnt s = popN 64 (wn s 0) + popN 64 (wn s 1) + popN 64 (wn s 2) + popN 64 (wn s 3) := by
  rw [pop_word, pop_word, pop_word, pop_word]
  unfold cnt
  have e1 := count_add (inn s) 64 192
  have e2 := count_add (fun j => inn s (64 + j)) 64 128
  have e3 := count_add (fun j => inn s (64 + (64 + j))) 64 64
  simp only [Nat.reduceAdd] at e1 e2 e3
  rw [e1, e2, e3]
  simp only [Nat.mul_zero, Nat.zero_add, Nat.mul_one, Nat.reduceMul, ← Nat.add_assoc, Nat.reduceAdd]
theorem popN_le (n x : Nat) : popN n x ≤ n := by
  induction n generalizing x with
  | zero => exact Nat.le_refl _
  | succ n ih => have := ih (x / 2); show x % 2 + popN n (x / 2) ≤ _; omega
theorem cnt_le (s : BitVec 256) : cnt s ≤ 256 := by
  unfold cnt; have := List.countP_le_length (p := inn s) (l := List.range 256); simpa using this
end Go.Proofs.YtdganemgldocoaaGreatDoor

namespace Go.Proofs.YtdganemgldocoaaGreatDoor
open Go.RowKit

theorem ret_bool {a b : Bool} (h : a = b) : Ending.returned (.bool a) = .returned (.bool b) := by rw [h]
theorem ret_int {k : IntKind} {a b : Int} (h : a = b) : Ending.returned (.int k a) = .returned (.int k b) := by rw [h]

theorem grown_set {w w1 : World} (h : w.grownBy w1 none) {b : Nat} (o : Nat) (v : Value) (hb : w.heap.size ≤ b) : w.grownBy (w1.setCell ⟨b, o, none⟩ v) none :=
  grown_of_below ((below_of_grown h).setCell hb v)
theorem heap_grown {w w' : World} (h : w.grownBy w' none) {b : Nat} {o : Obj} (hb : w.heap[b]? = some o) : w'.heap[b]? = some o := by
  rw [h.block b (by rcases Nat.lt_or_ge b w.heap.size with h | h; exact h; simp [Array.getElem?_eq_none h] at hb) (by simp)]; exact hb

/-- a world that has grown -/
structure Gr (w : World) where
  W : World
  g : w.grownBy W none
/-- a region that draws, reads, and calls what only makes memory: one walk -/
theorem wp_region_grows {P : Program} {id : Nat} {Q : Exit → Act → World → Prop} {a : Act} {w : World} {l : List Oper} (hm : P.follows .mixedOrders = true) (hB : Region.lexB .any l.toArray = true)
    (h : wpQuiet P l.toArray (fun w' => ∃ u : Gr w, w' = u.W) (fun a' => ∀ w', (∃ u : Gr w, w' = u.W) → Q .normal a' w') l a) : (Code.region id l.toArray true).wp P Q a w :=
  wp_region_quiet (C := fun w' => ∃ u : Gr w, w' = u.W) hm hB ⟨⟨_, grown_drew (World.grownBy.refl w none)⟩, rfl⟩ (by simpa using h)

/-- a set as a value; in memory -/
abbrev setV (s : BitVec 256) : Value := .agg #[.int .u64 (wd s 0), .int .u64 (wd s 1), .int .u64 (wd s 2), .int .u64 (wd s 3)]
structure SetAt (w : World) (b : Nat) (s : BitVec 256) : Prop where
  c0 : w.cell? ⟨b, 0, none⟩ = some (.int .u64 (wd s 0))
  c1 : w.cell? ⟨b, 1, none⟩ = some (.int .u64 (wd s 1))
  c2 : w.cell? ⟨b, 2, none⟩ = some (.int .u64 (wd s 2))
  c3 : w.cell? ⟨b, 3, none⟩ = some (.int .u64 (wd s 3))
theorem SetAt.at {w : World} {b : Nat} {s : BitVec 256} (h : SetAt w b s) (i : Nat) (hi : i < 4) : w.cell? ⟨b, i, none⟩ = some (.int .u64 (wd s i)) := by
  obtain rfl | rfl | rfl | rfl : i = 0 ∨ i = 1 ∨ i = 2 ∨ i = 3 := by omega
  · exact h.c0
  · exact h.c1
  · exact h.c2
  · exact h.c3
theorem SetAt.lt {w : World} {b : Nat} {s : BitVec 256} (h : SetAt w b s) : b < w.heap.size := cell_block h.c0
theorem SetAt.grown {w w' : World} {b : Nat} {s : BitVec 256} (h : SetAt w b s) (g : w.grownBy w' none) : SetAt w' b s :=
  ⟨g.cell h.c0 (by simp), g.cell h.c1 (by simp), g.cell h.c2 (by simp), g.cell h.c3 (by simp)⟩
theorem SetAt.kept {w w' : World} {b : Nat} {s : BitVec 256} {row : Option Nat} (h : SetAt w b s) (g : w.grownBy w' row) (hr : some b ≠ row) : SetAt w' b s :=
  ⟨g.cell h.c0 hr, g.cell h.c1 hr, g.cell h.c2 hr, g.cell h.c3 hr⟩
theorem set_new (w : World) (s : BitVec 256) (t : TypeId) : SetAt (w.alloc (.cells #[.int .u64 (wd s 0), .int .u64 (wd s 1), .int .u64 (wd s 2), .int .u64 (wd s 3)] t)) w.heap.size s := by
  have h := heap_alloc_new w (.cells #[.int .u64 (wd s 0), .int .u64 (wd s 1), .int .u64 (wd s 2), .int .u64 (wd s 3)] t)
  constructor <;> (unfold World.cell?; rw [h]; rfl)
/-- four cells in a block -/
theorem four_cells {w : World} {b : Nat} {v0 v1 v2 v3 : Value} {t : TypeId} (h : w.heap[b]? = some (.cells #[v0, v1, v2, v3] t (0, 0))) :
    w.cell? ⟨b, 0, none⟩ = some v0 ∧ w.cell? ⟨b, 1, none⟩ = some v1 ∧ w.cell? ⟨b, 2, none⟩ = some v2 ∧ w.cell? ⟨b, 3, none⟩ = some v3 := by
  refine ⟨?_, ?_, ?_, ?_⟩ <;> (unfold World.cell?; rw [h]; rfl)
theorem four_free {w : World} {b : Nat} {c : Array Value} {t : TypeId} (h : w.heap[b]? = some (.cells c t (0, 0))) (i : Nat) : w.frozen? ⟨b, i, none⟩ = false := frozen_of_row w b i c t h
theorem set_four {w : World} {b : Nat} {a0 a1 a2 a3 : Value} {t : TypeId} (h : w.heap[b]? = some (.cells #[a0, a1, a2, a3] t (0, 0))) (v0 v1 v2 v3 : Value) :
    ((((w.setCell ⟨b, 0, none⟩ v0).setCell ⟨b, 1, none⟩ v1).setCell ⟨b, 2, none⟩ v2).setCell ⟨b, 3, none⟩ v3).heap[b]? = some (.cells #[v0, v1, v2, v3] t (0, 0)) :=
  heap_setCell_same _ b 3 _ _ v3 (heap_setCell_same _ b 2 _ _ v2 (heap_setCell_same _ b 1 _ _ v1 (heap_setCell_same _ b 0 _ _ v0 h)))
theorem heap2 (w : World) (A B : Obj) : ((w.alloc A).alloc B).heap[w.heap.size]? = some A ∧ ((w.alloc A).alloc B).heap[w.heap.size + 1]? = some B ∧ w.grownBy ((w.alloc A).alloc B) none :=
  ⟨heap_alloc2_old w A B, heap_alloc2_new w A B, (World.grownBy_alloc w A none).trans (World.grownBy_alloc _ B none)⟩
theorem heap3 (w : World) (A B C : Obj) : (((w.alloc A).alloc B).alloc C).heap[w.heap.size]? = some A ∧ (((w.alloc A).alloc B).alloc C).heap[w.heap.size + 1]? = some B ∧ (((w.alloc A).alloc B).alloc C).heap[w.heap.size + 1 + 1]? = some C ∧ w.grownBy (((w.alloc A).alloc B).alloc C) none := by
  have e : ((w.alloc A).alloc B).heap.size = w.heap.size + 1 + 1 := by show ((w.heap.push A).push B).size = _; simp
  have g := World.grownBy_alloc ((w.alloc A).alloc B) C none
  refine ⟨heap_grown g (heap_alloc2_old w A B), heap_grown g (heap_alloc2_new w A B), ?_, ((World.grownBy_alloc w A none).trans (World.grownBy_alloc _ B none)).trans g⟩
  have := heap_alloc_new ((w.alloc A).alloc B) C
  rw [e] at this; exact this
theorem set_of_block {w : World} {b : Nat} {s : BitVec 256} {t : TypeId} (h : w.heap[b]? = some (.cells #[.int .u64 (wd s 0), .int .u64 (wd s 1), .int .u64 (wd s 2), .int .u64 (wd s 3)] t (0, 0))) : SetAt w b s := by
  obtain ⟨c0, c1, c2, c3⟩ := four_cells h
  exact ⟨c0, c1, c2, c3⟩
/-- a set that is handed back out of a block -/
theorem back_setT (T : TypeId) {e : TypeId} (hT : Tryz.prog.underlying T = some (.array 4 e)) (hi : (Tryz.prog.info? T).map (·.size) = some 4) {fn : Func} {p : Tmp} {w : World} {g : Nat} {s : BitVec 256} {tmps : Array Value} (hf : fn.results = #[.cell p T])
    (hp : tmps.getD p undef = .pointer (some ⟨g, 0, none⟩)) (hg : w.heap[g]? = some (.cells #[.int .u64 (wd s 0), .int .u64 (wd s 1), .int .u64 (wd s 2), .int .u64 (wd s 3)] T (0, 0))) :
    (results fn tmps).run Tryz.prog w = .ok (setV s) w :=
  results_cell_row hf tmps w g _ _ _ _ hp hg hT rfl hi
theorem back_set {fn : Func} {p : Tmp} {w : World} {g : Nat} {s : BitVec 256} {tmps : Array Value} (hf : fn.results = #[.cell p 166])
    (hp : tmps.getD p undef = .pointer (some ⟨g, 0, none⟩)) (hg : w.heap[g]? = some (.cells #[.int .u64 (wd s 0), .int .u64 (wd s 1), .int .u64 (wd s 2), .int .u64 (wd s 3)] 166 (0, 0))) :
    (results fn tmps).run Tryz.prog w = .ok (setV s) w :=
  back_setT 166 Tryz.underlying166 (by kernel_rfl) hf hp hg
end Go.Proofs.YtdganemgldocoaaGreatDoor

/- Instructions in memory; whether all leads on; whether two programs are the same. -/
import Derived.Test.YtgpmhnpacpgckaaDoorPgMem
import Derived.Deep.RegionLaw
namespace Go.Proofs.YtgpmhnpacpgckaaDoor
open Go.RowKit

def cellsC (c : Ins) : List Value := [.int .i64 c.o, .int .i64 c.x, .int .i64 c.y, .int .u64 (wd c.s 0), .int .u64 (wd c.s 1), .int .u64 (wd c.s 2), .int .u64 (wd c.s 3)]
abbrev insV (c : Ins) : Value := .agg #[.int .i64 c.o, .int .i64 c.x, .int .i64 c.y, .int .u64 (wd c.s 0), .int .u64 (wd c.s 1), .int .u64 (wd c.s 2), .int .u64 (wd c.s 3)]
def flatC (L : List Ins) : List Value := L.flatMap cellsC
theorem flatC_append (L R : List Ins) : flatC (L ++ R) = flatC L ++ flatC R := by unfold flatC; simp
theorem flatC_cons (c : Ins) (L : List Ins) : flatC (c :: L) = cellsC c ++ flatC L := by unfold flatC; simp
theorem flatC_one (c : Ins) : flatC [c] = cellsC c := by unfold flatC; simp
theorem flatC_len (L : List Ins) : (flatC L).length = L.length * 7 := by
  induction L with
  | nil => rfl
  | cons c L ih => rw [flatC_cons, List.length_append, ih, List.length_cons]; show 7 + _ = _; omega
theorem flatC_get : ∀ (L : List Ins) (k : Nat) (c : Ins), L[k]? = some c → ∀ j u, (cellsC c)[j]? = some u → (flatC L)[k * 7 + j]? = some u := by
  intro L
  induction L with
  | nil => intro k c hx; simp at hx
  | cons y L ih =>
    intro k c hx j u hu
    have hl : (cellsC y).length = 7 := rfl
    have hj : j < 7 := (List.getElem?_eq_some_iff.1 hu).1
    rw [flatC_cons, List.getElem?_append]
    cases k with
    | zero =>
      simp at hx; subst hx
      rw [if_pos (by rw [hl]; omega)]
      simpa using hu
    | succ k =>
      rw [if_neg (by rw [hl]; omega), hl, show (k + 1) * 7 + j - 7 = k * 7 + j by omega]
      exact ih k c (by simpa using hx) j u hu
theorem flatC_set : ∀ (L : List Ins) (k : Nat) (c c' : Ins) (j : Nat) (v : Value), L[k]? = some c → j < 7 → (cellsC c).set j v = cellsC c' → (flatC L).set (k * 7 + j) v = flatC (L.set k c') := by
  intro L
  induction L with
  | nil => intro k c c' j v hx; simp at hx
  | cons y L ih =>
    intro k c c' j v hx hj hs
    have hl : (cellsC y).length = 7 := rfl
    cases k with
    | zero =>
      simp at hx; subst hx
      rw [List.set_cons_zero, flatC_cons, flatC_cons, List.set_append, if_pos (by rw [hl]; omega), Nat.zero_mul, Nat.zero_add, hs]
    | succ k =>
      rw [List.set_cons_succ, flatC_cons, flatC_cons, List.set_append, if_neg (by rw [hl]; omega), hl, show (k + 1) * 7 + j - 7 = k * 7 + j by omega]
      rw [ih k c c' j v (by simpa using hx) hj hs]
theorem flatC_oneCell (L : List Ins) : ∀ u ∈ flatC L, u.oneCell' = true := by
  intro u hu
  obtain ⟨c, -, hc⟩ := List.mem_flatMap.1 hu
  unfold cellsC at hc; simp at hc; rcases hc with rfl | rfl | rfl | rfl | rfl | rfl | rfl <;> rfl
/-- v is a slice that holds the instructions l -/
def CRow (w : World) (v : Value) (l : List Ins) : Prop :=
  ∃ a c, v = .slice a l.length c ∧ ∀ k x, l[k]? = some x → ∃ b off, a = some ⟨b, off, none⟩ ∧ ∀ j u, (cellsC x)[j]? = some u → w.cell? ⟨b, off + k * 7 + j, none⟩ = some u
theorem CRow.grown {w w' : World} {v : Value} {l : List Ins} (h : CRow w v l) (g : w.grownBy w' none) : CRow w' v l := by
  obtain ⟨a, c, e, hc⟩ := h
  refine ⟨a, c, e, fun k x hx => ?_⟩
  obtain ⟨b, off, ea, hh⟩ := hc k x hx
  exact ⟨b, off, ea, fun j u hu => g.cell (hh j u hu) (by simp)⟩
theorem CRow.shape {w : World} {v : Value} {l : List Ins} (h : CRow w v l) : ∃ a c, v = .slice a l.length c := by obtain ⟨a, c, e, -⟩ := h; exact ⟨a, c, e⟩
theorem CRow.at {w : World} {a : Option Addr} {m c k : Nat} {x : Ins} {l : List Ins} (h : CRow w (.slice a m c) l) (hk : l[k]? = some x) :
    ∃ b off, a = some ⟨b, off, none⟩ ∧ ∀ j u, (cellsC x)[j]? = some u → w.cell? ⟨b, off + k * 7 + j, none⟩ = some u := by
  obtain ⟨a', c', e, hc⟩ := h
  cases e
  exact hc k x hk
theorem crow_of_owns {w : World} {base : Nat} {T : TypeId} {v : Value} {l : List Ins} (h : w.ownsRow base T 7 v l.length (flatC l)) : CRow w v l := by
  rcases h.2 with ⟨rfl, h0⟩ | ⟨g, cap, cur, rfl, hbg, hg, _⟩
  · have : l = [] := List.eq_nil_of_length_eq_zero h0
    subst this
    exact ⟨none, 0, rfl, fun k x hx => by simp at hx⟩
  · refine ⟨_, cap, rfl, fun k x hx => ⟨g, 0, rfl, fun j u hu => ?_⟩⟩
    have := h.cells (g := g) rfl _ _ (flatC_get l k x hx j u hu)
    rw [Addr.add_lit] at this
    rw [show 0 + k * 7 + j = 0 + (k * 7 + j) by omega]
    exact this

end Go.Proofs.YtgpmhnpacpgckaaDoor

/- Parts of rows of signs; what the document's branches and expressions answer. -/
import Derived.Test.YtlkjejmmoalliaaDoorRexW
import Derived.Test.YtlkjejmmoalliaaDoorRexQ
import Derived.IntWalk
namespace Go.Proofs.YtlkjejmmoalliaaDoor
open Go.RowKit

def subA (a : Option Addr) (c lo : Nat) : Option Addr := if c = lo then a else a.map (·.add (lo * 5))
theorem SgR.sub {w : World} {a : Option Addr} {n c lo hi : Nat} {l : List Sg} (h : SgR w (.slice a n c) l) (h1 : lo ≤ hi) (h2 : hi ≤ l.length) : SgR w (.slice (subA a c lo) (hi - lo) (c - lo)) (seg l lo hi) := by
  obtain ⟨⟨a', c', e, ⟨hn, hm⟩, hr⟩, hc⟩ := h
  cases e
  have hcap := hc _ _ _ rfl
  have hlen := seg_len l (a := lo) h2
  refine ⟨⟨_, _, by rw [hlen], ⟨by omega, fun x hx => hm x (List.mem_of_mem_drop (List.mem_of_mem_take hx))⟩, fun hne => ?_⟩, fun a2 n2 c2 e => by cases e; omega⟩
  have hlt : lo < hi := by
    rcases Nat.lt_or_ge lo hi with h | h
    · exact h
    · exact absurd (List.eq_nil_of_length_eq_zero (by omega)) hne
  obtain ⟨b, off, rfl, hb, hcell⟩ := hr (by rintro rfl; simp at h2; omega)
  refine ⟨b, off + lo * 5, ?_, hb, fun k x hx => ?_⟩
  · unfold subA
    rw [if_neg (by omega)]
    simp [Addr.add]
  · obtain ⟨hx1, -⟩ := seg_get l hx
    have := hcell (lo + k) x hx1
    rw [show off + (lo + k) * 5 = off + lo * 5 + k * 5 by omega] at this
    exact this
theorem SgR.subh {w : World} {a : Option Addr} {n c hi : Nat} {l : List Sg} (h : SgR w (.slice a n c) l) (h2 : hi ≤ l.length) : SgR w (.slice (subA a c 0) hi c) (l.take hi) := by
  have := h.sub (Nat.zero_le hi) h2
  simpa [seg] using this
/-- what the document's branches and expressions answer -/
def DocOut (w : World) (o : Option Nd) (e : Ending) (w' : World) : Prop :=
  w.grownBy w' none ∧ match o with
  | some n => ∃ a m k, e = .returned (.tuple #[ndV n (.slice a m k), .bool true]) ∧ KidsAt w' (fun b => w.heap.size ≤ b) (.slice a m k) n.kids
  | none => e = .returned (.tuple #[ndV ndE (.slice none 0 0), .bool false])
theorem dep_hi (l : List Sg) : dep l ≤ l.length := by
  have := opn_le l; unfold dep; omega
theorem dep_lo (l : List Sg) : -(l.length : Int) ≤ dep l := by
  have : clsC l ≤ l.length := List.countP_le_length
  unfold dep; omega

theorem heap_new_drew (w : World) (o : Obj) : (w.alloc o).drew.heap[w.heap.size]? = some o := heap_alloc_new w o
/-- what an expression's loop knows -/
structure EW (w0 : World) (l : List Sg) (c g a i : Nat) (K : List (Nd × Value)) (v : Value) (wr : World) : Prop where
  G : w0.grownBy wr none
  N : wr.heap[g]? = some (.cells #[.int .i64 0, .int .i64 0, .int .u64 0, .int .u64 0, .int .u64 0, .int .u64 0, .slice none 0 0] 32 (0, 0))
  W : NRow (g + 1) (fun b => w0.heap.size ≤ b ∧ b ≠ g) 32 K v wr
  n : K.length ≤ i
theorem EW.kept {w0 : World} {l : List Sg} {c g a i : Nat} {K : List (Nd × Value)} {v : Value} {wr w' : World} (h : EW w0 l c g a i K v wr) (gr : wr.grownBy w' none) (hg : w0.heap.size ≤ g) : EW w0 l c g a i K v w' :=
  ⟨h.G.trans gr, heap_grown gr h.N, h.W.kept gr (by simp) (fun b hb => by omega), h.n⟩

theorem SgR.at {w : World} {a : Option Addr} {n c k : Nat} {x : Sg} {l : List Sg} (h : SgR w (.slice a n c) l) (hx : l[k]? = some x) : ∃ b off, a = some ⟨b, off, none⟩ ∧ w.cell? ⟨b, off + k * 5, none⟩ = some (.int .u8 x.m) ∧ w.cell? ⟨b, off + k * 5 + 1, none⟩ = some (.int .u64 (wd x.s 0)) ∧ w.cell? ⟨b, off + k * 5 + 2, none⟩ = some (.int .u64 (wd x.s 1)) ∧ w.cell? ⟨b, off + k * 5 + 3, none⟩ = some (.int .u64 (wd x.s 2)) ∧ w.cell? ⟨b, off + k * 5 + 4, none⟩ = some (.int .u64 (wd x.s 3)) := by
  obtain ⟨⟨a', c', e, -, hr⟩, -⟩ := h
  cases e
  obtain ⟨b, off, rfl, -, hc⟩ := hr (by rintro rfl; simp at hx)
  exact ⟨b, off, rfl, hc k x hx⟩
theorem EI.low {l : List Sg} {c a i : Nat} {K : List Nd} (h : EI l c a i K) : 0 ≤ dep (l.take i) := h.p i h.h (Nat.le_refl _)

end Go.Proofs.YtlkjejmmoalliaaDoor

/- How a tree and the document's stand beside each other, and what one step does to both. -/
import Derived.Test.YtpedamncnimgpaaDoorSetPlain
import Derived.Test.YtpedamncnimgpaaDoorRefRm
import Derived.Test.YtpedamncnimgpaaDoorTreeH
import Derived.Test.YtpedamncnimgpaaDoorRefR
import Derived.Test.YtpedamncnimgpaaDoorErrNum
import Derived.Test.YtpedamncnimgpaaDoorErrSix
import Derived.Test.YtpedamncnimgpaaDoorShows
import Derived.Test.YtpedamncnimgpaaDoorTreeD
namespace Go.Proofs.YtpedamncnimgpaaDoor
open Go.RowKit Go.Maps

/-- another document's tree of the files l, whose row does not lie at q -/
def Was (w : World) (q2 q : Nat) (l : List Fl) : Prop :=
  q2 ≠ q ∧ ∃ a c, w.cell? ⟨q2, 0, none⟩ = some (.slice a l.length c) ∧ w.frozen? ⟨q2, 0, none⟩ = false ∧ FRow w (.slice a l.length c) l ∧ l.length ≤ c ∧ c ≤ 9223372036854775807 ∧ ((a = none → c = 0) ∧ ∀ x, a = some x → l ≠ [] → x.block ≠ q2) ∧ l.length ≤ 40 ∧ ∀ x, a = some x → l ≠ [] → x.block ≠ q
theorem Was.rtree {w : World} {q2 q : Nat} {l : List Fl} (h : Was w q2 q l) : RTree w q2 l := by
  obtain ⟨_, a, c, h1, h2, h3, h4, h5, h6, h7, _⟩ := h; exact ⟨a, c, h1, h2, h3, h4, h5, h6, h7⟩
theorem FRow.kept_far {w w' : World} {a : Option Addr} {n c : Nat} {l : List Fl} {row : Option Nat} (h : FRow w (.slice a n c) l) (hg : w.grownBy w' row) (hne : ∀ x, a = some x → l ≠ [] → some x.block ≠ row) : FRow w' (.slice a n c) l := by
  obtain ⟨a', c', e, hn, hs, hc⟩ := h
  cases e
  refine ⟨a, c, rfl, hn, hs, fun hl => ?_⟩
  obtain ⟨b, off, rfl, hlt, hcc⟩ := hc hl
  have hb := hne _ rfl hl
  refine ⟨b, off, rfl, Nat.lt_of_lt_of_le hlt hg.size, fun j f hj => ?_⟩
  obtain ⟨h1, h2, h3⟩ := hcc j f hj
  exact ⟨hg.cell h1 hb, hg.cell h2 hb, hg.cell h3 hb⟩
theorem Was.kept {w w' : World} {q2 q : Nat} {l : List Fl} (h : Was w q2 q l) (hg : w.grownBy w' (some q)) : Was w' q2 q l := by
  obtain ⟨h0, a, c, h1, h2, h3, h4, h5, h6, h7, h8⟩ := h
  have hne : some q2 ≠ some q := fun e => h0 (Option.some.inj e)
  exact ⟨h0, a, c, hg.cell h1 hne, (frozen_kept hg (cell_block h1) hne).trans h2, h3.kept_far hg (fun x hx hl e => h8 x hx hl (Option.some.inj e)), h4, h5, h6, h7, h8⟩
theorem Was.grown {w w' : World} {q2 q : Nat} {l : List Fl} (h : Was w q2 q l) (hg : w.grownBy w' none) : Was w' q2 q l := by
  obtain ⟨h0, a, c, h1, h2, h3, r⟩ := h
  exact ⟨h0, a, c, hg.cell h1 (by simp), (frozen_kept hg (cell_block h1) (by simp)).trans h2, h3.later (below_of_grown hg), r⟩
theorem Was.kept_map {w w' : World} {q2 q b : Nat} {l ts : List Fl} (h : Was w q2 q l) (hg : w.grownBy w' (some b)) (hm : MapIs w b ts) : Was w' q2 q l := by
  obtain ⟨h0, a, c, h1, h2, h3, r⟩ := h
  have hne : some q2 ≠ some b := fun e => map_not_cell h1 hm (Option.some.inj e)
  exact ⟨h0, a, c, hg.cell h1 hne, (frozen_kept hg (cell_block h1) hne).trans h2, h3.kept_map hg hm, r⟩

/-- a tree and the document's, of the same files -/
def Both (w : World) (p b q : Nat) (l : List Fl) : Prop := IsTree w p b l ∧ RTree w q l ∧ (∀ f ∈ l, f.c.size ≤ 900) ∧ Rising l
/-- beside them the copy and the document's tree of before -/
def Beside (w : World) (b q p2 b2 q2 : Nat) (l : List Fl) : Prop := IsTree w p2 b2 l ∧ Was w q2 q l ∧ p2 ≠ b ∧ b2 ≠ b ∧ p2 ≠ q ∧ b2 ≠ q
theorem Both.grown {w w' : World} {p b q : Nat} {l : List Fl} (h : Both w p b q l) (hg : w.grownBy w' none) : Both w' p b q l :=
  ⟨h.1.kept hg (by simp) (by simp), h.2.1.grown hg, h.2.2⟩
theorem Beside.grown {w w' : World} {b q p2 b2 q2 : Nat} {l : List Fl} (h : Beside w b q p2 b2 q2 l) (hg : w.grownBy w' none) : Beside w' b q p2 b2 q2 l :=
  ⟨h.1.kept hg (by simp) (by simp), h.2.1.grown hg, h.2.2⟩
theorem Beside.kept_b {w w' : World} {b q p2 b2 q2 : Nat} {l ts : List Fl} (h : Beside w b q p2 b2 q2 l) (hg : w.grownBy w' (some b)) (hm : MapIs w b ts) : Beside w' b q p2 b2 q2 l :=
  ⟨h.1.kept hg (fun e => h.2.2.1 (Option.some.inj e)) (fun e => h.2.2.2.1 (Option.some.inj e)), h.2.1.kept_map hg hm, h.2.2⟩
theorem Beside.kept_q {w w' : World} {b q p2 b2 q2 : Nat} {l : List Fl} (h : Beside w b q p2 b2 q2 l) (hg : w.grownBy w' (some q)) : Beside w' b q p2 b2 q2 l :=
  ⟨h.1.kept hg (fun e => h.2.2.2.2.1 (Option.some.inj e)) (fun e => h.2.2.2.2.2 (Option.some.inj e)), h.2.1.kept hg, h.2.2⟩

/-- the number of what Put, Touch, Remove, or a look gives; what it leads to -/
def actE (q : Int) (l : List Fl) (f : Fl) : Nat := if q = 0 then putE l f else if q = 1 then putE l (touF l f.n f.t) else if q = 2 then remE l f.n else 0
def actL (q : Int) (l : List Fl) (f : Fl) : List Fl := if q = 0 then setL (putE l f) l f else if q = 1 then setL (putE l (touF l f.n f.t)) l (touF l f.n f.t) else if q = 2 then delL l f.n else l
theorem remE_le (l : List Fl) (s : ByteArray) : remE l s ≤ 18 := by unfold remE; split <;> decide
end Go.Proofs.YtpedamncnimgpaaDoor

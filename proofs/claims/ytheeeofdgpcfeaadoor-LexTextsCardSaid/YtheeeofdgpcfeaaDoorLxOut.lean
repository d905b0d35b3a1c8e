/- What package lex's functions answer, as the laws are told of it; the chapter's example. -/
import Derived.Test.YtheeeofdgpcfeaaDoorLxOf
namespace Go.Proofs.YtheeeofdgpcfeaaDoor
open Go.RowKit

/-- words, or none and an error -/
def PWds (l : List UInt8) (A : Nat → Addr) (w : World) (e : Ending) (w' : World) : Prop :=
  w.grownBy w' none ∧ match wdQ [] [] l with
    | .ok L => ∃ v LB, e = .returned (.tuple #[v, .nilIface]) ∧ RRow w' v LB ∧ pcLL LB = L
    | .error bad => ∃ a c, e = .returned (.tuple #[.slice a 0 c, errV A bad])
/-- a word's text -/
def PTxw (l : List Pb) (w : World) (e : Ending) (w' : World) : Prop := (∃ t : ByteArray, e = .returned (.string t) ∧ t.data.toList = txW (pcL l)) ∧ w.grownBy w' none
/-- whether rows are the same -/
def PSmw (La Lb : List (List Pb)) (w : World) (e : Ending) (w' : World) : Prop := (∃ z, e = .returned (.bool z) ∧ (z = true ↔ La = Lb)) ∧ w.grownBy w' none
/-- what a word says -/
def PLit (l : List Pb) (w : World) (e : Ending) (w' : World) : Prop := (∃ t : ByteArray, e = .returned (.tuple #[.string t, .bool ((pcL l).all litB)]) ∧ t.data.toList = litQ (pcL l)) ∧ w.grownBy w' none
/-- what the laws are told of package lex, where E holds: what the listed variables hold -/
structure LxC (A : Nat → Addr) (E : World → Prop) : Prop where
  gr : ∀ w w' : World, E w → w.grownBy w' none → E w'
  words : ∀ (s : ByteArray) (w : World), E w → s.size ≤ 5000 → Calls Tryd.prog 14 #[.string s] w (PWds s.data.toList A w)
  text : ∀ (v : Value) (l : List Pb) (w : World), E w → PRow w v l → l.length ≤ 1200 → (∀ x ∈ l, x.t.size ≤ 1200 ∧ x.f.size ≤ 1200 ∧ x.o.size ≤ 1200) → (txW (pcL l)).length ≤ 5000 → Calls Tryd.prog 8 #[v] w (PTxw l w)
  same : ∀ (v1 v2 : Value) (La Lb : List (List Pb)) (w : World), E w → RRow w v1 La → RRow w v2 Lb → Calls Tryd.prog 11 #[v1, v2] w (PSmw La Lb w)
  literal : ∀ (v : Value) (l : List Pb) (w : World), E w → PRow w v l → l.length ≤ 12 → (∀ x ∈ l, Shp x) → Calls Tryd.prog 7 #[v] w (PLit l w)
theorem wd_alive : wdQ [] [] [97, 36, 120, 39, 98, 32, 99, 39, 32, 100] = .ok [[⟨0, [97], [], []⟩, ⟨2, [120], [], []⟩, ⟨1, [98, 32, 99], [], []⟩], [⟨0, [100], [], []⟩]] := by
  have h1 : onQ [97, 36, 120, 39, 98, 32, 99, 39, 32, 100] = .ok (⟨0, [97], [], []⟩, [36, 120, 39, 98, 32, 99, 39, 32, 100]) := by rfl
  have h2 : onQ [36, 120, 39, 98, 32, 99, 39, 32, 100] = .ok (⟨2, [120], [], []⟩, [39, 98, 32, 99, 39, 32, 100]) := by rfl
  have h3 : onQ [39, 98, 32, 99, 39, 32, 100] = .ok (⟨1, [98, 32, 99], [], []⟩, [32, 100]) := by rfl
  have h4 : onQ [100] = .ok (⟨0, [100], [], []⟩, []) := by rfl
  have b1 : ¬ blkQ 97 = true := by decide
  have b2 : ¬ blkQ 36 = true := by decide
  have b3 : ¬ blkQ 39 = true := by decide
  have b4 : ¬ blkQ 100 = true := by decide
  have b5 : blkQ 32 = true := by decide
  rw [wdQ, if_neg b1, h1]
  simp only
  rw [if_pos (by decide), wdQ, if_neg b2, h2]
  simp only
  rw [if_pos (by decide), wdQ, if_neg b3, h3]
  simp only
  rw [if_pos (by decide), wdQ, if_pos b5, wdQ, if_neg b4, h4]
  simp only
  rw [if_pos (by decide), wdQ]
  rfl
theorem len_two {α : Type} {l : List α} (h : l.length = 2) : ∃ a b, l = [a, b] := by
  match l, h with
  | [a, b], _ => exact ⟨a, b, rfl⟩
theorem len_three {α : Type} {l : List α} (h : l.length = 3) : ∃ a b c, l = [a, b, c] := by
  match l, h with
  | [a, b, c], _ => exact ⟨a, b, c, rfl⟩
theorem pc_one_of {x : Pb} {k : Int} {t : List UInt8} (h : x.q = ⟨k, t, [], []⟩) : x.k = k ∧ x.t.data.toList = t := by
  unfold Pb.q at h
  simp only [Pq.mk.injEq] at h
  exact ⟨h.1, h.2.1⟩
set_option maxRecDepth 100000 in
set_option maxHeartbeats 4000000 in
theorem lAliveX {A : Nat → Addr} {E : World → Prop} (C : LxC A E) (w : World) (hE : E w) : Calls Tryd.prog 5 #[] w fun e w' => e = .returned (.bool true) ∧ w.grownBy w' none := by
  have CW := Lib.hid (C.words ⟨#[97, 36, 120, 39, 98, 32, 99, 39, 32, 100]⟩ w hE (by decide))
  clear hE
  go_enter Tryd.func5, Tryd.ntmps5
  go_wp2_with fail
  refine CW.out.mono ?_
  rintro e w1 ⟨g1, hout⟩
  have hw : wdQ [] [] (⟨#[97, 36, 120, 39, 98, 32, 99, 39, 32, 100]⟩ : ByteArray).data.toList = .ok [[⟨0, [97], [], []⟩, ⟨2, [120], [], []⟩, ⟨1, [98, 32, 99], [], []⟩], [⟨0, [100], [], []⟩]] := wd_alive
  rw [hw] at hout
  obtain ⟨v, LB, rfl, hR, hL⟩ := hout
  have G1 := Lib.hid g1
  clear CW hw g1
  obtain ⟨l0, l1, rfl⟩ : ∃ l0 l1, LB = [l0, l1] := len_two (by have := congrArg List.length hL; simpa using this)
  have hl0 : pcL l0 = [⟨0, [97], [], []⟩, ⟨2, [120], [], []⟩, ⟨1, [98, 32, 99], [], []⟩] := by
    have := congrArg (·[0]?) hL
    simpa using this
  obtain ⟨x0, x1, x2, rfl⟩ : ∃ x0 x1 x2, l0 = [x0, x1, x2] := len_three (by have := congrArg List.length hl0; simpa using this)
  have h1 : x1.q = ⟨2, [120], [], []⟩ := by have := congrArg (·[1]?) hl0; simpa using this
  have h2 : x2.q = ⟨1, [98, 32, 99], [], []⟩ := by have := congrArg (·[2]?) hl0; simpa using this
  obtain ⟨b, off, c, l, u, rfl, hx, -, k0, hp⟩ := hR.at 0 (by simp)
  obtain rfl : [x0, x1, x2] = l := by simpa using hx
  obtain ⟨b1, o1, c1, y1, rfl, hy1, -, p0, -, -, -⟩ := hp.at 1 (by simp)
  obtain rfl : x1 = y1 := by simpa using hy1
  obtain ⟨b2, o2, c2, y2, ev, hy2, -, -, p1, -, -⟩ := hp.at 2 (by simp)
  obtain rfl : x2 = y2 := by simpa using hy2
  injection ev with e1 e2 e3
  injection e1 with e1
  injection e1 with e1 e4 e5
  subst e1 e4 e3
  rw [(pc_one_of h1).1] at p0
  have hz : x2.t = ⟨#[98, 32, 99]⟩ := bytes_inj (pc_one_of h2).2
  rw [hz] at p1
  clear hR hL hl0 h1 h2 hx hp hy1 hy2 hz
  have k1 : w1.cell? ⟨b, off, none⟩ = some (.slice (some ⟨b1, o1, none⟩) 3 c1) := k0
  have q0 : w1.cell? ⟨b1, o1 + 4, none⟩ = some (.int .i64 2) := p0
  have q1 : w1.cell? ⟨b1, o1 + 8 + 1, none⟩ = some (.string ⟨#[98, 32, 99]⟩) := p1
  have q2 : w1.cell? ⟨b1, o1 + 9, none⟩ = some (.string ⟨#[98, 32, 99]⟩) := p1
  clear k0 p0 p1
  go_wp2
  go_ret
  exact ⟨rfl, G1.out⟩
end Go.Proofs.YtheeeofdgpcfeaaDoor

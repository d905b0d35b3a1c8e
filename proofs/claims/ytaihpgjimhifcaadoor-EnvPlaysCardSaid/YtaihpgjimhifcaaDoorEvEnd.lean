/- The end of a round of EnvPlays: what Find and At gave, compared; Get of both. -/
import Derived.Test.YtaihpgjimhifcaaDoorEvSit
namespace Go.Proofs.YtaihpgjimhifcaaDoor
open Go.RowKit

theorem VRow.cells {w : World} {G : Nat → Prop} {b off n c k : Nat} {l : List Vz} {x : Vz} (h : VRow w G (.slice (some ⟨b, off, none⟩) n c) l) (hx : l[k]? = some x) :
    (w.cell? ⟨b, off + k * 4, none⟩ = some (.string x.n) ∧ w.cell? ⟨b, off + k * 4 + 1, none⟩ = some x.u ∧ w.cell? ⟨b, off + k * 4 + 2, none⟩ = some (.int .i64 x.lv) ∧ w.cell? ⟨b, off + k * 4 + 3, none⟩ = some (.bool x.hd)) ∧ TxRow w x.u x.ws := by
  obtain ⟨b', off', c', y, ev, hy, -, ht, h0, h1, h2, h3⟩ := h.at k (List.getElem?_eq_some_iff.1 hx).1
  obtain rfl : x = y := Option.some.inj (hx.symm.trans hy)
  injection ev with e1 e2 e3
  injection e1 with e1
  injection e1 with e4 e5
  subst e4 e5
  exact ⟨⟨h0, h1, h2, h3⟩, ht.1⟩
theorem find_idx {Z : List Vz} {s : ByteArray} {k : Nat} (h : idxZ Z s = some k) : ∃ x, Z[k]? = some x ∧ (vbL Z).find? (isB s) = some x.b := by
  unfold idxZ at h
  obtain ⟨hk, h1, h2⟩ := List.findIdx?_eq_some_iff_getElem.1 h
  refine ⟨Z[k], by simp, ?_⟩
  have hf : (Z.find? fun x => decide (x.n = s)) = some Z[k] := List.find?_eq_some_iff_getElem.2 ⟨h1, k, hk, rfl, fun j hj => by simpa using h2 j hj⟩
  rw [vb_find, hf]
  rfl
theorem find_no {Z : List Vz} {s : ByteArray} (h : idxZ Z s = none) : (vbL Z).find? (isB s) = none := by
  have := vb_is Z s
  rw [h] at this
  simpa using this
/-- what is known at a round's end: Sit, the variable that Find gave, and its words -/
def Sx (I : World → Nat → (Nat → Prop) → List Vb → Prop) (s : Sp) (w : World) (y : Ac) (Fc : Nat → Prop) (Zc : List Vz) (uc : Value) (F : Nat → Prop) (Z : List Vz) (uv : Value) (xb : Nat) (x : Vz) (W : World) : Prop :=
  Sit I s w y Fc Zc uc F (vbL Z) Z uv false W ∧ W.heap[xb]? = some (.cells #[.string x.n, x.u, .int .i64 x.lv, .bool x.hd] 33 (0, 0)) ∧ TxRow W x.u x.ws
section
variable {A : Nat → Addr} {E : World → Prop} {I : World → Nat → (Nat → Prop) → List Vb → Prop} {s : Sp} {w : World} {y : Ac} {Fc F : Nat → Prop} {Zc Z : List Vz} {uc uv : Value} {xb : Nat} {x : Vz} {W : World}
theorem Sx.grown (C : EvC A E I) (h : Sx I s w y Fc Zc uc F Z uv xb x W) {W' : World} (g : W.grownBy W' none) : Sx I s w y Fc Zc uc F Z uv xb x W' :=
  ⟨h.1.grown C g, heap_grown g h.2.1, h.2.2.later (below_of_grown g)⟩
theorem Sx.reads {n c b off k : Nat} {z : Vz} (h : Sx I s w y Fc Zc uc F Z (.slice (some ⟨b, off, none⟩) n c) xb x W) (hz : Z[k]? = some z) :
    (W.cell? ⟨xb, 0, none⟩ = some (.string x.n) ∧ W.cell? ⟨xb, 1, none⟩ = some x.u ∧ W.cell? ⟨xb, 2, none⟩ = some (.int .i64 x.lv) ∧ W.cell? ⟨xb, 3, none⟩ = some (.bool x.hd)) ∧
    W.cell? ⟨s.bv, 0, none⟩ = some (.string y.v.n) ∧ W.cell? ⟨s.q, 0, none⟩ = some (.slice (some ⟨b, off, none⟩) n c) ∧
    (W.cell? ⟨b, off + k * 4, none⟩ = some (.string z.n) ∧ W.cell? ⟨b, off + k * 4 + 1, none⟩ = some z.u ∧ W.cell? ⟨b, off + k * 4 + 2, none⟩ = some (.int .i64 z.lv) ∧ W.cell? ⟨b, off + k * 4 + 3, none⟩ = some (.bool z.hd)) :=
  ⟨four_vz h.2.1, h.1.bx.1.1, by unfold World.cell?; rw [h.1.hq]; rfl, (h.1.r.cells hz).1⟩
theorem Sx.n (h : Sx I s w y Fc Zc uc F Z uv xb x W) : W.cell? ⟨s.bv, 0, none⟩ = some (.string y.v.n) := h.1.bx.1.1
theorem tx_nilE {W : World} : TxRow W (.slice none 0 0) [] := ⟨none, 0, rfl, ⟨by decide, fun _ => rfl⟩, fun h => absurd rfl h⟩
theorem tx_z (h : Sx I s w y Fc Zc uc F Z uv xb x W) {k : Nat} {z : Vz} (hz : Z[k]? = some z) {a : Option Addr} {c : Nat} (hu : z.u = .slice a z.ws.length c) : TxRow W (.slice a z.ws.length c) z.ws := by
  obtain ⟨b, off, c', y', ev, hy, -, ht, -⟩ := h.1.r.at k (List.getElem?_eq_some_iff.1 hz).1
  obtain rfl : z = y' := Option.some.inj (hz.symm.trans hy)
  rw [hu] at ht
  exact ht.1
theorem xSame (h : Sx I s w y Fc Zc uc F Z uv xb x W) {k : Nat} {z : Vz} (hz : Z[k]? = some z) (hx : x.b = z.b) : Calls Tryd.prog 20 #[vzA x, vzA z] W fun e W' => e = .returned (.bool true) ∧ W.grownBy W' none := by
  obtain ⟨b, off, c, y', ev, hy, -, ht, -⟩ := h.1.r.at k (List.getElem?_eq_some_iff.1 hz).1
  obtain rfl : z = y' := Option.some.inj (hz.symm.trans hy)
  exact dSameV x z W hx h.2.2 ht.1
theorem xGet (C : EvC A E I) (hE : E w) (h : Sx I s w y Fc Zc uc F Z uv xb x W) (hy : y.v.n.size ≤ 100) {ws : List ByteArray} (hws : (((vbL Z).find? (isB y.v.n)).map Vb.ws).getD [] = ws) : Calls Tryd.prog 22 #[.pointer (some ⟨s.p, 0, none⟩), .string y.v.n] W fun e W' => W.grownBy W' none ∧ ∃ u, e = .returned u ∧ TxRow W' u ws := by
  have := C.get W s.p F (vbL Z) y.v.n (C.gr _ _ hE h.1.g) h.1.i hy
  rw [hws] at this
  exact this
theorem xGetR (h : Sx I s w y Fc Zc uc F Z uv xb x W) {u : Value} (hu : getU Z y.v.n = u) : Calls Tryd.prog 23 #[.pointer (some ⟨s.q, 0, none⟩), .string y.v.n] W fun e W' => e = .returned u ∧ W.grownBy W' none := by
  have := dGetV s.q uv Z y.v.n _ W (by unfold World.cell?; rw [h.1.hq]; rfl) h.1.r
  rw [hu] at this
  exact this
end
end Go.Proofs.YtaihpgjimhifcaaDoor

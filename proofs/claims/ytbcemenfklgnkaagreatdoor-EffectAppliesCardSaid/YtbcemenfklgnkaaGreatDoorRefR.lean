/- The document's tree: Remove, Touch. -/
import Derived.Test.YtbcemenfklgnkaaGreatDoorSetPlain
import Derived.Deep.RegionLaw
import Derived.BigRegion
namespace Go.Proofs.YtbcemenfklgnkaaGreatDoor
open Go.RowKit

section
variable {P : Program} (w : World)
/-- append of any number of elements, at a step of a region that draws -/
theorem step_append_own {ops : Array Oper} {o : Oper} {a : Act} {K : Act → World → Prop} {Q : Exit → Act → World → Prop} {E : Prop} (hgd : o.guard = none) (s x : Operand) (t : TypeId)
    (ho : o.op = .call { callee := .builtin .append, args := #[s, x], argTypes := #[t, t] })
    (base : Nat) (e : TypeId) (i : TypeInfo) (z : Value) (size bytes : Nat) (ht : P.underlying t = some (.slice e)) (hi : P.info? e = some i) (hz : i.zero = some z)
    (hsize : i.size = size) (hby : i.bytes = bytes) (hzs : z.cells.size = size) (hsz : 0 < size)
    (v : Value) (n : Nat) (xs : List Value) (hs : a.eval s = v) (hown : w.ownsRow base e size v n xs)
    (ad : Addr) (m c : Nat) (news : List Value) (hx : a.eval x = .slice (some ad) m c) (hl : news.length = m * size) (hnews : ∀ j u, news[j]? = some u → w.cell? (ad.add j) = some u) (h1 : ∀ u ∈ news, u.oneCell' = true)
    (h63 : n + m ≤ maxLen) (hbytes : (n + m) * bytes ≤ 140737488355328) (hbase : base ≤ w.heap.size)
    (h : ∀ v' w', w'.ownsRow base e size v' (n + m) (xs ++ news) → w.grownBy w' v.ownBlock → (v' = .slice none 0 0 ↔ v = .slice none 0 0 ∧ m = 0) → K (a.put o.dst v') w') :
    if Region.wanted o (yielded ops a.tmps) = true then Oper.wp P o a w K Q else E := by
  have hw : Region.wanted o (yielded ops a.tmps) = true := by simp [Region.wanted, hgd]
  rw [if_pos hw]
  exact wp_append_own w s x t ho base e i z size bytes ht hi hz hsize hby hzs hsz v n xs hs hown ad m c news hx hl hnews h1 h63 hbytes hbase h
end

theorem cellsF_one (l : List Fl) : ∀ u ∈ cellsF l, u.oneCell' = true := by
  intro u hu
  unfold cellsF at hu
  obtain ⟨f, _, hf⟩ := List.mem_flatMap.1 hu
  exact oneF f u hf
theorem cellsF_len (l : List Fl) : (cellsF l).length = l.length * 3 := by
  unfold cellsF
  induction l with
  | nil => rfl
  | cons a r ih => rw [List.flatMap_cons, List.length_append, ih]; simp; omega
theorem cellsF_append (a b : List Fl) : cellsF (a ++ b) = cellsF a ++ cellsF b := by unfold cellsF; exact List.flatMap_append
/-- the cells of a part of a row -/
theorem FRow.part {w : World} {b off len c : Nat} {l : List Fl} (h : FRow w (.slice (some ⟨b, off, none⟩) len c) l) (i : Nat) (r : List Fl) (hr : ∀ j f, r[j]? = some f → l[i + j]? = some f) :
    ∀ j u, (cellsF r)[j]? = some u → w.cell? ((⟨b, off + i * 3, none⟩ : Addr).add j) = some u := by
  intro j u hu
  obtain ⟨a, c', e, hn, hs, hc⟩ := h
  have hjl : j < (cellsF r).length := (List.getElem?_eq_some_iff.1 hu).1
  rw [cellsF_len] at hjl
  have hq : j / 3 < r.length := by omega
  obtain ⟨f, hf⟩ : ∃ f, r[j / 3]? = some f := ⟨_, List.getElem?_eq_getElem hq⟩
  have hlf := hr _ _ hf
  have hne : l ≠ [] := by intro e; rw [e] at hlf; simp at hlf
  obtain ⟨b', off', ea, hlt, hcc⟩ := hc hne
  cases e
  cases ea
  obtain ⟨h1, h2, h3⟩ := hcc _ _ hlf
  obtain ⟨g1, g2, g3⟩ := cellsF_get hf
  rw [Addr.add_lit]
  have hm : j % 3 = 0 ∨ j % 3 = 1 ∨ j % 3 = 2 := by omega
  rcases hm with hm | hm | hm
  · have ej : j = j / 3 * 3 := by omega
    rw [ej, g1] at hu
    rw [show off + i * 3 + j = off + (i + j / 3) * 3 by omega, h1]; exact hu
  · have ej : j = j / 3 * 3 + 1 := by omega
    rw [ej, g2] at hu
    rw [show off + i * 3 + j = off + (i + j / 3) * 3 + 1 by omega, h2]; exact hu
  · have ej : j = j / 3 * 3 + 2 := by omega
    rw [ej, g3] at hu
    rw [show off + i * 3 + j = off + (i + j / 3) * 3 + 2 by omega, h3]; exact hu
theorem delL_at {l : List Fl} {k : Nat} {f : Fl} (hf : l[k]? = some f) (hr : Rising l) : delL l f.n = l.take k ++ l.drop (k + 1) := by
  obtain ⟨hk, e⟩ := List.getElem?_eq_some_iff.1 hf
  have hsplit : l = l.take k ++ f :: l.drop (k + 1) := by
    rw [← e, ← List.drop_eq_getElem_cons hk, List.take_append_drop]
  have hr' := hr
  rw [hsplit] at hr'
  obtain ⟨_, h2, h3⟩ := List.pairwise_append.1 hr'
  have n1 : ∀ y ∈ l.take k, isN f.n y = false := fun y hy => isN_other fun e => by
    have := h3 y hy f (by simp)
    rw [e, WideAt.bytes_irrefl] at this; cases this
  have n2 : ∀ y ∈ l.drop (k + 1), isN f.n y = false := fun y hy => isN_other fun e => by
    have := (List.pairwise_cons.1 h2).1 y hy
    rw [e, WideAt.bytes_irrefl] at this; cases this
  have f1 : delL (l.take k) f.n = l.take k := List.filter_eq_self.2 fun y hy => by simp [n1 y hy]
  have f2 : delL (l.drop (k + 1)) f.n = l.drop (k + 1) := List.filter_eq_self.2 fun y hy => by simp [n2 y hy]
  have f3 : delL (l.take k ++ f :: l.drop (k + 1)) f.n = delL (l.take k) f.n ++ delL (l.drop (k + 1)) f.n := by
    unfold delL
    rw [List.filter_append, List.filter_cons, isN_self]; simp
  conv => lhs; rw [hsplit]
  rw [f3, f1, f2]

/-- what the document's Put does, as a whole -/
theorem rPut (p : Nat) (l : List Fl) (f : Fl) (w : World) (h : RTree w p l) (hn : f.n.size ≤ maxLen) (hc : f.c.size ≤ maxLen) (hri : Rising l) :
    Calls Tryz.prog 33 #[.pointer (some ⟨p, 0, none⟩), valF f] w fun e w' => e = .returned (.int .i64 (putE l f)) ∧ RTree w' p (setL (putE l f) l f) ∧ w.grownBy w' (some p) := by
  by_cases hk : putE l f = 0
  · rw [hk]
    exact rPut_ok p l f w h hn hc hk hri
  · refine (rPut_bad p l f w h hn hc hk).mono ?_
    rintro e w' ⟨rfl, g⟩
    have e : setL (putE l f) l f = l := by unfold setL; exact if_neg hk
    rw [e]
    exact ⟨rfl, h.grown g, g.but _⟩

theorem grown_setAt (w : World) (p o : Nat) (v : Value) : w.grownBy (w.setCell ⟨p, o, none⟩ v) (some p) :=
  ⟨rfl, rfl, rfl, by simp [World.setCell], fun k _ hne => Below.heap_setCell _ _ _ _ (fun e => hne (by rw [e]))⟩

set_option maxRecDepth 100000 in
set_option maxHeartbeats 1000000 in
theorem rTouch (p : Nat) (l : List Fl) (n : ByteArray) (t : Int) (w : World) (h : RTree w p l) (hn : n.size ≤ maxLen) (hri : Rising l) :
    Calls Tryz.prog 73 #[.pointer (some ⟨p, 0, none⟩), .string n, .int .i64 t] w fun e w' => e = .returned (.int .i64 (putE l (touF l n t))) ∧ RTree w' p (setL (putE l (touF l n t)) l (touF l n t)) ∧ w.grownBy w' (some p) := by
  have HT := Lib.hid h; have HRI := Lib.hid hri
  have h40 := h.len40
  have hat := fun (W : World) (hW : RTree W p l) => rAt p l n W hW
  have hput := fun (W : World) (hW : RTree W p l) (hc : (getL l n).c.size ≤ maxLen) => rPut p l (touF l n t) W hW hn hc hri
  unfold touF valF at hput
  unfold touF
  have gx := World.grownBy_alloc w (.cells #[.string n, .string ByteArray.empty, .int .i64 t] 76) none
  have GX := Lib.hid gx
  rcases at_cases l n with ⟨h7, hi⟩ | ⟨k, f, hk, hf, -, hi, hg, -⟩
  · rw [hi] at hat
    have hgn : (getL l n).c = ByteArray.empty := by rw [getL_not h7]; rfl
    rw [hgn] at hput ⊢
    have HAT := Lib.hid hat
    generalize putE l ⟨n, ByteArray.empty, t⟩ = k at hput ⊢
    have HPUT := Lib.hid hput
    clear hat hi h7 gx h hri hput hgn
    go_enter Tryz.func73, Tryz.ntmps73
    go_wp2_with (first
      | (go_at_call 32; refine (HAT.out _ (HT.out.grown GX.out)).mono ?_; rintro e w2 ⟨rfl, g2⟩; have G2 := Lib.hid (GX.out.trans g2); have x2 := (box_newT w ⟨n, ByteArray.empty, t⟩ 76).kept g2 (by simp); have x0 := x2.1; have x1 := x2.2.1; have x3 := x2.2.2; clear g2 x2)
      | (go_at_call 33; refine (HPUT.out _ (HT.out.grown G2.out) (by unfold maxLen; simp)).mono ?_; rintro e w3 ⟨rfl, t3, g3⟩; have T3 := Lib.hid t3; have G3 := Lib.hid g3; clear t3 g3))
    go_ret
    exact ⟨rfl, T3.out, (G2.out.but _).trans G3.out⟩
  · rw [hi] at hat
    rw [hg] at hput ⊢
    have SC := Lib.hid (h.sizes f (List.mem_of_getElem? hf)).2
    have HAT := Lib.hid hat; have HF := Lib.hid hf
    generalize putE l ⟨n, f.c, t⟩ = pe at hput ⊢
    have HPUT := Lib.hid hput
    clear hat hi gx h hri hput hg hf
    go_enter Tryz.func73, Tryz.ntmps73
    go_wp2_with (first
      | (go_at_call 32; refine (HAT.out _ (HT.out.grown GX.out)).mono ?_; rintro e w2 ⟨rfl, g2⟩; have G2 := Lib.hid (GX.out.trans g2); have x2 := (box_newT w ⟨n, ByteArray.empty, t⟩ 76).kept g2 (by simp); have x0 := x2.1; have x1 := x2.2.1; have x3 := x2.2.2; have xf : w2.frozen? ⟨w.heap.size, 1, none⟩ = false := (frozen_kept g2 (by simp) (by simp)).trans (by go_simp); have LT2 := Lib.hid (Nat.lt_of_lt_of_le (show w.heap.size < (w.alloc (.cells #[.string n, .string ByteArray.empty, .int .i64 t] 76)).heap.size by simp) g2.size); obtain ⟨a, c, hc, -, hr, -⟩ := HT.out.grown G2.out; obtain ⟨b, off, c', f', e, hf', -, -, -, c0, c1, c2⟩ := hr.at k hk; cases e; obtain rfl := Option.some.inj (HF.out.symm.trans hf'); clear g2 x2 hr hf')
      | (go_at_call 33; refine (HPUT.out _ (HT.out.grown (grown_none G2.out (grown_setAt w2 w.heap.size 1 _) (Nat.le_refl _))) SC.out).mono ?_; rintro e w3 ⟨rfl, t3, g3⟩; have T3 := Lib.hid t3; have G3 := Lib.hid g3; clear t3 g3))
    go_ret
    exact ⟨rfl, T3.out, ((grown_none G2.out (grown_setAt w2 w.heap.size 1 _) (Nat.le_refl _)).but _).trans G3.out⟩
end Go.Proofs.YtbcemenfklgnkaaGreatDoor

/- Keys of maps of files. Walks of package tree: Names: the names of a tree's files, rising. Slices of files that a call makes. -/
import Derived.Test.YtbcemenfklgnkaaGreatDoorTreeA
import Derived.Maps.Ext
import Derived.Test.YtbcemenfklgnkaaGreatDoorIter
import Derived.Test.YtbcemenfklgnkaaGreatDoorTreeF
import Derived.Deep.AppendLies
namespace Go.Proofs.YtbcemenfklgnkaaGreatDoor
open Go.RowKit Go.Maps

theorem blk_ne {a b : Nat} (h : a ≠ b) : some a ≠ some b := fun e => h (Option.some.inj e)
theorem keyOf_inv {key : Value} {kl : Lit} (h : keyOf Tryz.prog 9 key = some kl) : ∃ s : ByteArray, key = .string s ∧ kl = keyS s := by
  cases key <;> simp [keyOf, Tryz.underlying9, mapKey] at h
  exact ⟨_, rfl, by first | exact h.symm | exact h.2.symm⟩
end Go.Proofs.YtbcemenfklgnkaaGreatDoor

namespace Go.Proofs.YtbcemenfklgnkaaGreatDoor
open Go.RowKit Go.Maps Go.Sort Go.Shelf

/-- the files stand by their names, rising -/
def Rising (l : List Fl) : Prop := l.Pairwise fun a b => bytesBefore a.n.data.toList b.n.data.toList = true
theorem before_lt : ∀ (a b : List UInt8), bytesBefore a b = true ↔ a < b
  | [], [] => by simp [bytesBefore]
  | [], _ :: _ => by simp [bytesBefore]
  | _ :: _, [] => by simp [bytesBefore]
  | a :: r, b :: s => by
    rw [List.cons_lt_cons_iff]
    unfold bytesBefore
    rw [Bool.or_eq_true, Bool.and_eq_true, decide_eq_true_eq, beq_iff_eq, before_lt r s]
theorem MapIs.rising {w : World} {b : Nat} {l : List Fl} (h : MapIs w b l) : Rising l := by
  obtain ⟨es, he, hs, -⟩ := World.ownsMap.canon h lawS
  unfold toD at he
  rw [DataW.map.injEq] at he
  subst he
  rw [List.pairwise_map] at hs
  exact hs
def namesL (l : List Fl) : List (List UInt8) := l.map fun f => f.n.data.toList
theorem toD_keys (l : List Fl) : strKeys (toD l) = namesL l := by
  unfold toD namesL
  show (l.map entF).map (fun p => strOf p.1) = _
  rw [List.map_map]; rfl
theorem names_sorted {l : List Fl} (h : Rising l) : (namesL l).mergeSort leB = namesL l := by
  refine List.mergeSort_of_pairwise ?_
  unfold namesL
  rw [List.pairwise_map]
  refine h.imp ?_
  intro a b hab
  rw [before_lt] at hab
  exact decide_eq_true (List.le_of_lt hab)
def nameVs (l : List Fl) : List Value := l.map fun f => .string f.n
theorem names_vals (l : List Fl) : (namesL l).map encStr = nameVs l := by
  unfold namesL nameVs
  rw [List.map_map]
  refine List.map_congr_left fun f _ => ?_
  simp [encStr]

theorem slice_of_owns {w : World} {base : Nat} {e : TypeId} {size : Nat} {v : Value} {n : Nat} {xs : List Value} (h : w.ownsRow base e size v n xs) : ∃ a c, v = .slice a n c := by
  rcases h.2 with ⟨rfl, rfl⟩ | ⟨g, cap, cur, rfl, _⟩
  · exact ⟨none, 0, rfl⟩
  · exact ⟨_, cap, rfl⟩

set_option maxHeartbeats 1000000 in
theorem tNames (p b : Nat) (l : List Fl) (w : World) (h : IsTree w p b l) :
    Calls Tryz.prog 40 #[.pointer (some ⟨p, 0, none⟩)] w fun e w' => ∃ a c, e = .returned (.slice a l.length c) ∧ w'.ownsRow w.heap.size 9 1 (.slice a l.length c) l.length (nameVs l) ∧ Below w.heap.size w w' := by
  have hown := h.2.1
  have hc := h.1
  have h40 := h.2.2
  have hmax : Maps.size (toD l) ≤ maxLen := by rw [toD_size]; unfold maxLen; omega
  have hbytes : Maps.size (toD l) * 16 ≤ 140737488355328 := by rw [toD_size]; omega
  refine (callsIn_wide (n := 6)).1 ?_
  have hfA : Fence.wide.fn 50 := trivial
  have hfK : Fence.wide.fn 62 := trivial
  have hfS : Fence.wide.fn 61 := trivial
  have HOWN := Lib.hid hown
  clear hown h
  refine callsIn_of_wp Tryz.func40 rfl trivial ?_ rfl
  simp only [Tryz.ntmps40, List.size_toArray, List.length_cons, List.length_nil, Nat.reduceAdd, Nat.reduceSub, Array.replicate_succ, Array.replicate_zero, List.push_toArray, List.append_toArray, List.nil_append, List.cons_append]
  gi_wp2_with (first
    | (gi_at_call 50; refine ((callsIn_wide (n := 5)).2 (tAll p b _ hc)).mono ?_; rintro e w' ⟨rfl, rfl⟩)
    | (gi_at_call 62; refine (Tryz.maps_Keys_62 _ _).mono ?_; rintro e w' ⟨rfl, rfl⟩)
    | (gi_at_call 61; refine (Tryz.slices_Sorted_keys_61_62 b _ _ fileElem w HOWN.out hmax hbytes).mono ?_; rintro e w' ⟨v, ss, rfl, hS, hrow, hnil, hb⟩))
  go_ret
  have hlen : ss.length = l.length := by rw [hS.length_eq, toD_keys]; unfold namesL; simp
  have hsort : (ss.mergeSort leB).map encStr = nameVs l := by rw [mergeSort_of_perm hS, toD_keys, names_sorted (MapIs.rising HOWN.out), names_vals]
  have hown2 : w'.ownsRow w.heap.size 9 1 v l.length (nameVs l) := by
    rw [← hlen, ← hsort]
    exact ownsRow_base_a hrow (by simp)
  obtain ⟨a, c, rfl⟩ := slice_of_owns hown2
  exact ⟨a, c, rfl, hown2, ((Below.refl _ w).alloc (Nat.le_refl _) _).trans (hb.mono (by simp))⟩
end Go.Proofs.YtbcemenfklgnkaaGreatDoor

namespace Go.Proofs.YtbcemenfklgnkaaGreatDoor
open Go.RowKit

/-- v is a slice that holds the files l -/
def FC (w : World) (v : Value) (l : List Fl) : Prop :=
  ∃ a c, v = .slice a l.length c ∧ l.length ≤ 9223372036854775807 ∧
    (l ≠ [] → ∃ b off, a = some ⟨b, off, none⟩ ∧ b < w.heap.size ∧ ∀ j f, l[j]? = some f →
      w.cell? ⟨b, off + j * 3, none⟩ = some (.string f.n) ∧ w.cell? ⟨b, off + j * 3 + 1, none⟩ = some (.string f.c) ∧ w.cell? ⟨b, off + j * 3 + 2, none⟩ = some (.int .i64 f.t))
theorem FRow.fc {w : World} {v : Value} {l : List Fl} (h : FRow w v l) : FC w v l := by
  obtain ⟨a, c, e, hn, _, hc⟩ := h; exact ⟨a, c, e, hn, hc⟩
theorem FC.frow {w : World} {v : Value} {l : List Fl} (h : FC w v l) (hs : ∀ f ∈ l, f.n.size ≤ maxLen ∧ f.c.size ≤ maxLen) : FRow w v l := by
  obtain ⟨a, c, e, hn, hc⟩ := h; exact ⟨a, c, e, hn, hs, hc⟩
theorem FC.later {w w' : World} {v : Value} {l : List Fl} (h : FC w v l) (hb : Below w.heap.size w w') : FC w' v l := by
  obtain ⟨a, c, e, hn, hc⟩ := h
  refine ⟨a, c, e, hn, fun hne => ?_⟩
  obtain ⟨b, off, ea, hlt, hcc⟩ := hc hne
  refine ⟨b, off, ea, Nat.lt_of_lt_of_le hlt hb.size, fun j f hj => ?_⟩
  obtain ⟨h1, h2, h3⟩ := hcc j f hj
  exact ⟨(hb.cell hlt).trans h1, (hb.cell hlt).trans h2, (hb.cell hlt).trans h3⟩
theorem FC.at {w : World} {v : Value} {l : List Fl} (h : FC w v l) (k : Nat) (hk : k < l.length) :
    ∃ b off c f, v = .slice (some ⟨b, off, none⟩) l.length c ∧ l[k]? = some f ∧ b < w.heap.size ∧
      w.cell? ⟨b, off + k * 3, none⟩ = some (.string f.n) ∧ w.cell? ⟨b, off + k * 3 + 1, none⟩ = some (.string f.c) ∧ w.cell? ⟨b, off + k * 3 + 2, none⟩ = some (.int .i64 f.t) := by
  obtain ⟨a, c, e, hn, hc⟩ := h
  have hne : l ≠ [] := by intro e; rw [e] at hk; simp at hk
  obtain ⟨b, off, rfl, hlt, hcc⟩ := hc hne
  have hf : l[k]? = some l[k] := List.getElem?_eq_getElem hk
  exact ⟨b, off, c, l[k], e, hf, hlt, hcc k _ hf⟩

/-- the cells of files, one behind the other -/
def cellsF (l : List Fl) : List Value := l.flatMap fun f => [.string f.n, .string f.c, .int .i64 f.t]
theorem cellsF_snoc (l : List Fl) (f : Fl) : cellsF (l ++ [f]) = cellsF l ++ [.string f.n, .string f.c, .int .i64 f.t] := by
  unfold cellsF; rw [List.flatMap_append]; rfl
theorem cellsF_take {l : List Fl} {k : Nat} {f : Fl} (h : l[k]? = some f) : cellsF (l.take (k + 1)) = cellsF (l.take k) ++ [.string f.n, .string f.c, .int .i64 f.t] := by
  rw [List.take_add_one, h]; exact cellsF_snoc _ _
theorem cellsF_get : ∀ {l : List Fl} {j : Nat} {f : Fl}, l[j]? = some f → (cellsF l)[j * 3]? = some (.string f.n) ∧ (cellsF l)[j * 3 + 1]? = some (.string f.c) ∧ (cellsF l)[j * 3 + 2]? = some (.int .i64 f.t)
  | [], j, f, h => by simp at h
  | a :: r, 0, f, h => by
    obtain rfl : a = f := by simpa using h
    exact ⟨rfl, rfl, rfl⟩
  | a :: r, j + 1, f, h => by
    have h' : r[j]? = some f := by simpa using h
    obtain ⟨h1, h2, h3⟩ := cellsF_get h'
    have e : cellsF (a :: r) = .string a.n :: .string a.c :: .int .i64 a.t :: cellsF r := rfl
    rw [e, show (j + 1) * 3 = j * 3 + 1 + 1 + 1 by omega]
    exact ⟨by simpa using h1, by simpa using h2, by simpa using h3⟩
theorem fc_of_owns {w : World} {base : Nat} {e : TypeId} {v : Value} {l : List Fl} (h : w.ownsRow base e 3 v l.length (cellsF l)) (hn : l.length ≤ 9223372036854775807) : FC w v l := by
  rcases h.2 with ⟨rfl, h0⟩ | ⟨g, cap, cur, rfl, hb, hg, h1, h2, h3, h4⟩
  · exact ⟨none, 0, by rw [h0], hn, fun hne => absurd (List.eq_nil_of_length_eq_zero h0) hne⟩
  · refine ⟨_, cap, rfl, hn, fun _ => ⟨g, 0, rfl, (Array.getElem?_eq_some_iff.1 hg).1, fun j f hf => ?_⟩⟩
    obtain ⟨g1, g2, g3⟩ := cellsF_get hf
    have k1 := h.cells (g := g) rfl _ _ g1
    have k2 := h.cells (g := g) rfl _ _ g2
    have k3 := h.cells (g := g) rfl _ _ g3
    rw [Addr.add_lit] at k1 k2 k3
    exact ⟨k1, k2, k3⟩
theorem good_of_owns {w : World} {base : Nat} {e : TypeId} {size : Nat} {a : Option Addr} {n c : Nat} {xs : List Value} (h : w.ownsRow base e size (.slice a n c) n xs) : n ≤ c ∧ c ≤ 9223372036854775807 ∧ (a = none → c = 0) := by
  rcases h.2 with ⟨hv, h0⟩ | ⟨g, cap, cur, hv, hb, hg, h1, h2, h3, h4⟩
  · cases hv; exact ⟨by omega, by omega, fun _ => rfl⟩
  · cases hv; unfold maxLen at h2; exact ⟨h1, h2, fun e => by cases e⟩

theorem infoFile : (Tryz.prog.info? 61).map (fun i => (i.zero, i.size, i.bytes)) = some (some (.agg #[.string ByteArray.empty, .string ByteArray.empty, .int .i64 0]), 3, 40) := by kernel_rfl
theorem newsF (w : World) (f : Fl) (t : TypeId) : ∀ j u, ([.string f.n, .string f.c, .int .i64 f.t] : List Value)[j]? = some u → (w.alloc (.cells #[.string f.n, .string f.c, .int .i64 f.t] t)).cell? ((⟨w.heap.size, 0, none⟩ : Addr).add j) = some u :=
  World.news_of_block (cs := #[.string f.n, .string f.c, .int .i64 f.t]) (t := t) (fr := (0, 0)) (heap_alloc_new w _)
theorem oneF (f : Fl) : ∀ u ∈ ([.string f.n, .string f.c, .int .i64 f.t] : List Value), u.oneCell' = true := by
  intro u hu; simp at hu; rcases hu with rfl | rfl | rfl <;> rfl
end Go.Proofs.YtbcemenfklgnkaaGreatDoor

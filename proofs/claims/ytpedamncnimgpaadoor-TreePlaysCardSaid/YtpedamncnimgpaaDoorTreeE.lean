/- Walks of package tree: Names: the names of a tree's files, rising. -/
import Derived.Test.YtpedamncnimgpaaDoorTreeA
import Derived.Test.YtpedamncnimgpaaDoorIter
import Derived.Maps.Ext
namespace Go.Proofs.YtpedamncnimgpaaDoor
open Go.RowKit Go.Maps Go.Sort Go.Shelf

/-- the files stand by their names, rising -/
def Rising (l : List Fl) : Prop := l.Pairwise fun a b => bytesBefore a.n.data.toList b.n.data.toList = true
theorem before_lt : ∀ (a b : List UInt8), bytesBefore a b = true ↔ a < b
  | [], [] => by simp [bytesBefore]
  | [], _ :: _ => by simp [bytesBefore]
  | _ :: _, [] => by simp [bytesBefore]
  | a :: r, b :: s => by
    rw [List.cons_lt_cons_iff]
    unfold bytesBefore
    rw [Bool.or_eq_true, Bool.and_eq_true, decide_eq_true_eq, beq_iff_eq, before_lt r s]
theorem MapIs.rising {w : World} {b : Nat} {l : List Fl} (h : MapIs w b l) : Rising l := by
  obtain ⟨es, he, hs, -⟩ := World.ownsMap.canon h lawS
  unfold toD at he
  rw [DataW.map.injEq] at he
  subst he
  rw [List.pairwise_map] at hs
  exact hs
def namesL (l : List Fl) : List (List UInt8) := l.map fun f => f.n.data.toList
theorem toD_keys (l : List Fl) : strKeys (toD l) = namesL l := by
  unfold toD namesL
  show (l.map entF).map (fun p => strOf p.1) = _
  rw [List.map_map]; rfl
theorem names_sorted {l : List Fl} (h : Rising l) : (namesL l).mergeSort leB = namesL l := by
  refine List.mergeSort_of_pairwise ?_
  unfold namesL
  rw [List.pairwise_map]
  refine h.imp ?_
  intro a b hab
  rw [before_lt] at hab
  exact decide_eq_true (List.le_of_lt hab)
def nameVs (l : List Fl) : List Value := l.map fun f => .string f.n
theorem names_vals (l : List Fl) : (namesL l).map encStr = nameVs l := by
  unfold namesL nameVs
  rw [List.map_map]
  refine List.map_congr_left fun f _ => ?_
  simp [encStr]

theorem slice_of_owns {w : World} {base : Nat} {e : TypeId} {size : Nat} {v : Value} {n : Nat} {xs : List Value} (h : w.ownsRow base e size v n xs) : ∃ a c, v = .slice a n c := by
  rcases h.2 with ⟨rfl, rfl⟩ | ⟨g, cap, cur, rfl, _⟩
  · exact ⟨none, 0, rfl⟩
  · exact ⟨_, cap, rfl⟩

set_option maxHeartbeats 1000000 in
theorem tNames (p b : Nat) (l : List Fl) (w : World) (h : IsTree w p b l) :
    Calls Tryd.prog 26 #[.pointer (some ⟨p, 0, none⟩)] w fun e w' => ∃ a c, e = .returned (.slice a l.length c) ∧ w'.ownsRow w.heap.size 9 1 (.slice a l.length c) l.length (nameVs l) ∧ Below w.heap.size w w' := by
  have hown := h.2.1
  have hc := h.1
  have h40 := h.2.2
  have hmax : Maps.size (toD l) ≤ maxLen := by rw [toD_size]; unfold maxLen; omega
  have hbytes : Maps.size (toD l) * 16 ≤ 140737488355328 := by rw [toD_size]; omega
  refine (callsIn_wide (n := 6)).1 ?_
  have hfA : Fence.wide.fn 28 := trivial
  have hfK : Fence.wide.fn 39 := trivial
  have hfS : Fence.wide.fn 38 := trivial
  have HOWN := Lib.hid hown
  clear hown h
  refine callsIn_of_wp Tryd.func26 rfl trivial ?_ rfl
  simp only [Tryd.ntmps26, List.size_toArray, List.length_cons, List.length_nil, Nat.reduceAdd, Nat.reduceSub, Array.replicate_succ, Array.replicate_zero, List.push_toArray, List.append_toArray, List.nil_append, List.cons_append]
  gi_wp2_with (first
    | (gi_at_call 28; refine ((callsIn_wide (n := 5)).2 (tAll p b _ hc)).mono ?_; rintro e w' ⟨rfl, rfl⟩)
    | (gi_at_call 39; refine (Tryd.maps_Keys_39 _ _).mono ?_; rintro e w' ⟨rfl, rfl⟩)
    | (gi_at_call 38; refine (Tryd.slices_Sorted_keys_38_39 b _ _ fileElem w HOWN.out hmax hbytes).mono ?_; rintro e w' ⟨v, ss, rfl, hS, hrow, hnil, hb⟩))
  go_ret
  have hlen : ss.length = l.length := by rw [hS.length_eq, toD_keys]; unfold namesL; simp
  have hsort : (ss.mergeSort leB).map encStr = nameVs l := by rw [mergeSort_of_perm hS, toD_keys, names_sorted (MapIs.rising HOWN.out), names_vals]
  have hown2 : w'.ownsRow w.heap.size 9 1 v l.length (nameVs l) := by
    rw [← hlen, ← hsort]
    exact ownsRow_base_a hrow (by simp)
  obtain ⟨a, c, rfl⟩ := slice_of_owns hown2
  exact ⟨a, c, rfl, hown2, ((Below.refl _ w).alloc (Nat.le_refl _) _).trans (hb.mono (by simp))⟩
end Go.Proofs.YtpedamncnimgpaaDoor

/- Nodes of any kind in memory; the walks that ask whether a node is right. -/
import Derived.Test.YtliefnjhobdphaaDoorPgPlain
import Derived.Test.YtliefnjhobdphaaDoorClsEm
namespace Go.Proofs.YtliefnjhobdphaaDoor
open Go.RowKit

def cellsN (n : Ni) (kv : Value) : List Value := [.int .i64 n.kind, .int .i64 n.index, .int .u64 (wd n.set 0), .int .u64 (wd n.set 1), .int .u64 (wd n.set 2), .int .u64 (wd n.set 3), kv]
abbrev niV (n : Ni) (kv : Value) : Value := .agg #[.int .i64 n.kind, .int .i64 n.index, .int .u64 (wd n.set 0), .int .u64 (wd n.set 1), .int .u64 (wd n.set 2), .int .u64 (wd n.set 3), kv]
/-- a slice of nodes that lies in memory, in blocks that p lets -/
inductive KidsI (w : World) (p : Nat → Prop) : Value → List Ni → Prop
  | empty (a : Option Addr) (c : Nat) : KidsI w p (.slice a 0 c) []
  | items (b off c : Nat) (l : List Ni) (kv : Nat → Value) (hl : l ≠ []) (hp : p b) (hq : l.length ≤ c)
      (hc : ∀ k n, l[k]? = some n → ∀ j u, (cellsN n (kv k))[j]? = some u → w.cell? ⟨b, off + k * 7 + j, none⟩ = some u)
      (hk : ∀ k n, l[k]? = some n → KidsI w p (kv k) n.kids) : KidsI w p (.slice (some ⟨b, off, none⟩) l.length c) l
theorem KidsI.kept {w w' : World} {p : Nat → Prop} {v : Value} {l : List Ni} (h : KidsI w p v l) (hw : ∀ b off u, p b → w.cell? ⟨b, off, none⟩ = some u → w'.cell? ⟨b, off, none⟩ = some u) : KidsI w' p v l := by
  induction h with
  | empty a c => exact .empty a c
  | items b off c l kv hl hp hq hc hk ih => exact .items b off c l kv hl hp hq (fun k n hn j u hu => hw _ _ _ hp (hc k n hn j u hu)) ih
theorem KidsI.weak {w : World} {p q : Nat → Prop} {v : Value} {l : List Ni} (h : KidsI w p v l) (hw : ∀ b, b < w.heap.size → p b → q b) : KidsI w q v l := by
  induction h with
  | empty a c => exact .empty a c
  | items b off c l kv hl hp hq hc hk ih =>
    refine .items b off c l kv hl (hw b ?_ hp) hq hc ih
    cases l with
    | nil => exact absurd rfl hl
    | cons n l => exact cell_block (hc 0 n rfl 0 _ rfl)
theorem KidsI.grown {w w' : World} {p : Nat → Prop} {v : Value} {l : List Ni} (h : KidsI w p v l) (g : w.grownBy w' none) : KidsI w' p v l :=
  h.kept fun _ _ _ _ hc => g.cell hc (by simp)
theorem KidsI.shape {w : World} {p : Nat → Prop} {v : Value} {l : List Ni} (h : KidsI w p v l) : ∃ a c, v = .slice a l.length c := by
  cases h with
  | empty a c => exact ⟨a, c, rfl⟩
  | items b off c l kv hl hp hq hc hk => exact ⟨_, c, rfl⟩
theorem KidsI.at {w : World} {p : Nat → Prop} {a : Option Addr} {m c k : Nat} {n : Ni} {l : List Ni} (h : KidsI w p (.slice a m c) l) (hk : l[k]? = some n) :
    ∃ b off x y z, a = some ⟨b, off, none⟩ ∧ (∀ j u, (cellsN n (.slice x y z))[j]? = some u → w.cell? ⟨b, off + k * 7 + j, none⟩ = some u) ∧ KidsI w p (.slice x y z) n.kids := by
  cases h with
  | empty => simp at hk
  | items b off c l kv hl hp hq hc hkk =>
    have h1 := hkk k n hk
    obtain ⟨x, z, e⟩ := h1.shape
    rw [e] at h1
    refine ⟨b, off, x, _, z, rfl, fun j u hu => hc k n hk j u ?_, h1⟩
    rw [e]; exact hu
/-- kids, wherever they lie -/
abbrev KidsE (w : World) (v : Value) (l : List Ni) : Prop := KidsI w (fun _ => True) v l
theorem KidsI.any {w : World} {p : Nat → Prop} {v : Value} {l : List Ni} (h : KidsI w p v l) : KidsE w v l := h.weak fun _ _ _ => trivial
theorem KidsI.len {w : World} {p : Nat → Prop} {a : Option Addr} {m c : Nat} {l : List Ni} (h : KidsI w p (.slice a m c) l) : m = l.length := by
  obtain ⟨a', c', e⟩ := h.shape; cases e; rfl
theorem KidsI.cap {w : World} {p : Nat → Prop} {a : Option Addr} {m c : Nat} {l : List Ni} (h : KidsI w p (.slice a m c) l) (hl : l ≠ []) : l.length ≤ c := by
  cases h with
  | empty => exact absurd rfl hl
  | items b off c l kv hl hp hq hc hkk => exact hq
/-- the first part of a slice of nodes -/
theorem KidsI.front {w : World} {p : Nat → Prop} {a : Option Addr} {m c : Nat} {l r : List Ni} (h : KidsI w p (.slice a m c) (l ++ r)) (hl : l ≠ []) : KidsI w p (.slice a l.length c) l := by
  obtain ⟨q, hq⟩ : ∃ q, q = l ++ r := ⟨_, rfl⟩
  rw [← hq] at h
  cases h with
  | items b off c l' kv hl' hp hq' hc hkk =>
    subst hq
    exact .items b off c l kv hl hp (by rw [List.length_append] at hq'; omega) (fun k n hn => hc k n (by rw [List.getElem?_append_left (List.getElem?_eq_some_iff.1 hn).1]; exact hn)) (fun k n hn => hkk k n (by rw [List.getElem?_append_left (List.getElem?_eq_some_iff.1 hn).1]; exact hn))
  | empty => simp at hq; exact absurd hq.1 hl
/-- a text's node as one of any kind -/
theorem kids_toI {w : World} {p : Nat → Prop} {v : Value} {l : List Nd} (h : KidsAt w p v l) : KidsI w p v (toL l) := by
  induction h with
  | empty a c => rw [toL]; exact .empty a c
  | items b off c l kv hl hp hq hc hk ih =>
    have e : l.length = (toL l).length := (toL_len l).symm
    rw [e]
    have hg : ∀ k n, (toL l)[k]? = some n → ∃ n', l[k]? = some n' ∧ n = toI n' := fun k n hn => by
      rw [toL_map, List.getElem?_map] at hn
      cases hx : l[k]? with
      | none => rw [hx] at hn; cases hn
      | some x => rw [hx] at hn; simp at hn; exact ⟨x, hx, hn.symm⟩
    refine .items b off c (toL l) kv (fun e => hl (by rw [toL_map] at e; simpa using e)) hp (by rw [← e]; exact hq) (fun k n hn j u hu => ?_) (fun k n hn => ?_)
    · obtain ⟨n', hn', rfl⟩ := hg k n hn
      refine hc k n' hn' j u ?_
      unfold cells7
      unfold cellsN at hu
      rw [toI_kind, toI_index, toI_set] at hu
      exact hu
    · obtain ⟨n', hn', rfl⟩ := hg k n hn
      rw [toI_kids]
      exact ih k n' hn'
theorem ndV_toI (n : Nd) (kv : Value) : ndV n kv = niV (toI n) kv := by unfold ndV niV; rw [toI_kind, toI_index, toI_set]
mutual
theorem sz_toI : ∀ n : Nd, szN (toI n) = sizN n
  | .mk k i s l => by rw [toI, szN, sizN, cntN]; have := szL_toL l; simp only [if_true]; omega
theorem szL_toL : ∀ l : List Nd, szL (toL l) = cntL (fun _ => true) l
  | [] => by rw [toL, szL, cntL]
  | n :: l => by rw [toL, szL, cntL, sz_toI n, szL_toL l, sizN]
end
theorem kcase (k : Int) : k = 0 ∨ k = 1 ∨ k = 2 ∨ k = 3 ∨ k = 4 ∨ k = 5 ∨ k = 6 ∨ k = 7 ∨ k = 8 ∨ k = 9 ∨
    ((k == 0) = false ∧ (k == 1) = false ∧ (k == 2) = false ∧ (k == 3) = false ∧ (k == 4) = false ∧ (k == 5) = false ∧ (k == 6) = false ∧ (k == 7) = false ∧ (k == 8) = false ∧ (k == 9) = false) := by
  simp; omega
theorem len_eqI (m k : Nat) : ((m : Int) == (k : Int)) = decide (m = k) := by rw [Bool.eq_iff_iff]; simp; omega
theorem kids_else {k : Int} {m : Nat} (h : ((k == 0) = false ∧ (k == 1) = false ∧ (k == 2) = false ∧ (k == 3) = false ∧ (k == 4) = false ∧ (k == 5) = false ∧ (k == 6) = false ∧ (k == 7) = false ∧ (k == 8) = false ∧ (k == 9) = false)) : kidsOk k m = false := by
  simp at h; unfold kidsOk; rw [if_neg (by omega), if_neg (by omega), if_neg (by omega)]

set_option maxRecDepth 100000 in
set_option maxHeartbeats 4000000 in
theorem cRgtKids (k i : Int) (s : BitVec 256) (a : Option Addr) (m c : Nat) (w : World) :
    Calls Tryd.prog 34 #[.agg #[.int .i64 k, .int .i64 i, .int .u64 (wd s 0), .int .u64 (wd s 1), .int .u64 (wd s 2), .int .u64 (wd s 3), .slice a m c]] w fun e w' => e = .returned (.bool (kidsOk k m)) ∧ w.grownBy w' none := by
  have ga := World.grownBy_alloc w (.cells #[.int .i64 k, .int .i64 i, .int .u64 (wd s 0), .int .u64 (wd s 1), .int .u64 (wd s 2), .int .u64 (wd s 3), .slice a m c] 44) none
  have B1 := Lib.hid (heap_alloc_new w (.cells #[.int .i64 k, .int .i64 i, .int .u64 (wd s 0), .int .u64 (wd s 1), .int .u64 (wd s 2), .int .u64 (wd s 3), .slice a m c] 44))
  have G1 := Lib.hid ga
  clear ga
  have e0 : ((m : Int) == 0) = decide (m = 0) := len_eqI m 0
  have e1 : ((m : Int) == 1) = decide (m = 1) := len_eqI m 1
  have e2 : decide ((2 : Int) ≤ m) = decide (2 ≤ m) := by rw [Bool.eq_iff_iff]; simp; omega
  rcases kcase k with rfl | rfl | rfl | rfl | rfl | rfl | rfl | rfl | rfl | rfl | h
  all_goals
    first
      | (obtain ⟨h0, h1, h2, h3, h4, h5, h6, h7, h8, h9⟩ := h; have HK := Lib.hid (show kidsOk k m = false from kids_else ⟨h0, h1, h2, h3, h4, h5, h6, h7, h8, h9⟩))
      | skip
    go_enter Tryd.func34, Tryd.ntmps34
    go_upto_region 1 with fail
    generalize w.alloc _ = w1 at B1 G1 ⊢
    generalize w.heap.size = q at B1 ⊢
    obtain ⟨c0, c1, c2, c3, c4, c5, c6⟩ := seven_cells B1.out
    go_wp2
    go_ret
    first
      | exact ⟨ret_bool HK.out.symm, G1.out⟩
      | exact ⟨ret_bool (by rw [Bool.eq_iff_iff]; simp [kidsOk]), G1.out⟩
      | exact ⟨ret_bool (by rw [Bool.eq_iff_iff]; simp [kidsOk]; omega), G1.out⟩

set_option maxRecDepth 100000 in
set_option maxHeartbeats 4000000 in
theorem cRgtIdx (k i : Int) (s : BitVec 256) (a : Option Addr) (m c : Nat) (w : World) :
    Calls Tryd.prog 35 #[.agg #[.int .i64 k, .int .i64 i, .int .u64 (wd s 0), .int .u64 (wd s 1), .int .u64 (wd s 2), .int .u64 (wd s 3), .slice a m c]] w fun e w' => e = .returned (.bool (idxOk k i)) ∧ w.grownBy w' none := by
  have ga := World.grownBy_alloc w (.cells #[.int .i64 k, .int .i64 i, .int .u64 (wd s 0), .int .u64 (wd s 1), .int .u64 (wd s 2), .int .u64 (wd s 3), .slice a m c] 44) none
  have B1 := Lib.hid (heap_alloc_new w (.cells #[.int .i64 k, .int .i64 i, .int .u64 (wd s 0), .int .u64 (wd s 1), .int .u64 (wd s 2), .int .u64 (wd s 3), .slice a m c] 44))
  have G1 := Lib.hid ga
  clear ga
  by_cases hk : k = 7
  · subst hk
    cases h1 : decide ((1 : Int) ≤ i)
    all_goals cases h2 : decide (i ≤ (9 : Int))
    all_goals
      have HR := Lib.hid (show idxOk 7 i = (decide ((1 : Int) ≤ i) && decide (i ≤ (9 : Int))) by unfold idxOk; rw [if_pos rfl, Bool.eq_iff_iff]; simp)
      rw [h1, h2] at HR
      go_enter Tryd.func35, Tryd.ntmps35
      go_upto_region 1 with fail
      generalize w.alloc _ = w1 at B1 G1 ⊢
      generalize w.heap.size = q at B1 ⊢
      obtain ⟨c0, c1, c2, c3, c4, c5, c6⟩ := seven_cells B1.out
      go_wp2
      go_ret
      exact ⟨ret_bool HR.out.symm, G1.out⟩
  · have h7 : (k == 7) = false := by simpa using hk
    have HR := Lib.hid (show idxOk k i = (i == 0) by unfold idxOk; rw [if_neg hk, Bool.eq_iff_iff]; simp)
    go_enter Tryd.func35, Tryd.ntmps35
    go_upto_region 1 with fail
    generalize w.alloc _ = w1 at B1 G1 ⊢
    generalize w.heap.size = q at B1 ⊢
    obtain ⟨c0, c1, c2, c3, c4, c5, c6⟩ := seven_cells B1.out
    go_wp2
    go_ret
    exact ⟨ret_bool HR.out.symm, G1.out⟩
end Go.Proofs.YtliefnjhobdphaaDoor

/- The bytes with which texts of a node may begin, and whether it skips: the program's walks. The document's own answers: whether a node skips, the bytes with which its texts may begin. The document's own answer: the bytes with which a node's texts may begin. -/
import Derived.Test.YtlkjejmmoalliaaDoorDenPlain
import Derived.Test.YtlkjejmmoalliaaDoorPgMem
import Derived.Test.YtlkjejmmoalliaaDoorClsB
import Derived.Deep.CutRange
import Derived.Test.YtlkjejmmoalliaaDoorPgWr
import Derived.Deep.RegionLaw
namespace Go.Proofs.YtlkjejmmoalliaaDoor
open Go.RowKit

abbrev setO (s : BitVec 256) : Obj := .cells #[.int .u64 (wd s 0), .int .u64 (wd s 1), .int .u64 (wd s 2), .int .u64 (wd s 3)] 24 (0, 0)
theorem new_emp (w : World) (t : TypeId) : (w.alloc (.cells #[.int .u64 0, .int .u64 0, .int .u64 0, .int .u64 0] t)).heap[w.heap.size]? = some (.cells #[.int .u64 (wd emp 0), .int .u64 (wd emp 1), .int .u64 (wd emp 2), .int .u64 (wd emp 3)] t (0, 0)) := by
  rw [wd_emp, wd_emp, wd_emp, wd_emp]; exact heap_alloc_new w _
theorem grown_four0 {w w1 : World} (h : w.grownBy w1 none) {b : Nat} (v0 v1 v2 v3 : Value) (hb : w.heap.size ≤ b) :
    w.grownBy ((((w1.setCell ⟨b, 0, none⟩ v0).setCell ⟨b, 1, none⟩ v1).setCell ⟨b, 2, none⟩ v2).setCell ⟨b, 3, none⟩ v3) none :=
  grown_set (grown_set (grown_set (grown_set h _ _ hb) _ _ hb) _ _ hb) _ _ hb
theorem cells_ltF {w : World} {b : Nat} {o : Obj} (h : w.heap[b]? = some o) : b < w.heap.size := (Array.getElem?_eq_some_iff.1 h).1
theorem heap_four0 {w : World} {b b' : Nat} {o : Obj} (hb : w.heap[b]? = some o) (v0 v1 v2 v3 : Value) (hne : b ≠ b') : ((((w.setCell ⟨b', 0, none⟩ v0).setCell ⟨b', 1, none⟩ v1).setCell ⟨b', 2, none⟩ v2).setCell ⟨b', 3, none⟩ v3).heap[b]? = some o := by
  rw [heap_setCell_other _ _ b _ hne, heap_setCell_other _ _ b _ hne, heap_setCell_other _ _ b _ hne, heap_setCell_other _ _ b _ hne]; exact hb
/-- what is left to do of a row of nodes -/
def AllI (l : List Ni) (F : BitVec 256) (K : Bool) (j : Nat) (S : BitVec 256) (b : Bool) : Prop := un S (if b then firC (l.drop j) else emp) = F ∧ (b && skAll (l.drop j)) = K
theorem AllI.step {l : List Ni} {F S : BitVec 256} {K : Bool} {j : Nat} {n : Ni} (h : AllI l F K j S true) (hn : l[j]? = some n) : AllI l F K (j + 1) (un S (firN n)) (skN n) := by
  obtain ⟨hj, e⟩ := List.getElem?_eq_some_iff.1 hn
  unfold AllI at h ⊢
  rw [List.drop_eq_getElem_cons hj, e, firC, skAll] at h
  refine ⟨?_, by have := h.2; simpa using this⟩
  rw [un_assoc]; exact h.1
theorem AllI.no {l : List Ni} {F S : BitVec 256} {K : Bool} {j : Nat} (h : AllI l F K j S false) : S = F ∧ K = false := ⟨by have := h.1; rw [if_neg (by simp), un_none] at this; exact this, by have := h.2; simpa using this.symm⟩
theorem AllI.fin {l : List Ni} {F S : BitVec 256} {K : Bool} (h : AllI l F K l.length S true) : S = F ∧ K = true := by
  unfold AllI at h
  rw [List.drop_length, if_pos rfl, firC, skAll, un_none] at h
  exact ⟨h.1, by simpa using h.2.symm⟩
def AnyI (l : List Ni) (F : BitVec 256) (K : Bool) (j : Nat) (S : BitVec 256) (b : Bool) : Prop := un S (firA (l.drop j)) = F ∧ (b || skAny (l.drop j)) = K
theorem AnyI.step {l : List Ni} {F S : BitVec 256} {K b : Bool} {j : Nat} {n : Ni} (h : AnyI l F K j S b) (hn : l[j]? = some n) : AnyI l F K (j + 1) (un S (firN n)) (b || skN n) := by
  obtain ⟨hj, e⟩ := List.getElem?_eq_some_iff.1 hn
  unfold AnyI at h ⊢
  rw [List.drop_eq_getElem_cons hj, e, firA, skAny] at h
  exact ⟨by rw [un_assoc]; exact h.1, by rw [Bool.or_assoc]; exact h.2⟩
theorem AnyI.fin {l : List Ni} {F S : BitVec 256} {K b : Bool} (h : AnyI l F K l.length S b) : S = F ∧ K = b := by
  unfold AnyI at h
  rw [List.drop_length, firA, skAny, un_none, Bool.or_false] at h
  exact ⟨h.1, h.2.symm⟩
/-- what first says of a node of at most N -/
def FirNo (N : Nat) : Prop := ∀ (n : Ni) (a : Option Addr) (m k : Nat) (w : World), szN n ≤ N → rgtN n = true → KidsE w (.slice a m k) n.kids →
    Calls Tryd.prog 36 #[niV n (.slice a m k)] w fun e w' => e = .returned (.tuple #[setV (firN n), .bool (skN n)]) ∧ w.grownBy w' none

set_option maxRecDepth 100000 in
set_option maxHeartbeats 4000000 in
theorem cFirAll (N : Nat) (HI : FirNo N) (l : List Ni) (a : Option Addr) (c : Nat) (w : World) (hN : ∀ n ∈ l, szN n ≤ N) (hr : rgtL l = true) (hl : l.length ≤ 1000) (hK : KidsE w (.slice a l.length c) l) :
    Calls Tryd.prog 45 #[.slice a l.length c] w fun e w' => e = .returned (.tuple #[setV (firC l), .bool (skAll l)]) ∧ w.grownBy w' none := by
  have HS := Lib.hid hN
  have HG := Lib.hid (fun n (h : n ∈ l) => rgtL_mem hr h)
  have HI := Lib.hid HI
  obtain ⟨F, hF⟩ : ∃ F, F = firC l := ⟨_, rfl⟩
  obtain ⟨K, hKK⟩ : ∃ K, K = skAll l := ⟨_, rfl⟩
  rw [← hF, ← hKK]
  have H0 := Lib.hid (show AllI l F K 0 emp true from by unfold AllI; simp [none_un, hF, hKK])
  clear hF hKK hN hr
  have ga := World.grownBy_alloc w (.cells #[.int .u64 0, .int .u64 0, .int .u64 0, .int .u64 0] 24) none
  have B1 := Lib.hid (new_emp w 24)
  have K0 := Lib.hid hK
  have G1 := Lib.hid ga
  clear ga hK
  go_enter Tryd.func45, Tryd.ntmps45
  go_upto_region 1 with fail
  generalize w.alloc _ = w1 at B1 G1 ⊢
  obtain ⟨q, hq⟩ : ∃ q, q = w.heap.size := ⟨_, rfl⟩
  rw [← hq] at B1 ⊢
  have HQ := Lib.hid (show w.heap.size ≤ q by omega)
  clear hq
  go_wp2
  go_loopw [3, 4] (fun b i wr => ∃ (j : Nat) (S : BitVec 256) (b' : Bool), j ≤ l.length ∧ i = .int .i64 j ∧ b = .bool b' ∧ Hid (AllI l F K j S b') ∧ Hid (wr.heap[q]? = some (setO S)) ∧ Hid (w.grownBy wr none)) (fun _ i _ => l.length - (intOf i).toNat)
  case atStart => exact ⟨0, emp, true, Nat.zero_le _, rfl, rfl, H0, B1, G1⟩
  case round =>
    obtain ⟨j, S, b', hj, rfl, rfl, hI, hB, hG⟩ := hrel
    obtain ⟨s0, s1, s2, s3⟩ := four_cells hB.out
    have sf := four_free hB.out
    cases b'
    · obtain ⟨rfl, rfl⟩ := hI.out.no
      have HE := Lib.hid hB.out
      clear hI
      go_wp2
      refine bodyPost_ret (v := .tuple #[setV S, .bool false]) (back_pair 24 Tryd.underlying24 (by kernel_rfl) Tryd.results45 rfl rfl (set_four HE.out _ _ _ _)) rfl ?_
      exact ⟨rfl, grown_four0 hG.out _ _ _ _ HQ.out⟩
    · by_cases hlt : j < l.length
      · obtain ⟨n', hn'⟩ : ∃ n', l[j]? = some n' := ⟨_, List.getElem?_eq_getElem hlt⟩
        have HT := Lib.hid (hI.out.step hn')
        have CI := Lib.hid (fun x y z w hk => HI.out n' x y z w (HS.out n' (List.mem_of_getElem? hn')) (HG.out n' (List.mem_of_getElem? hn')) hk)
        have ga := World.grownBy_alloc wr (.cells #[.int .u64 0, .int .u64 0, .int .u64 0, .int .u64 0] 24) none
        have M2 := Lib.hid (new_emp wr 24)
        have B2 := Lib.hid (heap_grown ga hB.out)
        have G2 := Lib.hid (hG.out.trans ga)
        obtain ⟨b0, off, x0, y0, z0, rfl, hc, hk'⟩ := (K0.out.grown G2.out).at hn'
        have c0 : (wr.alloc (.cells #[.int .u64 0, .int .u64 0, .int .u64 0, .int .u64 0] 24)).cell? ⟨b0, off + j * 7, none⟩ = some (.int .i64 n'.kind) := hc 0 _ rfl
        have c1 := hc 1 _ rfl
        have c2 := hc 2 _ rfl
        have c3 := hc 3 _ rfl
        have c4 := hc 4 _ rfl
        have c5 := hc 5 _ rfl
        have c6 := hc 6 _ rfl
        have KK := Lib.hid hk'
        have HM := Lib.hid (show w.heap.size ≤ wr.heap.size from hG.out.size)
        have HNE := Lib.hid (show q ≠ wr.heap.size from by have := cells_ltF hB.out; omega)
        clear hc hk' hn' ga s0 s1 s2 s3 sf hI
        go_upto_region 6 with fail
        generalize wr.alloc _ = w2 at M2 B2 G2 c0 c1 c2 c3 c4 c5 c6 KK ⊢
        generalize wr.heap.size = q2 at M2 HM HNE ⊢
        go_upto_region 7 with (go_at_call 36; (with_reducible refine (CI.out _ _ _ _ KK.out).mono ?_); rintro e w3 ⟨rfl, g3⟩; have M3 := Lib.hid (heap_grown g3 M2.out); have B3 := Lib.hid (heap_grown g3 B2.out); have G3 := Lib.hid (G2.out.trans g3); clear g3; obtain ⟨m0, m1, m2, m3⟩ := four_cells M3.out; have mf := four_free M3.out)
        have M4 := Lib.hid (set_four M3.out (.int .u64 (wd (firN n') 0)) (.int .u64 (wd (firN n') 1)) (.int .u64 (wd (firN n') 2)) (.int .u64 (wd (firN n') 3)))
        have B4 := Lib.hid (heap_four0 B3.out (.int .u64 (wd (firN n') 0)) (.int .u64 (wd (firN n') 1)) (.int .u64 (wd (firN n') 2)) (.int .u64 (wd (firN n') 3)) HNE.out)
        have G4 := Lib.hid (grown_four0 G3.out (.int .u64 (wd (firN n') 0)) (.int .u64 (wd (firN n') 1)) (.int .u64 (wd (firN n') 2)) (.int .u64 (wd (firN n') 3)) HM.out)
        clear m0 m1 m2 m3 mf c0 c1 c2 c3 c4 c5 c6
        generalize World.setCell _ _ _ = w4 at M4 B4 G4 ⊢
        obtain ⟨m0, m1, m2, m3⟩ := four_cells M4.out
        obtain ⟨s0, s1, s2, s3⟩ := four_cells B4.out
        have CU := Lib.hid (cUnion S (firN n') w4)
        go_wp2_with (go_at_call 58; (with_reducible refine (CU.out).mono ?_); rintro e w5 ⟨rfl, g5⟩; have B5 := Lib.hid (heap_grown g5 B4.out); have G5 := Lib.hid (G4.out.trans g5); clear g5; obtain ⟨u0, u1, u2, u3⟩ := four_cells B5.out; have uf := four_free B5.out)
        have B6 := Lib.hid (set_four B5.out (.int .u64 (wd (un S (firN n')) 0)) (.int .u64 (wd (un S (firN n')) 1)) (.int .u64 (wd (un S (firN n')) 2)) (.int .u64 (wd (un S (firN n')) 3)))
        have G6 := Lib.hid (grown_four0 G5.out (.int .u64 (wd (un S (firN n')) 0)) (.int .u64 (wd (un S (firN n')) 1)) (.int .u64 (wd (un S (firN n')) 2)) (.int .u64 (wd (un S (firN n')) 3)) HQ.out)
        go_roundw
        case rel => exact ⟨j + 1, un S (firN n'), skN n', by omega, by go_num, rfl, HT, B6, G6⟩
        case measure => simp [intOf]; omega
      · obtain rfl : j = l.length := by omega
        obtain ⟨rfl, rfl⟩ := hI.out.fin
        have HE := Lib.hid hB.out
        clear hI
        go_wp2
        refine bodyPost_ret (v := .tuple #[setV S, .bool true]) (back_pair 24 Tryd.underlying24 (by kernel_rfl) Tryd.results45 rfl rfl (set_four HE.out _ _ _ _)) rfl ?_
        exact ⟨rfl, grown_four0 hG.out _ _ _ _ HQ.out⟩
set_option maxRecDepth 100000 in
set_option maxHeartbeats 4000000 in
theorem cFirAny (N : Nat) (HI : FirNo N) (l : List Ni) (a : Option Addr) (c : Nat) (w : World) (hN : ∀ n ∈ l, szN n ≤ N) (hr : rgtL l = true) (hl : l.length ≤ 1000) (hK : KidsE w (.slice a l.length c) l) :
    Calls Tryd.prog 46 #[.slice a l.length c] w fun e w' => e = .returned (.tuple #[setV (firA l), .bool (skAny l)]) ∧ w.grownBy w' none := by
  have HS := Lib.hid hN
  have HG := Lib.hid (fun n (h : n ∈ l) => rgtL_mem hr h)
  have HI := Lib.hid HI
  obtain ⟨F, hF⟩ : ∃ F, F = firA l := ⟨_, rfl⟩
  obtain ⟨K, hKK⟩ : ∃ K, K = skAny l := ⟨_, rfl⟩
  rw [← hF, ← hKK]
  have H0 := Lib.hid (show AnyI l F K 0 emp false from by unfold AnyI; simp [none_un, hF, hKK])
  clear hF hKK hN hr
  have ga := World.grownBy_alloc w (.cells #[.int .u64 0, .int .u64 0, .int .u64 0, .int .u64 0] 24) none
  have B1 := Lib.hid (new_emp w 24)
  have K0 := Lib.hid hK
  have G1 := Lib.hid ga
  clear ga hK
  go_enter Tryd.func46, Tryd.ntmps46
  go_upto_region 1 with fail
  generalize w.alloc _ = w1 at B1 G1 ⊢
  obtain ⟨q, hq⟩ : ∃ q, q = w.heap.size := ⟨_, rfl⟩
  rw [← hq] at B1 ⊢
  have HQ := Lib.hid (show w.heap.size ≤ q by omega)
  clear hq
  go_wp2
  go_loopw [3, 10] (fun b i wr => ∃ (j : Nat) (S : BitVec 256) (b' : Bool), j ≤ l.length ∧ i = .int .i64 j ∧ b = .bool b' ∧ Hid (AnyI l F K j S b') ∧ Hid (wr.heap[q]? = some (setO S)) ∧ Hid (w.grownBy wr none)) (fun _ i _ => l.length - (intOf i).toNat)
  case atStart => exact ⟨0, emp, false, Nat.zero_le _, rfl, rfl, H0, B1, G1⟩
  case round =>
    obtain ⟨j, S, b', hj, rfl, rfl, hI, hB, hG⟩ := hrel
    by_cases hlt : j < l.length
    · obtain ⟨n', hn'⟩ : ∃ n', l[j]? = some n' := ⟨_, List.getElem?_eq_getElem hlt⟩
      have HT := Lib.hid (hI.out.step hn')
      have CI := Lib.hid (fun x y z w hk => HI.out n' x y z w (HS.out n' (List.mem_of_getElem? hn')) (HG.out n' (List.mem_of_getElem? hn')) hk)
      obtain ⟨b0, off, x0, y0, z0, rfl, hc, hk'⟩ := (K0.out.grown hG.out).at hn'
      have c0 : wr.cell? ⟨b0, off + j * 7, none⟩ = some (.int .i64 n'.kind) := hc 0 _ rfl
      have c1 := hc 1 _ rfl
      have c2 := hc 2 _ rfl
      have c3 := hc 3 _ rfl
      have c4 := hc 4 _ rfl
      have c5 := hc 5 _ rfl
      have c6 := hc 6 _ rfl
      have ga := World.grownBy_alloc wr (.cells #[.int .i64 n'.kind, .int .i64 n'.index, .int .u64 (wd n'.set 0), .int .u64 (wd n'.set 1), .int .u64 (wd n'.set 2), .int .u64 (wd n'.set 3), .slice x0 y0 z0] 27) none
      have N2 := Lib.hid (heap_alloc_new wr (.cells #[.int .i64 n'.kind, .int .i64 n'.index, .int .u64 (wd n'.set 0), .int .u64 (wd n'.set 1), .int .u64 (wd n'.set 2), .int .u64 (wd n'.set 3), .slice x0 y0 z0] 27))
      have B2 := Lib.hid (heap_grown ga hB.out)
      have G2 := Lib.hid (hG.out.trans ga)
      have KK := Lib.hid (hk'.grown ga)
      clear hc hk' hn' ga hI
      go_upto_region 4 with fail
      clear c0 c1 c2 c3 c4 c5 c6
      generalize wr.alloc _ = w2 at N2 B2 G2 KK ⊢
      generalize wr.heap.size = q2 at N2 ⊢
      obtain ⟨c0, c1, c2, c3, c4, c5, c6⟩ := seven_cells N2.out
      go_upto_region 5 with (go_at_call 36; (with_reducible refine (CI.out _ _ _ _ KK.out).mono ?_); rintro e w3 ⟨rfl, g3⟩; have B3 := Lib.hid (heap_grown g3 B2.out); have G3 := Lib.hid (G2.out.trans g3); clear g3)
      have ga := World.grownBy_alloc w3 (.cells #[.int .u64 (wd (firN n') 0), .int .u64 (wd (firN n') 1), .int .u64 (wd (firN n') 2), .int .u64 (wd (firN n') 3)] 24) none
      have M4 := Lib.hid (heap_alloc_new w3 (.cells #[.int .u64 (wd (firN n') 0), .int .u64 (wd (firN n') 1), .int .u64 (wd (firN n') 2), .int .u64 (wd (firN n') 3)] 24))
      have B4 := Lib.hid (heap_grown ga B3.out)
      have G4 := Lib.hid (G3.out.trans ga)
      clear ga c0 c1 c2 c3 c4 c5 c6
      generalize w3.alloc _ = w4 at M4 B4 G4 ⊢
      generalize w3.heap.size = q3 at M4 ⊢
      obtain ⟨m0, m1, m2, m3⟩ := four_cells M4.out
      obtain ⟨s0, s1, s2, s3⟩ := four_cells B4.out
      have CU := Lib.hid (cUnion S (firN n') w4)
      cases b'
      all_goals
        go_wp2_with (go_at_call 58; (with_reducible refine (CU.out).mono ?_); rintro e w5 ⟨rfl, g5⟩; have B5 := Lib.hid (heap_grown g5 B4.out); have G5 := Lib.hid (G4.out.trans g5); clear g5; obtain ⟨u0, u1, u2, u3⟩ := four_cells B5.out; have uf := four_free B5.out)
        have B6 := Lib.hid (set_four B5.out (.int .u64 (wd (un S (firN n')) 0)) (.int .u64 (wd (un S (firN n')) 1)) (.int .u64 (wd (un S (firN n')) 2)) (.int .u64 (wd (un S (firN n')) 3)))
        have G6 := Lib.hid (grown_four0 G5.out (.int .u64 (wd (un S (firN n')) 0)) (.int .u64 (wd (un S (firN n')) 1)) (.int .u64 (wd (un S (firN n')) 2)) (.int .u64 (wd (un S (firN n')) 3)) HQ.out)
        go_roundw
        case rel => exact ⟨j + 1, un S (firN n'), _, by omega, by go_num, rfl, HT, B6, G6⟩
        case measure => simp [intOf]; omega
    · obtain rfl : j = l.length := by omega
      obtain ⟨rfl, rfl⟩ := hI.out.fin
      have HE := Lib.hid hB.out
      obtain ⟨s0, s1, s2, s3⟩ := four_cells hB.out
      have sf := four_free hB.out
      clear hI
      go_wp2
      refine bodyPost_ret (v := .tuple #[setV S, .bool K]) (back_pair 24 Tryd.underlying24 (by kernel_rfl) Tryd.results46 rfl rfl (set_four HE.out _ _ _ _)) rfl ?_
      exact ⟨rfl, grown_four0 hG.out _ _ _ _ HQ.out⟩

set_option maxRecDepth 100000 in
set_option maxHeartbeats 8000000 in
theorem cFirst : ∀ N : Nat, N ≤ 1000 → FirNo N := by
  intro N
  induction N with
  | zero => intro _ n a m k w h; rw [sz_eq] at h; omega
  | succ N ih =>
    intro hN1 n a m k w hN hr hK
    obtain rfl := hK.len
    have HI := ih (by omega)
    have hz := sz_eq n
    have hl1000 : n.kids.length ≤ 1000 := by have := len_le_sz n.kids; omega
    rw [rgt_eq] at hr
    simp only [Bool.and_eq_true] at hr
    obtain ⟨⟨⟨hk, -⟩, -⟩, hl⟩ := hr
    have h0 := fun h : n.kind = 0 ∨ n.kind = 1 ∨ n.kind = 8 ∨ n.kind = 9 => kids_none hk h
    have hM := fun h : n.kind = 4 ∨ n.kind = 5 ∨ n.kind = 6 ∨ n.kind = 7 => kids_single hk h
    have hkk := kids_kind hk
    have hF := fir_eq n
    have hS := sk_eq n
    obtain ⟨F, hFF⟩ : ∃ F, firN n = F := ⟨_, rfl⟩
    obtain ⟨K, hKK⟩ : ∃ K, skN n = K := ⟨_, rfl⟩
    rw [hFF, hKK]
    rw [hFF] at hF
    rw [hKK] at hS
    obtain ⟨l, hl'⟩ : ∃ l, n.kids = l := ⟨_, rfl⟩
    rw [hl'] at hK hz hl1000 hl hM h0 hF hS ⊢
    have HS := Lib.hid (show ∀ n' ∈ l, szN n' ≤ N from fun n' h' => by have := szL_mem h'; omega)
    have HG := Lib.hid (show ∀ n' ∈ l, rgtN n' = true from fun n' h' => rgtL_mem hl h')
    have HL := Lib.hid hl
    clear ih hN hz hl' hk hl
    obtain ⟨x, hx⟩ : ∃ x, n.kind = x := ⟨_, rfl⟩
    obtain ⟨y, hy⟩ : ∃ y, n.index = y := ⟨_, rfl⟩
    obtain ⟨c, hc⟩ : ∃ c, n.set = c := ⟨_, rfl⟩
    have e0 : niV n (.slice a l.length k) = .agg #[.int .i64 x, .int .i64 y, .int .u64 (wd c 0), .int .u64 (wd c 1), .int .u64 (wd c 2), .int .u64 (wd c 3), .slice a l.length k] := by unfold niV; rw [hx, hy, hc]
    rw [e0]
    rw [hx] at hM h0 hkk hS
    rw [hx, hc] at hF
    clear hx hy hc e0 hFF hKK n
    have g1 := World.grownBy_alloc w (.cells #[.int .i64 x, .int .i64 y, .int .u64 (wd c 0), .int .u64 (wd c 1), .int .u64 (wd c 2), .int .u64 (wd c 3), .slice a l.length k] 27) none
    have g2 := World.grownBy_alloc (w.alloc (.cells #[.int .i64 x, .int .i64 y, .int .u64 (wd c 0), .int .u64 (wd c 1), .int .u64 (wd c 2), .int .u64 (wd c 3), .slice a l.length k] 27)) (.cells #[.int .u64 0, .int .u64 0, .int .u64 0, .int .u64 0] 24) none
    have B1 := Lib.hid (heap_grown g2 (heap_alloc_new w (.cells #[.int .i64 x, .int .i64 y, .int .u64 (wd c 0), .int .u64 (wd c 1), .int .u64 (wd c 2), .int .u64 (wd c 3), .slice a l.length k] 27)))
    have t1 := new_emp (w.alloc (.cells #[.int .i64 x, .int .i64 y, .int .u64 (wd c 0), .int .u64 (wd c 1), .int .u64 (wd c 2), .int .u64 (wd c 3), .slice a l.length k] 27)) 24
    rw [show (w.alloc (.cells #[.int .i64 x, .int .i64 y, .int .u64 (wd c 0), .int .u64 (wd c 1), .int .u64 (wd c 2), .int .u64 (wd c 3), .slice a l.length k] 27)).heap.size = w.heap.size + 1 by show (w.heap.push _).size = _; simp] at t1
    have S1 := Lib.hid t1
    have K1 := Lib.hid (hK.grown (g1.trans g2))
    have G1 := Lib.hid (g1.trans g2)
    clear g1 g2 hK t1
    have hcs : x = 0 ∨ x = 1 ∨ x = 2 ∨ x = 3 ∨ x = 4 ∨ x = 5 ∨ x = 6 ∨ x = 7 ∨ x = 8 ∨ x = 9 := by omega
    clear hkk
    go_enter Tryd.func36, Tryd.ntmps36
    go_upto_region 1 with fail
    generalize World.alloc _ _ = w1 at B1 S1 K1 G1 ⊢
    obtain ⟨q, hq⟩ : ∃ q, q = w.heap.size := ⟨_, rfl⟩
    rw [← hq] at B1 S1 ⊢
    have HQ := Lib.hid (show w.heap.size ≤ q + 1 by omega)
    clear hq
    obtain ⟨c0, c1, c2, c3, c4, c5, c6⟩ := seven_cells B1.out
    obtain ⟨s0, s1, s2, s3⟩ := four_cells S1.out
    have sf := four_free S1.out
    rcases hcs with rfl | rfl | rfl | rfl | rfl | rfl | rfl | rfl | rfl | rfl
    case' inr.inl =>
      obtain rfl := List.eq_nil_of_length_eq_zero (h0 (by omega))
      have e1 : F = c := by simpa using hF
      have e2 : K = false := by simpa using hS
      subst e1; subst e2
      clear hF hS h0 hM
      go_wp2
      refine bodyPost_ret (v := .tuple #[setV F, .bool false]) (back_pair 24 Tryd.underlying24 (by kernel_rfl) Tryd.results36 rfl rfl (set_four S1.out _ _ _ _)) rfl ?_
      exact ⟨rfl, grown_four0 G1.out _ _ _ _ HQ.out⟩
    case' inr.inr.inl =>
      have e1 : F = firC l := by simpa using hF
      have e2 : K = skAll l := by simpa using hS
      clear hF hS h0 hM
      have CR := Lib.hid (cFirAll N HI l a k w1 HS.out HL.out hl1000 K1.out)
      rw [← e1, ← e2] at CR
      clear e1 e2
      go_wp2_with (go_at_call 45; (with_reducible refine (CR.out).mono ?_); rintro e w5 ⟨rfl, g5⟩; have S5 := Lib.hid (heap_grown g5 S1.out); have G5 := Lib.hid (G1.out.trans g5); clear g5 s0 s1 s2 s3 sf; obtain ⟨s0, s1, s2, s3⟩ := four_cells S5.out; have sf := four_free S5.out)
      refine bodyPost_ret (v := .tuple #[setV F, .bool K]) (back_pair 24 Tryd.underlying24 (by kernel_rfl) Tryd.results36 rfl rfl (set_four S5.out _ _ _ _)) rfl ?_
      exact ⟨rfl, grown_four0 G5.out _ _ _ _ HQ.out⟩
    case' inr.inr.inr.inl =>
      have e1 : F = firA l := by simpa using hF
      have e2 : K = skAny l := by simpa using hS
      clear hF hS h0 hM
      have CR := Lib.hid (cFirAny N HI l a k w1 HS.out HL.out hl1000 K1.out)
      rw [← e1, ← e2] at CR
      clear e1 e2
      go_wp2_with (go_at_call 46; (with_reducible refine (CR.out).mono ?_); rintro e w5 ⟨rfl, g5⟩; have S5 := Lib.hid (heap_grown g5 S1.out); have G5 := Lib.hid (G1.out.trans g5); clear g5 s0 s1 s2 s3 sf; obtain ⟨s0, s1, s2, s3⟩ := four_cells S5.out; have sf := four_free S5.out)
      refine bodyPost_ret (v := .tuple #[setV F, .bool K]) (back_pair 24 Tryd.underlying24 (by kernel_rfl) Tryd.results36 rfl rfl (set_four S5.out _ _ _ _)) rfl ?_
      exact ⟨rfl, grown_four0 G5.out _ _ _ _ HQ.out⟩
    case' inl | inr.inr.inr.inr.inr.inr.inr.inr.inl | inr.inr.inr.inr.inr.inr.inr.inr.inr =>
      obtain rfl := List.eq_nil_of_length_eq_zero (h0 (by omega))
      have e1 : F = emp := by simpa [firA] using hF
      have e2 : K = true := by simpa using hS
      subst e1; subst e2
      clear hF hS h0 hM
      go_wp2
      refine bodyPost_ret (v := .tuple #[setV emp, .bool true]) (back_pair 24 Tryd.underlying24 (by kernel_rfl) Tryd.results36 rfl rfl (set_four S1.out _ _ _ _)) rfl ?_
      exact ⟨rfl, grown_four0 G1.out _ _ _ _ HQ.out⟩
    case' inr.inr.inr.inr.inr.inl | inr.inr.inr.inr.inr.inr.inr.inl =>
      replace hM := hM (by simp)
      obtain ⟨u, rfl⟩ := List.length_eq_one_iff.1 hM
      obtain ⟨b0, off, x0, y0, z0, rfl, hc, hk'⟩ := K1.out.at (show [u][0]? = some u from rfl)
      have d0 : w1.cell? ⟨b0, off, none⟩ = some (.int .i64 u.kind) := hc 0 _ rfl
      have d1 : w1.cell? ⟨b0, off + 1, none⟩ = some (.int .i64 u.index) := hc 1 _ rfl
      have d2 : w1.cell? ⟨b0, off + 2, none⟩ = some (.int .u64 (wd u.set 0)) := hc 2 _ rfl
      have d3 : w1.cell? ⟨b0, off + 3, none⟩ = some (.int .u64 (wd u.set 1)) := hc 3 _ rfl
      have d4 : w1.cell? ⟨b0, off + 4, none⟩ = some (.int .u64 (wd u.set 2)) := hc 4 _ rfl
      have d5 : w1.cell? ⟨b0, off + 5, none⟩ = some (.int .u64 (wd u.set 3)) := hc 5 _ rfl
      have d6 : w1.cell? ⟨b0, off + 6, none⟩ = some (.slice x0 y0 z0) := hc 6 _ rfl
      have hzs : szN u ≤ N := HS.out u (by simp)
      have hzr : rgtN u = true := HG.out u (by simp)
      have e1 : F = firN u := by simpa [firA, un_none] using hF
      have CA := Lib.hid (HI u x0 y0 z0 w1 hzs hzr hk')
      rw [← e1] at CA
      have e2 : K = skN u := by simpa [skAll] using hS
      rw [← e2] at CA
      clear hF hS h0 hc hk' e1 e2
      go_wp2_with (go_at_call 36; (with_reducible refine (CA.out).mono ?_); rintro e w5 ⟨rfl, g5⟩; have S5 := Lib.hid (heap_grown g5 S1.out); have G5 := Lib.hid (G1.out.trans g5); clear g5 s0 s1 s2 s3 sf; obtain ⟨s0, s1, s2, s3⟩ := four_cells S5.out; have sf := four_free S5.out)
      refine bodyPost_ret (v := .tuple #[setV F, .bool K]) (back_pair 24 Tryd.underlying24 (by kernel_rfl) Tryd.results36 rfl rfl (set_four S5.out _ _ _ _)) rfl ?_
      exact ⟨rfl, grown_four0 G5.out _ _ _ _ HQ.out⟩
    all_goals
      replace hM := hM (by simp)
      obtain ⟨u, rfl⟩ := List.length_eq_one_iff.1 hM
      obtain ⟨b0, off, x0, y0, z0, rfl, hc, hk'⟩ := K1.out.at (show [u][0]? = some u from rfl)
      have d0 : w1.cell? ⟨b0, off, none⟩ = some (.int .i64 u.kind) := hc 0 _ rfl
      have d1 : w1.cell? ⟨b0, off + 1, none⟩ = some (.int .i64 u.index) := hc 1 _ rfl
      have d2 : w1.cell? ⟨b0, off + 2, none⟩ = some (.int .u64 (wd u.set 0)) := hc 2 _ rfl
      have d3 : w1.cell? ⟨b0, off + 3, none⟩ = some (.int .u64 (wd u.set 1)) := hc 3 _ rfl
      have d4 : w1.cell? ⟨b0, off + 4, none⟩ = some (.int .u64 (wd u.set 2)) := hc 4 _ rfl
      have d5 : w1.cell? ⟨b0, off + 5, none⟩ = some (.int .u64 (wd u.set 3)) := hc 5 _ rfl
      have d6 : w1.cell? ⟨b0, off + 6, none⟩ = some (.slice x0 y0 z0) := hc 6 _ rfl
      have hzs : szN u ≤ N := HS.out u (by simp)
      have hzr : rgtN u = true := HG.out u (by simp)
      have e1 : F = firN u := by simpa [firA, un_none] using hF
      have CA := Lib.hid (HI u x0 y0 z0 w1 hzs hzr hk')
      rw [← e1] at CA
      have e2 : K = true := by simpa using hS
      subst e2
      generalize skN u = K at CA
      clear hF hS h0 hc hk' e1
      go_upto_region 14 with (go_at_call 36; (with_reducible refine (CA.out).mono ?_); rintro e w5 ⟨rfl, g5⟩; have S5 := Lib.hid (heap_grown g5 S1.out); have G5 := Lib.hid (G1.out.trans g5); clear g5 s0 s1 s2 s3 sf; obtain ⟨s0, s1, s2, s3⟩ := four_cells S5.out; have sf := four_free S5.out)
      have S6 := Lib.hid (set_four S5.out (.int .u64 (wd F 0)) (.int .u64 (wd F 1)) (.int .u64 (wd F 2)) (.int .u64 (wd F 3)))
      have G6 := Lib.hid (grown_four0 G5.out (.int .u64 (wd F 0)) (.int .u64 (wd F 1)) (.int .u64 (wd F 2)) (.int .u64 (wd F 3)) HQ.out)
      clear s0 s1 s2 s3 sf c0 c1 c2 c3 c4 c5 c6 d0 d1 d2 d3 d4 d5 d6
      generalize World.setCell _ _ _ = w6 at S6 G6 ⊢
      obtain ⟨s0, s1, s2, s3⟩ := four_cells S6.out
      have sf := four_free S6.out
      go_wp2
      refine bodyPost_ret (v := .tuple #[setV F, .bool true]) (back_pair 24 Tryd.underlying24 (by kernel_rfl) Tryd.results36 rfl rfl (set_four S6.out _ _ _ _)) rfl ?_
      exact ⟨rfl, grown_four0 G6.out _ _ _ _ HQ.out⟩
/-- First: of a node that isn't right nothing -/
noncomputable def fstD (n : Ni) : BitVec 256 := if rgtN n then firN n else emp
set_option maxRecDepth 100000 in
set_option maxHeartbeats 2000000 in
theorem cFirstD (n : Ni) (a : Option Addr) (m c : Nat) (w : World) (hsz : szN n ≤ 200) (hK : KidsE w (.slice a m c) n.kids) :
    Calls Tryd.prog 20 #[niV n (.slice a m c)] w fun e w' => e = .returned (setV (fstD n)) ∧ w.grownBy w' none := by
  have HR := Lib.hid (fun w h => cRight 200 n a m c w hsz (Nat.le_refl _) h)
  have HF := Lib.hid (fun w hr h => cFirst 200 (by omega) n a m c w hsz hr h)
  have g1 := World.grownBy_alloc w (.cells #[.int .i64 n.kind, .int .i64 n.index, .int .u64 (wd n.set 0), .int .u64 (wd n.set 1), .int .u64 (wd n.set 2), .int .u64 (wd n.set 3), .slice a m c] 27) none
  have g2 := World.grownBy_alloc (w.alloc (.cells #[.int .i64 n.kind, .int .i64 n.index, .int .u64 (wd n.set 0), .int .u64 (wd n.set 1), .int .u64 (wd n.set 2), .int .u64 (wd n.set 3), .slice a m c] 27)) (.cells #[.int .u64 0, .int .u64 0, .int .u64 0, .int .u64 0] 24) none
  have B1 := Lib.hid (heap_grown g2 (heap_alloc_new w (.cells #[.int .i64 n.kind, .int .i64 n.index, .int .u64 (wd n.set 0), .int .u64 (wd n.set 1), .int .u64 (wd n.set 2), .int .u64 (wd n.set 3), .slice a m c] 27)))
  have t1 := new_emp (w.alloc (.cells #[.int .i64 n.kind, .int .i64 n.index, .int .u64 (wd n.set 0), .int .u64 (wd n.set 1), .int .u64 (wd n.set 2), .int .u64 (wd n.set 3), .slice a m c] 27)) 24
  rw [show (w.alloc (.cells #[.int .i64 n.kind, .int .i64 n.index, .int .u64 (wd n.set 0), .int .u64 (wd n.set 1), .int .u64 (wd n.set 2), .int .u64 (wd n.set 3), .slice a m c] 27)).heap.size = w.heap.size + 1 by show (w.heap.push _).size = _; simp] at t1
  have S1 := Lib.hid t1
  have K1 := Lib.hid (hK.grown (g1.trans g2))
  have G1 := Lib.hid (g1.trans g2)
  clear g1 g2 hK t1 hsz
  have HD := Lib.hid (show fstD n = if rgtN n then firN n else emp from rfl)
  generalize fstD n = F at HD ⊢
  generalize firN n = F1 at HF HD
  generalize skN n = K at HF
  generalize rgtN n = rr at HR HF HD
  go_enter Tryd.func20, Tryd.ntmps20
  go_upto_region 1 with fail
  generalize World.alloc _ _ = w1 at B1 S1 K1 G1 ⊢
  obtain ⟨q, hq⟩ : ∃ q, q = w.heap.size := ⟨_, rfl⟩
  rw [← hq] at B1 S1 ⊢
  have HQ := Lib.hid (show w.heap.size ≤ q + 1 by omega)
  clear hq
  obtain ⟨c0, c1, c2, c3, c4, c5, c6⟩ := seven_cells B1.out
  cases rr
  · obtain rfl : F = emp := by rw [HD.out]; rfl
    clear HD HF
    go_wp2_with (go_at_call 15; (with_reducible refine (HR.out _ K1.out).mono ?_); rintro e w2 ⟨rfl, g2⟩; have S2 := Lib.hid (heap_grown g2 S1.out); have G2 := Lib.hid (G1.out.trans g2); clear g2; obtain ⟨s0, s1, s2, s3⟩ := four_cells S2.out; have sf := four_free S2.out)
    refine bodyPost_ret (v := setV emp) (back_set Tryd.results20 rfl (zero_four S2.out)) rfl ?_
    exact ⟨rfl, grown_four0 G2.out _ _ _ _ HQ.out⟩
  · obtain rfl : F = F1 := by rw [HD.out]; rfl
    clear HD
    go_upto_region 3 with (go_at_call 15; (with_reducible refine (HR.out _ K1.out).mono ?_); rintro e w2 ⟨rfl, g2⟩; have B2 := Lib.hid (heap_grown g2 B1.out); have K2 := Lib.hid (K1.out.grown g2); have S2 := Lib.hid (heap_grown g2 S1.out); have G2 := Lib.hid (G1.out.trans g2); clear g2)
    clear c0 c1 c2 c3 c4 c5 c6
    obtain ⟨c0, c1, c2, c3, c4, c5, c6⟩ := seven_cells B2.out
    have HF2 := Lib.hid (HF.out w2 trivial K2.out)
    go_upto_region 4 with (go_at_call 36; (with_reducible refine (HF2.out).mono ?_); rintro e w3 ⟨rfl, g3⟩; have S3 := Lib.hid (heap_grown g3 S2.out); have G3 := Lib.hid (G2.out.trans g3); clear g3)
    have ga := World.grownBy_alloc w3 (.cells #[.int .u64 (wd F 0), .int .u64 (wd F 1), .int .u64 (wd F 2), .int .u64 (wd F 3)] 24) none
    have M4 := Lib.hid (heap_alloc_new w3 (.cells #[.int .u64 (wd F 0), .int .u64 (wd F 1), .int .u64 (wd F 2), .int .u64 (wd F 3)] 24))
    have S4 := Lib.hid (heap_grown ga S3.out)
    have G4 := Lib.hid (G3.out.trans ga)
    clear ga c0 c1 c2 c3 c4 c5 c6
    generalize w3.alloc _ = w4 at M4 S4 G4 ⊢
    generalize w3.heap.size = q3 at M4 ⊢
    obtain ⟨m0, m1, m2, m3⟩ := four_cells M4.out
    obtain ⟨s0, s1, s2, s3⟩ := four_cells S4.out
    have sf := four_free S4.out
    go_wp2
    refine bodyPost_ret (v := setV F) (back_set Tryd.results20 rfl (set_four S4.out _ _ _ _)) rfl ?_
    exact ⟨rfl, grown_four0 G4.out _ _ _ _ HQ.out⟩
end Go.Proofs.YtlkjejmmoalliaaDoor

namespace Go.Proofs.YtlkjejmmoalliaaDoor
open Go.RowKit

def DocSk (N : Nat) : Prop := ∀ (n : Ni) (a : Option Addr) (m k : Nat) (w : World), szN n ≤ N → KidsE w (.slice a m k) n.kids →
    Calls Tryd.prog 37 #[niV n (.slice a m k)] w fun e w' => e = .returned (.bool (skN n)) ∧ w.grownBy w' none
theorem skAll_take {l : List Ni} {j : Nat} {n : Ni} (h : l[j]? = some n) : skAll (l.take (j + 1)) = (skAll (l.take j) && skN n) := by
  rw [List.take_add_one, h, skAll_all, skAll_all, List.all_append]; simp
theorem skAny_take {l : List Ni} {j : Nat} {n : Ni} (h : l[j]? = some n) : skAny (l.take (j + 1)) = (skAny (l.take j) || skN n) := by
  rw [List.take_add_one, h, skAny_any, skAny_any, List.any_append]; simp
set_option maxRecDepth 100000 in
set_option maxHeartbeats 8000000 in
theorem dSkips : ∀ N : Nat, N ≤ 1000 → DocSk N := by
  intro N
  induction N with
  | zero => intro _ n a m k w h; rw [sz_eq] at h; omega
  | succ N ih =>
    intro hN1 n a m k w hN hK
    obtain rfl := hK.len
    have HI := Lib.hid (ih (by omega))
    have hz := sz_eq n
    have hl1000 : n.kids.length ≤ 1000 := by have := len_le_sz n.kids; omega
    have hS := sk_eq n
    obtain ⟨K, hKK⟩ : ∃ K, skN n = K := ⟨_, rfl⟩
    rw [hKK]
    rw [hKK] at hS
    obtain ⟨l, hl'⟩ : ∃ l, n.kids = l := ⟨_, rfl⟩
    rw [hl'] at hK hz hl1000 hS ⊢
    have HS := Lib.hid (show ∀ n' ∈ l, szN n' ≤ N from fun n' h' => by have := szL_mem h'; omega)
    clear ih hN hz hl'
    obtain ⟨x, hx⟩ : ∃ x, n.kind = x := ⟨_, rfl⟩
    obtain ⟨y, hy⟩ : ∃ y, n.index = y := ⟨_, rfl⟩
    obtain ⟨c, hc⟩ : ∃ c, n.set = c := ⟨_, rfl⟩
    have e0 : niV n (.slice a l.length k) = .agg #[.int .i64 x, .int .i64 y, .int .u64 (wd c 0), .int .u64 (wd c 1), .int .u64 (wd c 2), .int .u64 (wd c 3), .slice a l.length k] := by unfold niV; rw [hx, hy, hc]
    rw [e0]
    rw [hx] at hS
    have HSK := Lib.hid hS
    clear hx hy hc e0 hKK hS n
    have g1 := World.grownBy_alloc w (.cells #[.int .i64 x, .int .i64 y, .int .u64 (wd c 0), .int .u64 (wd c 1), .int .u64 (wd c 2), .int .u64 (wd c 3), .slice a l.length k] 32) none
    have B1 := Lib.hid (heap_alloc_new w (.cells #[.int .i64 x, .int .i64 y, .int .u64 (wd c 0), .int .u64 (wd c 1), .int .u64 (wd c 2), .int .u64 (wd c 3), .slice a l.length k] 32))
    have K1 := Lib.hid (hK.grown g1)
    have G1 := Lib.hid g1
    clear g1 hK
    go_enter Tryd.func37, Tryd.ntmps37
    go_upto_region 1 with fail
    generalize w.alloc _ = w1 at B1 K1 G1 ⊢
    generalize w.heap.size = q at B1 ⊢
    obtain ⟨c0, c1, c2, c3, c4, c5, c6⟩ := seven_cells B1.out
    go_wp2
    clear c0 c1 c2 c3 c4 c5 c6
    go_loopw [3, 4, 10] (fun u v i wr => ∃ (j : Nat) (p o : Bool), j ≤ l.length ∧ i = .int .i64 j ∧ u = .bool p ∧ v = .bool o ∧ Hid (p = skAll (l.take j) ∧ o = skAny (l.take j)) ∧ Hid (w1.grownBy wr none)) (fun _ _ i _ => l.length - (intOf i).toNat)
    case atStart => exact ⟨0, true, false, Nat.zero_le _, rfl, rfl, rfl, Lib.hid (by simp [skAll, skAny]), Lib.hid (World.grownBy.refl _ _)⟩
    case round =>
      obtain ⟨j, p, o, hj, rfl, rfl, rfl, hP, hG⟩ := hrel
      by_cases hlt : j < l.length
      · obtain ⟨n', hn'⟩ : ∃ n', l[j]? = some n' := ⟨_, List.getElem?_eq_getElem hlt⟩
        have HT := Lib.hid (show (p && skN n') = skAll (l.take (j + 1)) ∧ (o || skN n') = skAny (l.take (j + 1)) by rw [skAll_take hn', skAny_take hn', ← hP.out.1, ← hP.out.2]; exact ⟨rfl, rfl⟩)
        have CI := Lib.hid (fun x y z w hk => HI.out n' x y z w (HS.out n' (List.mem_of_getElem? hn')) hk)
        obtain ⟨b0, off, x0, y0, z0, rfl, hc, hk'⟩ := (K1.out.grown hG.out).at hn'
        have c0 : wr.cell? ⟨b0, off + j * 7, none⟩ = some (.int .i64 n'.kind) := hc 0 _ rfl
        have c1 := hc 1 _ rfl
        have c2 := hc 2 _ rfl
        have c3 := hc 3 _ rfl
        have c4 := hc 4 _ rfl
        have c5 := hc 5 _ rfl
        have c6 := hc 6 _ rfl
        have ga := World.grownBy_alloc wr (.cells #[.int .i64 n'.kind, .int .i64 n'.index, .int .u64 (wd n'.set 0), .int .u64 (wd n'.set 1), .int .u64 (wd n'.set 2), .int .u64 (wd n'.set 3), .slice x0 y0 z0] 32) none
        have N2 := Lib.hid (heap_alloc_new wr (.cells #[.int .i64 n'.kind, .int .i64 n'.index, .int .u64 (wd n'.set 0), .int .u64 (wd n'.set 1), .int .u64 (wd n'.set 2), .int .u64 (wd n'.set 3), .slice x0 y0 z0] 32))
        have G2 := Lib.hid (hG.out.trans ga)
        have KK := Lib.hid (hk'.grown ga)
        clear hc hk' hn' ga hP
        go_upto_region 5 with fail
        clear c0 c1 c2 c3 c4 c5 c6
        generalize wr.alloc _ = w2 at N2 G2 KK ⊢
        generalize wr.heap.size = q2 at N2 ⊢
        generalize skN n' = bk at CI HT
        have Z := Lib.hid (World.grownBy.refl w2 none)
        obtain ⟨c0, c1, c2, c3, c4, c5, c6⟩ := seven_cells N2.out
        cases p <;> cases o
        all_goals
          go_wp2_with (go_at_call 37; (with_reducible refine (CI.out _ _ _ _ (KK.out.grown Z.out)).mono ?_); rintro e w3 ⟨rfl, g3⟩; have Z2 := Lib.hid (Z.out.trans g3); clear g3 Z c0 c1 c2 c3 c4 c5 c6; have Z := Z2; clear Z2; obtain ⟨c0, c1, c2, c3, c4, c5, c6⟩ := seven_cells (heap_grown Z.out N2.out))
          go_roundw
          case rel => exact ⟨j + 1, _, _, by omega, by go_num, rfl, rfl, HT, Lib.hid (G2.out.trans Z.out)⟩
          case measure => simp [intOf]; omega
      · obtain rfl : j = l.length := by omega
        have HE := Lib.hid (show K = (decide (x ≠ 1) && ((decide (x ≠ 2) && decide (x ≠ 5) && decide (x ≠ 7)) || p) && (decide (x ≠ 3) || o)) by rw [HSK.out, hP.out.1, hP.out.2, List.take_length])
        obtain ⟨c0, c1, c2, c3, c4, c5, c6⟩ := seven_cells (heap_grown hG.out B1.out)
        clear HSK hP
        have hcs : x = 1 ∨ x = 2 ∨ x = 3 ∨ x = 5 ∨ x = 7 ∨ (x ≠ 1 ∧ x ≠ 2 ∧ x ≠ 3 ∧ x ≠ 5 ∧ x ≠ 7) := by omega
        rcases hcs with rfl | rfl | rfl | rfl | rfl | ⟨h1, h2, h3, h5, h7⟩
        case' inr.inr.inr.inr.inr =>
          have n1 : (x != 1) = true := by simpa using h1
          have n2 : (x != 2) = true := by simpa using h2
          have n3 : (x != 3) = true := by simpa using h3
          have n5 : (x != 5) = true := by simpa using h5
          have n7 : (x != 7) = true := by simpa using h7
          have HE2 := Lib.hid (show K = true by rw [HE.out]; simp [h1, h2, h3, h5, h7])
          clear h1 h2 h3 h5 h7 HE
        case' inl => have HE2 := Lib.hid (show K = false by rw [HE.out]; simp)
        case' inr.inl => have HE2 := Lib.hid (show K = p by rw [HE.out]; simp)
        case' inr.inr.inl => have HE2 := Lib.hid (show K = o by rw [HE.out]; simp)
        case' inr.inr.inr.inl => have HE2 := Lib.hid (show K = p by rw [HE.out]; simp)
        case' inr.inr.inr.inr.inl => have HE2 := Lib.hid (show K = p by rw [HE.out]; simp)
        all_goals
          cases p <;> cases o
        all_goals
          go_wp2
          go_ret
          exact ⟨ret_bool HE2.out.symm, G1.out.trans hG.out⟩
end Go.Proofs.YtlkjejmmoalliaaDoor

namespace Go.Proofs.YtlkjejmmoalliaaDoor
open Go.RowKit

/-- the words of a set that is being joined with another one -/
def mixC (S T : BitVec 256) (k : Nat) : Array Value := #[.int .u64 (wd (if 0 < k then un S T else S) 0), .int .u64 (wd (if 1 < k then un S T else S) 1), .int .u64 (wd (if 2 < k then un S T else S) 2), .int .u64 (wd (if 3 < k then un S T else S) 3)]
theorem mix_get (S T : BitVec 256) (k : Nat) (hk : k < 4) : (mixC S T k)[k]? = some (.int .u64 (wd S k)) := by
  obtain rfl | rfl | rfl | rfl : k = 0 ∨ k = 1 ∨ k = 2 ∨ k = 3 := by omega
  all_goals simp [mixC]
theorem mix_set (S T : BitVec 256) (k : Nat) (hk : k < 4) : (mixC S T k).setIfInBounds k (.int .u64 (wd (un S T) k)) = mixC S T (k + 1) := by
  obtain rfl | rfl | rfl | rfl : k = 0 ∨ k = 1 ∨ k = 2 ∨ k = 3 := by omega
  all_goals simp [mixC]
theorem mix_end (S T : BitVec 256) : mixC S T 4 = setC (un S T) := by simp [mixC, setC]
theorem mix_start (S T : BitVec 256) : mixC S T 0 = setC S := by simp [mixC, setC]
/-- what is left to do -/
def FirI (x : Int) (l : List Ni) (F : BitVec 256) (j : Nat) (S : BitVec 256) : Prop := un S (if x = 2 then firC (l.drop j) else firA (l.drop j)) = F
theorem FirI.step {x : Int} {l : List Ni} {F S : BitVec 256} {j : Nat} {n : Ni} (h : FirI x l F j S) (hn : l[j]? = some n) (hx : x ≠ 2 ∨ skN n = true) : FirI x l F (j + 1) (un S (firN n)) := by
  obtain ⟨hj, e⟩ := List.getElem?_eq_some_iff.1 hn
  unfold FirI at h ⊢
  rw [List.drop_eq_getElem_cons hj, e, firA, firC] at h
  rw [un_assoc, ← h]
  by_cases h2 : x = 2
  · rw [if_pos h2, if_pos h2, if_pos (hx.resolve_left fun h => h h2)]
  · rw [if_neg h2, if_neg h2]
theorem FirI.stop {x : Int} {l : List Ni} {F S : BitVec 256} {j : Nat} {n : Ni} (h : FirI x l F j S) (hn : l[j]? = some n) (hx : x = 2) (hs : skN n = false) : un S (firN n) = F := by
  obtain ⟨hj, e⟩ := List.getElem?_eq_some_iff.1 hn
  unfold FirI at h
  rw [List.drop_eq_getElem_cons hj, e, firC, if_pos hx, if_neg (by rw [hs]; simp), un_none] at h
  exact h
theorem FirI.fin {x : Int} {l : List Ni} {F S : BitVec 256} (h : FirI x l F l.length S) : S = F := by
  unfold FirI at h
  rw [List.drop_length, firC, firA] at h
  simpa [un_none] using h
abbrev setA (s : BitVec 256) : Obj := .cells #[.int .u64 (wd s 0), .int .u64 (wd s 1), .int .u64 (wd s 2), .int .u64 (wd s 3)] 23 (0, 0)
def DocFi (N : Nat) : Prop := ∀ (n : Ni) (a : Option Addr) (m k : Nat) (w : World), szN n ≤ N → KidsE w (.slice a m k) n.kids →
    Calls Tryd.prog 22 #[niV n (.slice a m k)] w fun e w' => e = .returned (setV (firN n)) ∧ w.grownBy w' none
set_option maxRecDepth 100000 in
set_option maxHeartbeats 8000000 in
theorem dFirst : ∀ N : Nat, N ≤ 1000 → DocFi N := by
  intro N
  induction N with
  | zero => intro _ n a m k w h; rw [sz_eq] at h; omega
  | succ N ih =>
    intro hN1 n a m k w hN hK
    obtain rfl := hK.len
    have HI := Lib.hid (ih (by omega))
    have HK := Lib.hid (dSkips N (by omega))
    have hz := sz_eq n
    have hl1000 : n.kids.length ≤ 1000 := by have := len_le_sz n.kids; omega
    have hF := fir_eq n
    obtain ⟨F, hFF⟩ : ∃ F, firN n = F := ⟨_, rfl⟩
    rw [hFF]
    rw [hFF] at hF
    obtain ⟨l, hl'⟩ : ∃ l, n.kids = l := ⟨_, rfl⟩
    rw [hl'] at hK hz hl1000 hF ⊢
    have HS := Lib.hid (show ∀ n' ∈ l, szN n' ≤ N from fun n' h' => by have := szL_mem h'; omega)
    clear ih hN hz hl'
    obtain ⟨x, hx⟩ : ∃ x, n.kind = x := ⟨_, rfl⟩
    obtain ⟨y, hy⟩ : ∃ y, n.index = y := ⟨_, rfl⟩
    obtain ⟨c, hc⟩ : ∃ c, n.set = c := ⟨_, rfl⟩
    have e0 : niV n (.slice a l.length k) = .agg #[.int .i64 x, .int .i64 y, .int .u64 (wd c 0), .int .u64 (wd c 1), .int .u64 (wd c 2), .int .u64 (wd c 3), .slice a l.length k] := by unfold niV; rw [hx, hy, hc]
    rw [e0]
    rw [hx, hc] at hF
    clear hx hy hc e0 hFF n
    obtain ⟨b1, b2, b3, g⟩ := heap3 w (.cells #[.int .i64 x, .int .i64 y, .int .u64 (wd c 0), .int .u64 (wd c 1), .int .u64 (wd c 2), .int .u64 (wd c 3), .slice a l.length k] 32) (.cells #[.int .u64 0, .int .u64 0, .int .u64 0, .int .u64 0] 23) (.cells #[.int .u64 0, .int .u64 0, .int .u64 0, .int .u64 0] 23)
    have B1 := Lib.hid b1
    have R1 := Lib.hid b2
    have O1 := Lib.hid (show (((w.alloc (.cells #[.int .i64 x, .int .i64 y, .int .u64 (wd c 0), .int .u64 (wd c 1), .int .u64 (wd c 2), .int .u64 (wd c 3), .slice a l.length k] 32)).alloc (.cells #[.int .u64 0, .int .u64 0, .int .u64 0, .int .u64 0] 23)).alloc (.cells #[.int .u64 0, .int .u64 0, .int .u64 0, .int .u64 0] 23)).heap[w.heap.size + 1 + 1]? = some (setA emp) by unfold setA; rw [wd_emp, wd_emp, wd_emp, wd_emp]; exact b3)
    have K0 := Lib.hid hK
    have G1 := Lib.hid g
    clear b1 b2 b3 g hK
    go_enter Tryd.func22, Tryd.ntmps22
    go_upto_region 2 with fail
    generalize World.alloc _ _ = w1 at B1 R1 O1 G1 ⊢
    obtain ⟨q, eq⟩ : ∃ q, q = w.heap.size := ⟨_, rfl⟩
    obtain ⟨r, er⟩ : ∃ r, r = q + 1 := ⟨_, rfl⟩
    obtain ⟨o, eo⟩ : ∃ o, o = r + 1 := ⟨_, rfl⟩
    rw [← eq] at B1 R1 O1 ⊢
    rw [← er] at R1 O1 ⊢
    rw [← eo] at O1 ⊢
    have HR := Lib.hid (show w.heap.size ≤ r by omega)
    have HO := Lib.hid (show w.heap.size ≤ o by omega)
    have nqo : q ≠ o := by omega
    have nro : r ≠ o := by omega
    clear eq er eo
    obtain ⟨c0, c1, c2, c3, c4, c5, c6⟩ := seven_cells B1.out
    by_cases h1 : x = 1
    · subst h1
      obtain rfl : F = c := by simpa using hF
      obtain ⟨s0, s1, s2, s3⟩ := four_cells R1.out
      have sf := four_free R1.out
      clear hF
      go_wp2
      refine bodyPost_ret (v := setV F) (back_setT 23 Tryd.underlying23 (by kernel_rfl) Tryd.results22 rfl (set_four R1.out _ _ _ _)) rfl ⟨rfl, ?_⟩
      exact grown_four0 G1.out _ _ _ _ HR.out
    have n1 : (x == 1) = false := by simpa using h1
    have H0 := Lib.hid (show FirI x l F 0 emp by unfold FirI; rw [hF, if_neg h1, List.drop_zero, none_un])
    clear hF
    go_wp2
    clear c0 c1 c2 c3 c4 c5 c6
    go_loopw [17] (fun i wr => ∃ (j : Nat) (S : BitVec 256), j ≤ l.length ∧ i = .int .i64 j ∧ Hid (FirI x l F j S) ∧ Hid (wr.heap[o]? = some (setA S)) ∧ Hid (wr.heap[r]? = w1.heap[r]? ∧ wr.heap[q]? = w1.heap[q]?) ∧ Hid (w.grownBy wr none)) (fun i _ => l.length - (intOf i).toNat)
    case atStart => exact ⟨0, emp, Nat.zero_le _, rfl, H0, O1, Lib.hid ⟨rfl, rfl⟩, G1⟩
    case round =>
      obtain ⟨j, S, hj, rfl, hI, hO, hRQ, hG⟩ := hrel
      by_cases hlt : j < l.length
      · obtain ⟨n', hn'⟩ : ∃ n', l[j]? = some n' := ⟨_, List.getElem?_eq_getElem hlt⟩
        have CI := Lib.hid (fun x y z w hk => HI.out n' x y z w (HS.out n' (List.mem_of_getElem? hn')) hk)
        have CK := Lib.hid (fun x y z w hk => HK.out n' x y z w (HS.out n' (List.mem_of_getElem? hn')) hk)
        have HT := Lib.hid (fun hx => hI.out.step hn' hx)
        have HP := Lib.hid (fun hx hs => hI.out.stop hn' hx hs)
        obtain ⟨b0, off, x0, y0, z0, rfl, hc, hk'⟩ := K0.out.at hn'
        have c0 : wr.cell? ⟨b0, off + j * 7, none⟩ = some (.int .i64 n'.kind) := hG.out.cell (hc 0 _ rfl) (by simp)
        have c1 := hG.out.cell (hc 1 _ rfl) (by simp)
        have c2 := hG.out.cell (hc 2 _ rfl) (by simp)
        have c3 := hG.out.cell (hc 3 _ rfl) (by simp)
        have c4 := hG.out.cell (hc 4 _ rfl) (by simp)
        have c5 := hG.out.cell (hc 5 _ rfl) (by simp)
        have c6 := hG.out.cell (hc 6 _ rfl) (by simp)
        have KW := Lib.hid hk'
        have ga := World.grownBy_alloc wr (.cells #[.int .i64 n'.kind, .int .i64 n'.index, .int .u64 (wd n'.set 0), .int .u64 (wd n'.set 1), .int .u64 (wd n'.set 2), .int .u64 (wd n'.set 3), .slice x0 y0 z0] 32) none
        have N2 := Lib.hid (heap_alloc_new wr (.cells #[.int .i64 n'.kind, .int .i64 n'.index, .int .u64 (wd n'.set 0), .int .u64 (wd n'.set 1), .int .u64 (wd n'.set 2), .int .u64 (wd n'.set 3), .slice x0 y0 z0] 32))
        have O2 := Lib.hid (heap_grown ga hO.out)
        have B2 := Lib.hid (heap_grown ga (hRQ.out.2.trans B1.out))
        have R2 := Lib.hid (heap_grown ga (hRQ.out.1.trans R1.out))
        have G2 := Lib.hid (hG.out.trans ga)
        have KK := Lib.hid (hk'.grown (hG.out.trans ga))
        have HON := Lib.hid (show o ≠ wr.heap.size from by have := cells_ltF hO.out; omega)
        clear hc hk' hn' ga hI hO hRQ
        go_upto_region 7 with fail
        clear c0 c1 c2 c3 c4 c5 c6
        generalize wr.alloc _ = w2 at N2 O2 B2 R2 G2 KK ⊢
        generalize wr.heap.size = q2 at N2 HON ⊢
        obtain ⟨c0, c1, c2, c3, c4, c5, c6⟩ := seven_cells N2.out
        go_upto_region 8 with (go_at_call 22; (with_reducible refine (CI.out _ _ _ _ KK.out).mono ?_); rintro e w3 ⟨rfl, g3⟩; have N3 := Lib.hid (heap_grown g3 N2.out); have O3 := Lib.hid (heap_grown g3 O2.out); have B3 := Lib.hid (heap_grown g3 B2.out); have R3 := Lib.hid (heap_grown g3 R2.out); have G3 := Lib.hid (G2.out.trans g3); clear g3)
        obtain ⟨T, hTT⟩ : ∃ T, T = firN n' := ⟨_, rfl⟩
        rw [← hTT] at HT HP ⊢
        have ga := World.grownBy_alloc w3 (.cells #[.int .u64 (wd T 0), .int .u64 (wd T 1), .int .u64 (wd T 2), .int .u64 (wd T 3)] 23) none
        have M4 := Lib.hid (show (w3.alloc (.cells #[.int .u64 (wd T 0), .int .u64 (wd T 1), .int .u64 (wd T 2), .int .u64 (wd T 3)] 23)).heap[w3.heap.size]? = some (.cells (setC T) 23 (0, 0)) from heap_alloc_new w3 (.cells #[.int .u64 (wd T 0), .int .u64 (wd T 1), .int .u64 (wd T 2), .int .u64 (wd T 3)] 23))
        have N4 := Lib.hid (heap_grown ga N3.out)
        have O4 := Lib.hid (heap_grown ga O3.out)
        have B4 := Lib.hid (heap_grown ga B3.out)
        have R4 := Lib.hid (heap_grown ga R3.out)
        have G4 := Lib.hid (G3.out.trans ga)
        have HOM := Lib.hid (show o ≠ w3.heap.size from by have := cells_ltF O3.out; omega)
        clear ga c0 c1 c2 c3 c4 c5 c6 N3 O3 B3 R3 G3 N2 O2 B2 R2 KK G2 hG hTT CI
        generalize w3.alloc _ = w4 at M4 N4 O4 B4 R4 G4 ⊢
        generalize w3.heap.size = q3 at M4 HOM ⊢
        go_wp2
        go_loopw [23] (fun i wi => ∃ k : Nat, k ≤ 4 ∧ i = .int .i64 k ∧ Hid (wi.heap[o]? = some (.cells (mixC S T k) 23 (0, 0))) ∧ Hid (w4.grownBy wi (some o))) (fun i _ => 4 - (intOf i).toNat)
        case atStart => exact ⟨0, by omega, rfl, Lib.hid (by rw [mix_start]; exact O4.out), Lib.hid (World.grownBy.refl _ _)⟩
        case round =>
          obtain ⟨k, hk, rfl, hO, hG⟩ := hrel
          have M5 := Lib.hid ((hG.out.block q3 (cells_ltF M4.out) (fun e => HOM.out (by cases e; rfl))).trans M4.out)
          by_cases hk4 : k < 4
          · have d0 := (cell_of_row wr o k _ _ _ hO.out).trans (mix_get S T k hk4)
            have d1 := (cell_of_row wr q3 k _ _ _ M5.out).trans (setC_get T k hk4)
            have f0 := four_free hO.out k
            have hor := wd_or S T k
            have HX := Lib.hid (mix_set S T k hk4)
            generalize wd (un S T) k = d at hor HX
            generalize wd S k = d2 at hor d0
            generalize wd T k = d3 at hor d1
            go_upto_region 11 with fail
            go_region
            have G7 := Lib.hid (show w4.grownBy (wr.setCell ⟨o, k, none⟩ (.int .u64 d)).drew (some o) from grown_drew (hG.out.andThen (grown_cell wr o k _) (fun _ e => .inr e)))
            have O7 := Lib.hid (show (wr.setCell ⟨o, k, none⟩ (.int .u64 d)).drew.heap[o]? = some (.cells (mixC S T (k + 1)) 23 (0, 0)) from (heap_setCell_same wr o k _ _ _ hO.out).trans (by rw [HX.out]))
            clear hor d0 d1 f0
            go_wp2
            go_roundw
            case rel => exact ⟨k + 1, by omega, by go_num, O7, G7⟩
            case measure => simp [intOf]; omega
          · obtain rfl : k = 4 := by omega
            have ne : ∀ b, b ≠ o → some b ≠ some o := fun b h e => h (by cases e; rfl)
            have N6 := Lib.hid ((hG.out.block q2 (cells_ltF N4.out) (ne q2 (fun e => HON.out e.symm))).trans N4.out)
            have B6 := Lib.hid ((hG.out.block q (cells_ltF B4.out) (ne q nqo)).trans B4.out)
            have R6 := Lib.hid ((hG.out.block r (cells_ltF R4.out) (ne r nro)).trans R4.out)
            have O6 := Lib.hid (show wr.heap[o]? = some (setA (un S T)) by have := hO.out; rw [mix_end] at this; exact this)
            have G6 := Lib.hid (G4.out.andThen hG.out (fun k e => .inl (by cases e; exact HO.out)))
            clear ne hO hG M5 M4 N4 O4 B4 R4 G4
            obtain ⟨c0, c1, c2, c3, c4, c5, c6⟩ := seven_cells B6.out
            by_cases h2 : x = 2
            · subst h2
              obtain ⟨d0, d1, d2, d3, d4, d5, d6⟩ := seven_cells N6.out
              have CK6 := Lib.hid (CK.out _ _ _ wr (KW.out.grown G6.out))
              have HT6 := Lib.hid (fun h => HT.out (.inr h))
              have HP6 := Lib.hid (fun h => HP.out rfl h)
              clear HT HP CK
              generalize skN n' = bk at CK6 HT6 HP6
              cases bk
              · have HE := Lib.hid (HP6.out (by trivial))
                clear HT6 HP6
                go_wp2_with (go_at_call 37; (with_reducible refine (CK6.out).mono ?_); rintro e w7 ⟨rfl, g7⟩; have R7 := Lib.hid (heap_grown g7 R6.out); have O7 := Lib.hid (heap_grown g7 O6.out); have G7 := Lib.hid (G6.out.trans g7); clear g7; obtain ⟨s0, s1, s2, s3⟩ := four_cells O7.out; obtain ⟨r0, r1, r2, r3⟩ := four_cells R7.out; have sf := four_free R7.out)
                rw [← HE.out]
                refine bodyPost_ret (v := setV (un S T)) (back_setT 23 Tryd.underlying23 (by kernel_rfl) Tryd.results22 rfl (set_four R7.out _ _ _ _)) rfl ⟨rfl, ?_⟩
                exact grown_four0 G7.out _ _ _ _ HR.out
              · have HE := Lib.hid (HT6.out (by trivial))
                clear HT6 HP6
                go_wp2_with (go_at_call 37; (with_reducible refine (CK6.out).mono ?_); rintro e w7 ⟨rfl, g7⟩; have R7 := Lib.hid (heap_grown g7 R6.out); have O7 := Lib.hid (heap_grown g7 O6.out); have B7 := Lib.hid (heap_grown g7 B6.out); have G7 := Lib.hid (G6.out.trans g7); clear g7)
                go_roundw
                case rel => exact ⟨j + 1, un S T, by omega, by go_num, HE, O7, Lib.hid ⟨R7.out.trans R1.out.symm, B7.out.trans B1.out.symm⟩, G7⟩
                case measure => simp [intOf]; omega
            · have n2 : (x == 2) = false := by simpa using h2
              have HE := Lib.hid (HT.out (.inl h2))
              clear HT HP h2
              go_wp2
              go_roundw
              case rel => exact ⟨j + 1, un S T, by omega, by go_num, HE, O6, Lib.hid ⟨R6.out.trans R1.out.symm, B6.out.trans B1.out.symm⟩, G6⟩
              case measure => simp [intOf]; omega
      · obtain rfl : j = l.length := by omega
        obtain rfl := hI.out.fin
        have R2 := Lib.hid (hRQ.out.1.trans R1.out)
        obtain ⟨s0, s1, s2, s3⟩ := four_cells hO.out
        obtain ⟨r0, r1, r2, r3⟩ := four_cells R2.out
        have sf := four_free R2.out
        clear hI
        go_wp2
        refine bodyPost_ret (v := setV S) (back_setT 23 Tryd.underlying23 (by kernel_rfl) Tryd.results22 rfl (set_four R2.out _ _ _ _)) rfl ⟨rfl, ?_⟩
        exact grown_four0 hG.out _ _ _ _ HR.out
end Go.Proofs.YtlkjejmmoalliaaDoor

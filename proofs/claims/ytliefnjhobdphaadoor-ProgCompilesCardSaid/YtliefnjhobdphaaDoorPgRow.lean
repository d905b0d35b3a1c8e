/- Instructions in memory; whether all leads on; whether two programs are the same. -/
import Derived.Test.YtliefnjhobdphaaDoorPgMem
import Derived.Deep.RegionLaw
namespace Go.Proofs.YtliefnjhobdphaaDoor
open Go.RowKit

def cellsC (c : Ins) : List Value := [.int .i64 c.o, .int .i64 c.x, .int .i64 c.y, .int .u64 (wd c.s 0), .int .u64 (wd c.s 1), .int .u64 (wd c.s 2), .int .u64 (wd c.s 3)]
abbrev insV (c : Ins) : Value := .agg #[.int .i64 c.o, .int .i64 c.x, .int .i64 c.y, .int .u64 (wd c.s 0), .int .u64 (wd c.s 1), .int .u64 (wd c.s 2), .int .u64 (wd c.s 3)]
def flatC (L : List Ins) : List Value := L.flatMap cellsC
theorem flatC_append (L R : List Ins) : flatC (L ++ R) = flatC L ++ flatC R := by unfold flatC; simp
theorem flatC_cons (c : Ins) (L : List Ins) : flatC (c :: L) = cellsC c ++ flatC L := by unfold flatC; simp
theorem flatC_one (c : Ins) : flatC [c] = cellsC c := by unfold flatC; simp
theorem flatC_len (L : List Ins) : (flatC L).length = L.length * 7 := by
  induction L with
  | nil => rfl
  | cons c L ih => rw [flatC_cons, List.length_append, ih, List.length_cons]; show 7 + _ = _; omega
theorem flatC_get : ∀ (L : List Ins) (k : Nat) (c : Ins), L[k]? = some c → ∀ j u, (cellsC c)[j]? = some u → (flatC L)[k * 7 + j]? = some u := by
  intro L
  induction L with
  | nil => intro k c hx; simp at hx
  | cons y L ih =>
    intro k c hx j u hu
    have hl : (cellsC y).length = 7 := rfl
    have hj : j < 7 := (List.getElem?_eq_some_iff.1 hu).1
    rw [flatC_cons, List.getElem?_append]
    cases k with
    | zero =>
      simp at hx; subst hx
      rw [if_pos (by rw [hl]; omega)]
      simpa using hu
    | succ k =>
      rw [if_neg (by rw [hl]; omega), hl, show (k + 1) * 7 + j - 7 = k * 7 + j by omega]
      exact ih k c (by simpa using hx) j u hu
theorem flatC_set : ∀ (L : List Ins) (k : Nat) (c c' : Ins) (j : Nat) (v : Value), L[k]? = some c → j < 7 → (cellsC c).set j v = cellsC c' → (flatC L).set (k * 7 + j) v = flatC (L.set k c') := by
  intro L
  induction L with
  | nil => intro k c c' j v hx; simp at hx
  | cons y L ih =>
    intro k c c' j v hx hj hs
    have hl : (cellsC y).length = 7 := rfl
    cases k with
    | zero =>
      simp at hx; subst hx
      rw [List.set_cons_zero, flatC_cons, flatC_cons, List.set_append, if_pos (by rw [hl]; omega), Nat.zero_mul, Nat.zero_add, hs]
    | succ k =>
      rw [List.set_cons_succ, flatC_cons, flatC_cons, List.set_append, if_neg (by rw [hl]; omega), hl, show (k + 1) * 7 + j - 7 = k * 7 + j by omega]
      rw [ih k c c' j v (by simpa using hx) hj hs]
theorem flatC_oneCell (L : List Ins) : ∀ u ∈ flatC L, u.oneCell' = true := by
  intro u hu
  obtain ⟨c, -, hc⟩ := List.mem_flatMap.1 hu
  unfold cellsC at hc; simp at hc; rcases hc with rfl | rfl | rfl | rfl | rfl | rfl | rfl <;> rfl
/-- v is a slice that holds the instructions l -/
def CRow (w : World) (v : Value) (l : List Ins) : Prop :=
  ∃ a c, v = .slice a l.length c ∧ ∀ k x, l[k]? = some x → ∃ b off, a = some ⟨b, off, none⟩ ∧ ∀ j u, (cellsC x)[j]? = some u → w.cell? ⟨b, off + k * 7 + j, none⟩ = some u
theorem CRow.grown {w w' : World} {v : Value} {l : List Ins} (h : CRow w v l) (g : w.grownBy w' none) : CRow w' v l := by
  obtain ⟨a, c, e, hc⟩ := h
  refine ⟨a, c, e, fun k x hx => ?_⟩
  obtain ⟨b, off, ea, hh⟩ := hc k x hx
  exact ⟨b, off, ea, fun j u hu => g.cell (hh j u hu) (by simp)⟩
theorem CRow.shape {w : World} {v : Value} {l : List Ins} (h : CRow w v l) : ∃ a c, v = .slice a l.length c := by obtain ⟨a, c, e, -⟩ := h; exact ⟨a, c, e⟩
theorem CRow.at {w : World} {a : Option Addr} {m c k : Nat} {x : Ins} {l : List Ins} (h : CRow w (.slice a m c) l) (hk : l[k]? = some x) :
    ∃ b off, a = some ⟨b, off, none⟩ ∧ ∀ j u, (cellsC x)[j]? = some u → w.cell? ⟨b, off + k * 7 + j, none⟩ = some u := by
  obtain ⟨a', c', e, hc⟩ := h
  cases e
  exact hc k x hk
theorem crow_of_owns {w : World} {base : Nat} {T : TypeId} {v : Value} {l : List Ins} (h : w.ownsRow base T 7 v l.length (flatC l)) : CRow w v l := by
  rcases h.2 with ⟨rfl, h0⟩ | ⟨g, cap, cur, rfl, hbg, hg, _⟩
  · have : l = [] := List.eq_nil_of_length_eq_zero h0
    subst this
    exact ⟨none, 0, rfl, fun k x hx => by simp at hx⟩
  · refine ⟨_, cap, rfl, fun k x hx => ⟨g, 0, rfl, fun j u hu => ?_⟩⟩
    have := h.cells (g := g) rfl _ _ (flatC_get l k x hx j u hu)
    rw [Addr.add_lit] at this
    rw [show 0 + k * 7 + j = 0 + (k * 7 + j) by omega]
    exact this

/-! Closed -/
set_option maxHeartbeats 1000000 in
theorem cIs (t : Int) (q : Nat) (a : Option Addr) (m c : Nat) (w : World) (h : w.cell? ⟨q, 0, none⟩ = some (.slice a m c)) :
    Calls Tryd.prog 27 #[.int .i64 t, .pointer (some ⟨q, 0, none⟩)] w fun e w' => e = .returned (.bool (decide (0 ≤ t ∧ t < m))) ∧ w.grownBy w' none := by
  have G := Lib.hid (World.grownBy.refl w none)
  cases h1 : decide (0 ≤ t)
  · have HR := Lib.hid (show false = decide (0 ≤ t ∧ t < m) by simp at h1; simp; omega)
    go_enter Tryd.func27, Tryd.ntmps27
    go_wp2
    go_ret
    exact ⟨ret_bool HR.out, G.out⟩
  · have HR := Lib.hid (show decide (t < m) = decide (0 ≤ t ∧ t < m) by simp at h1; simp [h1])
    go_enter Tryd.func27, Tryd.ntmps27
    go_wp2
    go_ret
    exact ⟨ret_bool HR.out, G.out⟩

set_option maxRecDepth 100000 in
set_option maxHeartbeats 4000000 in
theorem cLeads (x : Ins) (i q : Nat) (a : Option Addr) (m c : Nat) (w : World) (hi : i < m) (hm : m ≤ maxLen) (h : w.cell? ⟨q, 0, none⟩ = some (.slice a m c)) :
    Calls Tryd.prog 28 #[insV x, .int .i64 i, .func (.func 27) #[] #[.pointer (some ⟨q, 0, none⟩)]] w fun e w' => e = .returned (.bool (leadB m i x)) ∧ w.grownBy w' none := by
  have eg : ∀ args w, (callFunc 27 args).run Tryd.prog w = .ok (.enter 27 args) w := enters_of Tryd.func27 (by kernel_rfl) rfl
  unfold maxLen at hm
  have ga := World.grownBy_alloc w (.cells #[.int .i64 x.o, .int .i64 x.x, .int .i64 x.y, .int .u64 (wd x.s 0), .int .u64 (wd x.s 1), .int .u64 (wd x.s 2), .int .u64 (wd x.s 3)] 53) none
  have B1 := Lib.hid (heap_alloc_new w (.cells #[.int .i64 x.o, .int .i64 x.x, .int .i64 x.y, .int .u64 (wd x.s 0), .int .u64 (wd x.s 1), .int .u64 (wd x.s 2), .int .u64 (wd x.s 3)] 53))
  have HC := Lib.hid (fun (t : Int) w' (g : (w.alloc (.cells #[.int .i64 x.o, .int .i64 x.x, .int .i64 x.y, .int .u64 (wd x.s 0), .int .u64 (wd x.s 1), .int .u64 (wd x.s 2), .int .u64 (wd x.s 3)] 53)).grownBy w' none) => cIs t q a m c w' (g.cell (ga.cell h (by simp)) (by simp)))
  have G1 := Lib.hid ga
  have HB := Lib.hid (show leadB m i x = if x.o = 6 then true else if x.o = 2 then decide (0 ≤ x.x ∧ x.x < m) else if x.o = 1 then decide (0 ≤ x.x ∧ x.x < m) && decide (0 ≤ x.y ∧ x.y < m) else decide (i + 1 < m) from rfl)
  generalize leadB m i x = z at HB ⊢
  clear ga h
  have hc : ((x.o == 6) = true ∧ x.o = 6) ∨ ((x.o == 6) = false ∧ (x.o == 2) = true ∧ x.o = 2) ∨ ((x.o == 6) = false ∧ (x.o == 2) = false ∧ (x.o == 1) = true ∧ x.o = 1) ∨ ((x.o == 6) = false ∧ (x.o == 2) = false ∧ (x.o == 1) = false ∧ x.o ≠ 6 ∧ x.o ≠ 2 ∧ x.o ≠ 1) := by simp; omega
  rcases hc with ⟨e6, ho⟩ | ⟨e6, e2, ho⟩ | ⟨e6, e2, e1, ho⟩ | ⟨e6, e2, e1, h6, h2, h1⟩
  · have HZ := Lib.hid (show true = z by rw [HB.out, if_pos ho])
    clear ho
    go_enter Tryd.func28, Tryd.ntmps28
    go_upto_region 1 with fail
    generalize w.alloc _ = w1 at B1 G1 HC ⊢
    generalize w.heap.size = q1 at B1 ⊢
    obtain ⟨c0, c1, c2, c3, c4, c5, c6⟩ := seven_cells B1.out
    go_wp2
    go_ret
    exact ⟨ret_bool HZ.out, G1.out⟩
  · have HZ := Lib.hid (show decide (0 ≤ x.x ∧ x.x < m) = z by rw [HB.out, ho]; rfl)
    clear ho
    go_enter Tryd.func28, Tryd.ntmps28
    go_upto_region 1 with fail
    generalize w.alloc _ = w1 at B1 G1 HC ⊢
    generalize w.heap.size = q1 at B1 ⊢
    obtain ⟨c0, c1, c2, c3, c4, c5, c6⟩ := seven_cells B1.out
    go_wp2_with (go_at_call 27; refine (HC.out _ _ (World.grownBy.refl _ _)).mono ?_; rintro e w5 ⟨rfl, g5⟩; have G5 := Lib.hid (G1.out.trans g5); clear g5)
    go_ret
    exact ⟨ret_bool (by rw [← HZ.out, Bool.eq_iff_iff]; simp), G5.out⟩
  · have HZ := Lib.hid (show (decide (0 ≤ x.x ∧ x.x < m) && decide (0 ≤ x.y ∧ x.y < m)) = z by rw [HB.out, ho]; rfl)
    clear ho
    have HX := Lib.hid (fun w' g => HC.out x.x w' g)
    have HY := Lib.hid (fun w' g => HC.out x.y w' g)
    generalize decide (0 ≤ x.x ∧ x.x < m) = bx at HX HZ
    generalize decide (0 ≤ x.y ∧ x.y < m) = b_y at HY HZ
    clear HC HB
    cases bx
    all_goals
      go_enter Tryd.func28, Tryd.ntmps28
      go_upto_region 1 with fail
      generalize w.alloc _ = w1 at B1 G1 HX HY ⊢
      generalize w.heap.size = q1 at B1 ⊢
      obtain ⟨c0, c1, c2, c3, c4, c5, c6⟩ := seven_cells B1.out
      have Z1 := Lib.hid (World.grownBy.refl w1 none)
      go_wp2_with (first
        | (go_at_call 27; refine (HX.out _ Z1.out).mono ?_; rintro e w5 ⟨rfl, g5⟩; have Z5 := Lib.hid (Z1.out.trans g5); clear g5 Z1 c0 c1 c2 c3 c4 c5 c6; clear HX; obtain ⟨c0, c1, c2, c3, c4, c5, c6⟩ := seven_cells (heap_grown Z5.out B1.out))
        | (go_at_call 27; refine (HY.out _ Z5.out).mono ?_; rintro e w6 ⟨rfl, g6⟩; have Z6 := Lib.hid (Z5.out.trans g6); clear g6))
      go_ret
      first
        | exact ⟨ret_bool (by rw [← HZ.out]; rfl), G1.out.trans Z6.out⟩
        | exact ⟨ret_bool (by rw [← HZ.out]; rfl), G1.out.trans Z5.out⟩
  · have HZ := Lib.hid (show decide (0 ≤ ((i + 1 : Nat) : Int) ∧ ((i + 1 : Nat) : Int) < m) = z by rw [HB.out, if_neg h6, if_neg h2, if_neg h1, Bool.eq_iff_iff]; simp; omega)
    have HX := Lib.hid (fun w' g => HC.out ((i + 1 : Nat) : Int) w' g)
    clear h6 h2 h1 HC HB
    go_enter Tryd.func28, Tryd.ntmps28
    go_upto_region 1 with fail
    generalize w.alloc _ = w1 at B1 G1 HX ⊢
    generalize w.heap.size = q1 at B1 ⊢
    obtain ⟨c0, c1, c2, c3, c4, c5, c6⟩ := seven_cells B1.out
    go_wp2_with (go_at_call 27; refine (HX.out _ (World.grownBy.refl _ _)).mono ?_; rintro e w5 ⟨rfl, g5⟩; have G5 := Lib.hid (G1.out.trans g5); clear g5)
    go_ret
    exact ⟨ret_bool (by rw [← HZ.out, Bool.eq_iff_iff]; simp), G5.out⟩

/-- whether the first j instructions lead on -/
def clsT (l : List Ins) (j : Nat) : Bool := (List.range j).all fun i => match l[i]? with | some c => leadB l.length i c | none => true
theorem clsT_zero (l : List Ins) : clsT l 0 = true := by simp [clsT]
theorem clsT_succ {l : List Ins} {j : Nat} {c : Ins} (h : l[j]? = some c) : clsT l (j + 1) = (clsT l j && leadB l.length j c) := by
  unfold clsT; rw [List.range_succ, List.all_append]; simp [h]
theorem clsd_eq (l : List Ins) : clsdB l = (decide (0 < l.length) && clsT l l.length) := rfl
theorem clsT_no {l : List Ins} {j : Nat} {c : Ins} (h : l[j]? = some c) (hc : leadB l.length j c = false) : clsdB l = false := by
  rw [clsd_eq, Bool.and_eq_false_iff]; right
  cases hT : clsT l l.length
  · rfl
  · unfold clsT at hT
    rw [List.all_eq_true] at hT
    have := hT j (List.mem_range.2 (List.getElem?_eq_some_iff.1 h).1)
    rw [h] at this
    rw [← this, ← hc]

set_option maxRecDepth 100000 in
set_option maxHeartbeats 4000000 in
theorem cClosed (v : Value) (l : List Ins) (w : World) (hm : l.length ≤ maxLen) (h : CRow w v l) :
    Calls Tryd.prog 12 #[v] w fun e w' => e = .returned (.bool (clsdB l)) ∧ w.grownBy w' none := by
  have eg : ∀ args w, (callFunc 27 args).run Tryd.prog w = .ok (.enter 27 args) w := enters_of Tryd.func27 (by kernel_rfl) rfl
  obtain ⟨a, c, rfl⟩ := h.shape
  have HM := Lib.hid hm
  unfold maxLen at hm
  have ga := World.grownBy_alloc w (.cells #[.slice a l.length c] 23) none
  have B1 := Lib.hid (heap_alloc_new w (.cells #[.slice a l.length c] 23))
  have K1 := Lib.hid (h.grown ga)
  have G1 := Lib.hid ga
  have HT0 := Lib.hid (clsT_zero l)
  have HZ := Lib.hid (clsd_eq l)
  have HNO := Lib.hid (fun j c h hc => clsT_no (l := l) (j := j) (c := c) h hc)
  generalize clsdB l = z at HZ HNO ⊢
  clear ga h
  go_enter Tryd.func12, Tryd.ntmps12
  go_upto_region 1 with fail
  generalize w.alloc _ = w1 at B1 K1 G1 ⊢
  generalize w.heap.size = q at B1 ⊢
  have cq : w1.cell? ⟨q, 0, none⟩ = some (.slice a l.length c) := by unfold World.cell?; rw [B1.out]; rfl
  have CQ := Lib.hid cq
  go_wp2
  clear cq
  go_loopw [4, 5, 9] (fun _ _ i wr => ∃ j : Nat, j ≤ l.length ∧ i = .int .i64 j ∧ Hid (clsT l j = true) ∧ Hid (w1.grownBy wr none)) (fun _ _ i _ => l.length - (intOf i).toNat)
  case atStart => exact ⟨0, Nat.zero_le _, rfl, HT0, Lib.hid (World.grownBy.refl _ _)⟩
  case round =>
    obtain ⟨j, hj, rfl, hT, hG⟩ := hrel
    by_cases hlt : j < l.length
    · obtain ⟨x, hx⟩ : ∃ x, l[j]? = some x := ⟨_, List.getElem?_eq_getElem hlt⟩
      have HT := Lib.hid (clsT_succ hx)
      have HF := Lib.hid (fun hc => HNO.out j x hx hc)
      obtain ⟨b0, off, rfl, hc⟩ := (K1.out.grown hG.out).at hx
      have c0 : wr.cell? ⟨b0, off + j * 7, none⟩ = some (.int .i64 x.o) := hc 0 _ rfl
      have c1 := hc 1 _ rfl
      have c2 := hc 2 _ rfl
      have c3 := hc 3 _ rfl
      have c4 := hc 4 _ rfl
      have c5 := hc 5 _ rfl
      have c6 := hc 6 _ rfl
      have ga := World.grownBy_alloc wr (.cells #[.int .i64 x.o, .int .i64 x.x, .int .i64 x.y, .int .u64 (wd x.s 0), .int .u64 (wd x.s 1), .int .u64 (wd x.s 2), .int .u64 (wd x.s 3)] 53) none
      have B3 := Lib.hid (heap_alloc_new wr (.cells #[.int .i64 x.o, .int .i64 x.x, .int .i64 x.y, .int .u64 (wd x.s 0), .int .u64 (wd x.s 1), .int .u64 (wd x.s 2), .int .u64 (wd x.s 3)] 53))
      have CI := Lib.hid (cLeads x j q (some ⟨b0, off, none⟩) l.length c (wr.alloc (.cells #[.int .i64 x.o, .int .i64 x.x, .int .i64 x.y, .int .u64 (wd x.s 0), .int .u64 (wd x.s 1), .int .u64 (wd x.s 2), .int .u64 (wd x.s 3)] 53)) hlt HM.out (ga.cell (hG.out.cell CQ.out (by simp)) (by simp)))
      have G3 := Lib.hid (hG.out.trans ga)
      clear hc hx ga
      go_upto_region 5 with fail
      clear c0 c1 c2 c3 c4 c5 c6
      generalize wr.alloc _ = w4 at B3 CI G3 ⊢
      generalize wr.heap.size = q4 at B3 ⊢
      obtain ⟨c0, c1, c2, c3, c4, c5, c6⟩ := seven_cells B3.out
      generalize leadB l.length j x = b at CI HT HF
      cases b
      · have HE := Lib.hid (show false = z from (HF.out rfl).symm)
        go_wp2_with (go_at_call 28; refine CI.out.mono ?_; rintro e w5 ⟨rfl, g5⟩; have G5 := Lib.hid (G3.out.trans g5); clear g5)
        go_ret
        exact ⟨ret_bool HE.out, G1.out.trans G5.out⟩
      · go_wp2_with (go_at_call 28; refine CI.out.mono ?_; rintro e w5 ⟨rfl, g5⟩; have G5 := Lib.hid (G3.out.trans g5); clear g5)
        go_roundw
        case rel => exact ⟨j + 1, by omega, by go_num, Lib.hid (by rw [HT.out, hT.out]; rfl), G5⟩
        case measure => simp [intOf]; omega
    · obtain rfl : j = l.length := by omega
      have HE := Lib.hid (show decide (0 < l.length) = z by rw [HZ.out, hT.out, Bool.and_true])
      have cq := hG.out.cell CQ.out (by simp)
      go_wp2
      go_ret
      exact ⟨ret_bool HE.out, G1.out.trans hG.out⟩

/-! same -/
set_option maxRecDepth 100000 in
set_option maxHeartbeats 4000000 in
theorem lSameP (v v' : Value) (l : List Ins) (w : World) (hm : l.length ≤ maxLen) (h : CRow w v l) (h' : CRow w v' l) :
    Calls Tryd.prog 11 #[v, v'] w fun e w' => e = .returned (.bool true) ∧ w.grownBy w' none := by
  obtain ⟨a, c, rfl⟩ := h.shape
  obtain ⟨a', c', rfl⟩ := h'.shape
  unfold maxLen at hm
  have K1 := Lib.hid h; have K2 := Lib.hid h'
  clear h h'
  go_enter Tryd.func11, Tryd.ntmps11
  go_wp2
  go_loopw [5, 6, 14] (fun _ _ i wr => ∃ j : Nat, j ≤ l.length ∧ i = .int .i64 j ∧ Hid (w.grownBy wr none)) (fun _ _ i _ => l.length - (intOf i).toNat)
  case atStart => exact ⟨0, Nat.zero_le _, rfl, Lib.hid (World.grownBy.refl _ _)⟩
  case round =>
    obtain ⟨j, hj, rfl, hG⟩ := hrel
    by_cases hlt : j < l.length
    · obtain ⟨x, hx⟩ : ∃ x, l[j]? = some x := ⟨_, List.getElem?_eq_getElem hlt⟩
      obtain ⟨b0, off, rfl, hc⟩ := (K1.out.grown hG.out).at hx
      obtain ⟨b1, off1, rfl, hd⟩ := (K2.out.grown hG.out).at hx
      have c0 : wr.cell? ⟨b0, off + j * 7, none⟩ = some (.int .i64 x.o) := hc 0 _ rfl
      have c1 := hc 1 _ rfl
      have c2 := hc 2 _ rfl
      have c3 := hc 3 _ rfl
      have c4 := hc 4 _ rfl
      have c5 := hc 5 _ rfl
      have c6 := hc 6 _ rfl
      have ga := World.grownBy_alloc wr (.cells #[.int .i64 x.o, .int .i64 x.x, .int .i64 x.y, .int .u64 (wd x.s 0), .int .u64 (wd x.s 1), .int .u64 (wd x.s 2), .int .u64 (wd x.s 3)] 53) none
      have B3 := Lib.hid (heap_alloc_new wr (.cells #[.int .i64 x.o, .int .i64 x.x, .int .i64 x.y, .int .u64 (wd x.s 0), .int .u64 (wd x.s 1), .int .u64 (wd x.s 2), .int .u64 (wd x.s 3)] 53))
      have d0 : (wr.alloc (.cells #[.int .i64 x.o, .int .i64 x.x, .int .i64 x.y, .int .u64 (wd x.s 0), .int .u64 (wd x.s 1), .int .u64 (wd x.s 2), .int .u64 (wd x.s 3)] 53)).cell? ⟨b1, off1 + j * 7, none⟩ = some (.int .i64 x.o) := ga.cell (hd 0 _ rfl) (by simp)
      have d1 := ga.cell (hd 1 _ rfl) (by simp)
      have d2 := ga.cell (hd 2 _ rfl) (by simp)
      have d3 := ga.cell (hd 3 _ rfl) (by simp)
      have d4 := ga.cell (hd 4 _ rfl) (by simp)
      have d5 := ga.cell (hd 5 _ rfl) (by simp)
      have d6 := ga.cell (hd 6 _ rfl) (by simp)
      have G3 := Lib.hid (hG.out.trans ga)
      clear hc hx ga hd
      go_upto_region 6 with fail
      clear c0 c1 c2 c3 c4 c5 c6
      generalize wr.alloc _ = w4 at B3 G3 d0 d1 d2 d3 d4 d5 d6 ⊢
      generalize wr.heap.size = q4 at B3 ⊢
      obtain ⟨c0, c1, c2, c3, c4, c5, c6⟩ := seven_cells B3.out
      have he := eq_run 29 Tryd.underlying29 x.s x.s
      rw [show (x.s == x.s) = true by simp] at he
      go_quiet (fail)
      go_wp2
      go_roundw
      case rel => exact ⟨j + 1, by omega, by go_num, Lib.hid (grown_drewN G3.out _)⟩
      case measure => simp [intOf]; omega
    · obtain rfl : j = l.length := by omega
      go_wp2
      go_ret
      exact ⟨rfl, hG.out⟩
end Go.Proofs.YtliefnjhobdphaaDoor

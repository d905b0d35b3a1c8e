/- The reader: branches and expressions. The reader: expressions, by induction. Nodes counted and compared (plain). Nodes counted: Size, Groups. Parse. -/
import Derived.Test.YtlkjejmmoalliaaGreatDoorRexQ
import Derived.Test.YtlkjejmmoalliaaGreatDoorRexI
import Derived.Test.YtlkjejmmoalliaaGreatDoorGrown
import Derived.StillTailTactics
namespace Go.Proofs.YtlkjejmmoalliaaGreatDoor
open Go.RowKit

theorem cMoreBr (r q k : Nat) (s : ByteArray) (i c : Nat) (L : List Nd) (j c2 : Nat) (w : World) (hq : w.cell? ⟨q, 0, none⟩ = some (.pointer (some ⟨r, 0, none⟩))) (h : Rd w r s j c2) (hI : BrI s i c L j c2) :
    Calls Tryz.prog 47 #[.int .i64 k, .pointer (some ⟨q, 0, none⟩)] w (MoreOut r s w (BrM s i c L) (BrD s i c L)) := by
  obtain ⟨c0, c1⟩ := two_cells h.B
  have H := Lib.hid h
  have HI := Lib.hid hI
  have C := Lib.hid (fun w h => seen_bar s j ▸ cSees ⟨#[124, 41]⟩ r s j c2 w h)
  clear h hI
  by_cases hj : j < s.size
  · have hE := rest_ne s hj
    cases hs : (nxt s j 124 || nxt s j 41) with
    | true =>
      have HD := Lib.hid (show BrD s i c L j c2 from ⟨HI.out, fun _ => by simp only [Bool.or_eq_true] at hs; exact hs.symm⟩)
      rw [hs] at C
      clear hs hj
      generalize s.extract j s.size = t at c0 hE
      go_enter Tryz.func47, Tryz.ntmps47
      go_wp2_with (go_at_call 48; refine (C.out _ H.out).mono ?_; rintro e w' ⟨rfl, rfl⟩)
      go_ret
      exact ⟨World.grownBy.refl _ _, .inr ⟨rfl, j, c2, H.out, HD.out⟩⟩
    | false =>
      have HM := Lib.hid (show BrM s i c L j c2 from ⟨HI.out, hj, by simp only [Bool.or_eq_false_iff] at hs; exact hs.2, by simp only [Bool.or_eq_false_iff] at hs; exact hs.1⟩)
      rw [hs] at C
      clear hs hj
      generalize s.extract j s.size = t at c0 hE
      go_enter Tryz.func47, Tryz.ntmps47
      go_wp2_with (go_at_call 48; refine (C.out _ H.out).mono ?_; rintro e w' ⟨rfl, rfl⟩)
      go_ret
      exact ⟨World.grownBy.refl _ _, .inl ⟨rfl, j, c2, H.out, HM.out⟩⟩
  · have hE := rest_no s hj
    have HD := Lib.hid (show BrD s i c L j c2 from ⟨HI.out, fun h => absurd h hj⟩)
    clear hj
    generalize s.extract j s.size = t at c0 hE
    go_enter Tryz.func47, Tryz.ntmps47
    go_wp2
    go_ret
    exact ⟨World.grownBy.refl _ _, .inr ⟨rfl, j, c2, H.out, HD.out⟩⟩

theorem cMoreEx (r q : Nat) (s : ByteArray) (i c : Nat) (L : List Nd) (j c2 : Nat) (w : World) (hq : w.cell? ⟨q, 0, none⟩ = some (.pointer (some ⟨r, 0, none⟩))) (h : Rd w r s j c2) (hI : ExI s i c L j c2) :
    Calls Tryz.prog 24 #[.int .i64 (L.length : Nat), .pointer (some ⟨q, 0, none⟩)] w (MoreOut r s w (ExM s i c L) (ExD s i c L)) := by
  have H := Lib.hid h
  have HI := Lib.hid hI
  clear h hI
  cases L with
  | nil =>
    have HM := Lib.hid (ex_first HI.out)
    go_enter Tryz.func24, Tryz.ntmps24
    go_wp2
    go_ret
    exact ⟨World.grownBy.refl _ _, .inl ⟨rfl, j, c2, H.out, HM.out⟩⟩
  | cons n L =>
    have hk : (((n :: L).length : Int) == 0) = false := by simp; omega
    cases hn : nxt s j 124 with
    | true =>
      have H9 := Lib.hid hn
      have HM := Lib.hid (ex_bar HI.out (by simp) hn)
      clear hn
      generalize (n :: L).length = k at hk
      go_enter Tryz.func24, Tryz.ntmps24
      go_wp2_with (go_at_call 25; refine (cTake1 124 _ _ _ _ _ H.out H9.out).mono ?_; rintro e w8 ⟨rfl, r8, g8⟩; have R8 := Lib.hid r8; have G8 := Lib.hid g8; clear r8 g8)
      go_ret
      exact ⟨G8.out, .inl ⟨rfl, j + 1, c2, R8.out, HM.out⟩⟩
    | false =>
      have H9 := Lib.hid hn
      have HD := Lib.hid (ex_stop HI.out (by simp) hn)
      clear hn
      generalize (n :: L).length = k at hk
      go_enter Tryz.func24, Tryz.ntmps24
      go_wp2_with (go_at_call 25; refine (cTake0 124 _ _ _ _ _ H.out H9.out).mono ?_; rintro e w8 ⟨rfl, rfl⟩)
      go_ret
      exact ⟨World.grownBy.refl _ _, .inr ⟨rfl, j, c2, H.out, HD.out⟩⟩

set_option maxRecDepth 100000 in
set_option maxHeartbeats 2000000 in
theorem cBranch (r : Nat) (s : ByteArray) (i c : Nat) (w : World) (h : Rd w r s i c) (hE : RepEnv w) (hr : r ≠ 18)
    (hx : ∀ j c w, i < j → RepEnv w → Rd w r s j c → Calls Tryz.prog 12 #[.pointer (some ⟨r, 0, none⟩)] w (NdOut r s w (ExP s j c))) :
    Calls Tryz.prog 23 #[.pointer (some ⟨r, 0, none⟩)] w (NdOut r s w (BrP s i c)) := by
  have hlt := h.lt
  have hmf : ∀ (fn : Fn) (first cap : Array Value) (w : World), (Instr.makeFunc fn first cap).run Tryz.prog w = .ok (.func fn first cap) w := fun _ _ _ _ => rfl
  have e1 : ∀ args w, (callFunc 47 args).run Tryz.prog w = .ok (.enter 47 args) w := enters_of Tryz.func47 (by kernel_rfl) rfl
  have e2 : ∀ args w, (callFunc 46 args).run Tryz.prog w = .ok (.enter 46 args) w := enters_of Tryz.func46 (by kernel_rfl) rfl
  have EN1 := Lib.hid e1; have EN2 := Lib.hid e2
  clear e1 e2
  obtain ⟨b1, b2, gg⟩ := heap2 w (.cells #[.pointer (some ⟨r, 0, none⟩)] 63) (.cells #[.int .i64 0, .int .i64 0, .int .u64 0, .int .u64 0, .int .u64 0, .int .u64 0, .slice none 0 0] 28)
  have HX := Lib.hid hx; have HRR := Lib.hid hr
  have H := Lib.hid h; have HE := Lib.hid hE
  clear h hE hx hr
  go_enter Tryz.func23, Tryz.ntmps23
  go_upto_region 1 with fail
  generalize (w.alloc _).alloc _ = w1 at b1 b2 gg ⊢
  obtain ⟨q, eq⟩ : ∃ q, q = w.heap.size := ⟨_, rfl⟩
  obtain ⟨g, eg⟩ : ∃ g, g = w.heap.size + 1 := ⟨_, rfl⟩
  rw [← eg] at b2 ⊢
  rw [← eq] at b1 ⊢
  have HG := Lib.hid (show w.heap.size ≤ g ∧ g ≠ r ∧ q ≠ r by omega)
  have B1 := Lib.hid b1; have B2 := Lib.hid b2; have GG := Lib.hid gg
  have R1 := Lib.hid (H.out.kept gg); have E1 := Lib.hid (HE.out.kept gg (by simp))
  have HW := Lib.hid gg.size
  have HGL := Lib.hid (Array.getElem?_eq_some_iff.1 b2).1
  have c0 : w1.cell? ⟨q, 0, none⟩ = some (.pointer (some ⟨r, 0, none⟩)) := cell_of_one b1
  clear eq eg b1 b2 gg hlt
  have CROW := Lib.hid (cRow 2 46 47 #[.pointer (some ⟨r, 0, none⟩)] #[] #[] #[.pointer (some ⟨q, 0, none⟩)] #[.pointer (some ⟨r, 0, none⟩)] (fun k => #[.int .i64 k, .pointer (some ⟨q, 0, none⟩)]) r s i c w1 (by simp) (fun k => by simp) EN2.out EN1.out (BrP s i c none) (BrI s i c) (BrM s i c) (BrD s i c) R1.out E1.out HRR.out (br_start s i c) (fun L j c h => by have := h.1; omega)
    (fun L j c2 wr hI hR _ hg => cMoreBr r q L.length s i c L j c2 wr (hg.cell (cell_of_one B1.out) (by simp only [ne_eq, Option.some.injEq]; exact HG.out.2.2)) hR hI)
    (fun L j c2 wr hM hR hE _ => (cItem r s j c2 wr hR hM.2.1 hM.2.2.1 hM.2.2.2 hE HRR.out (fun w hE h => HX.out (j + 1) (c2 + 1) w (by have := hM.1.1; omega) hE h)).mono fun e w' ho => ho.mono fun o hp => by
      cases o with
      | none => exact br_bad hM hp
      | some x => obtain ⟨n, j', c'⟩ := x; exact br_on hM hp))
  go_wp2_with fail
  refine CROW.out.mono ?_
  rintro e w3 ho
  have ho := ho.mono (Q := BrP s i c) fun o hp => by
    cases o with
    | none => exact hp
    | some x => obtain ⟨n, j', c'⟩ := x; obtain ⟨L, rfl, hd⟩ := hp; exact br_end hd
  obtain ⟨g3, ⟨n, a, m, k, rfl, hp⟩ | ⟨n, a, m, k, j, c2, rfl, hk, r3, hp⟩⟩ := ho
  · have B5 := Lib.hid (heap_row g3 HG.out.2.1 B2.out)
    have G5 := Lib.hid (grown_into GG.out g3)
    have HP := Lib.hid hp
    clear g3 hp CROW c0
    obtain ⟨r0, r1, r2, r3, r4, r5, r6⟩ := seven_cells B5.out
    have fr := four_free B5.out
    go_wp2
    refine bodyPost_ret (v := .tuple #[ndV n (.slice a m k), .bool false]) (back_nd2 28 Tryz.underlying28 sizeNd28 Tryz.results23 rfl rfl (set_seven B5.out _ _ _ _ _ _ _)) rfl ?_
    exact ⟨grown_seven G5.out _ _ _ _ _ _ _ HG.out.1, .inl ⟨n, a, m, k, rfl, HP.out⟩⟩
  · have B5 := Lib.hid (heap_row g3 HG.out.2.1 B2.out)
    have G5 := Lib.hid (grown_into GG.out g3)
    have HP := Lib.hid hp
    have R5 := Lib.hid r3
    have K5 := Lib.hid (hk.weak (q := fun b => w.heap.size ≤ b ∧ b ≠ g) fun b _ hb => by
      have := HW.out; have := HGL.out; omega)
    clear g3 hp r3 hk CROW c0
    obtain ⟨r0, r1, r2, r3, r4, r5, r6⟩ := seven_cells B5.out
    have fr := four_free B5.out
    go_wp2
    refine bodyPost_ret (v := .tuple #[ndV n (.slice a m k), .bool true]) (back_nd2 28 Tryz.underlying28 sizeNd28 Tryz.results23 rfl rfl (set_seven B5.out _ _ _ _ _ _ _)) rfl ?_
    exact ⟨grown_seven G5.out _ _ _ _ _ _ _ HG.out.1, .inr ⟨n, a, m, k, j, c2, rfl, (K5.out.seven _ _ _ _ _ _ _ fun b hb => hb.2).weak fun b _ hb => hb.1, R5.out.seven _ _ _ _ _ _ _ (Ne.symm HG.out.2.1), HP.out⟩⟩
end Go.Proofs.YtlkjejmmoalliaaGreatDoor

namespace Go.Proofs.YtlkjejmmoalliaaGreatDoor
open Go.RowKit

set_option maxRecDepth 100000 in
set_option maxHeartbeats 2000000 in
theorem cExprOne (r : Nat) (s : ByteArray) (i c : Nat) (w : World) (h : Rd w r s i c) (hE : RepEnv w) (hr : r ≠ 18)
    (hx : ∀ j c w, i < j → RepEnv w → Rd w r s j c → Calls Tryz.prog 12 #[.pointer (some ⟨r, 0, none⟩)] w (NdOut r s w (ExP s j c))) :
    Calls Tryz.prog 12 #[.pointer (some ⟨r, 0, none⟩)] w (NdOut r s w (ExP s i c)) := by
  have hlt := h.lt
  have hmf : ∀ (fn : Fn) (first cap : Array Value) (w : World), (Instr.makeFunc fn first cap).run Tryz.prog w = .ok (.func fn first cap) w := fun _ _ _ _ => rfl
  have e1 : ∀ args w, (callFunc 24 args).run Tryz.prog w = .ok (.enter 24 args) w := enters_of Tryz.func24 (by kernel_rfl) rfl
  have e2 : ∀ args w, (callFunc 23 args).run Tryz.prog w = .ok (.enter 23 args) w := enters_of Tryz.func23 (by kernel_rfl) rfl
  have EN1 := Lib.hid e1; have EN2 := Lib.hid e2
  clear e1 e2
  obtain ⟨b1, b2, gg⟩ := heap2 w (.cells #[.pointer (some ⟨r, 0, none⟩)] 63) (.cells #[.int .i64 0, .int .i64 0, .int .u64 0, .int .u64 0, .int .u64 0, .int .u64 0, .slice none 0 0] 28)
  have HX := Lib.hid hx; have HRR := Lib.hid hr
  have H := Lib.hid h; have HE := Lib.hid hE
  clear h hE hx hr
  go_enter Tryz.func12, Tryz.ntmps12
  go_upto_region 1 with fail
  generalize (w.alloc _).alloc _ = w1 at b1 b2 gg ⊢
  obtain ⟨q, eq⟩ : ∃ q, q = w.heap.size := ⟨_, rfl⟩
  obtain ⟨g, eg⟩ : ∃ g, g = w.heap.size + 1 := ⟨_, rfl⟩
  rw [← eg] at b2 ⊢
  rw [← eq] at b1 ⊢
  have HG := Lib.hid (show w.heap.size ≤ g ∧ g ≠ r ∧ q ≠ r by omega)
  have B1 := Lib.hid b1; have B2 := Lib.hid b2; have GG := Lib.hid gg
  have R1 := Lib.hid (H.out.kept gg); have E1 := Lib.hid (HE.out.kept gg (by simp))
  have HW := Lib.hid gg.size
  have HGL := Lib.hid (Array.getElem?_eq_some_iff.1 b2).1
  have c0 : w1.cell? ⟨q, 0, none⟩ = some (.pointer (some ⟨r, 0, none⟩)) := cell_of_one b1
  clear eq eg b1 b2 gg hlt
  have CROW := Lib.hid (cRow 3 23 24 #[.pointer (some ⟨r, 0, none⟩)] #[] #[] #[.pointer (some ⟨q, 0, none⟩)] #[.pointer (some ⟨r, 0, none⟩)] (fun k => #[.int .i64 k, .pointer (some ⟨q, 0, none⟩)]) r s i c w1 (by simp) (fun k => by simp) EN2.out EN1.out (ExP s i c none) (ExI s i c) (ExM s i c) (ExD s i c) R1.out E1.out HRR.out (ex_start s i c) (fun L j c h => by rcases h with ⟨rfl, -⟩ | ⟨al, l, rfl, h, -⟩ <;> simp <;> omega)
    (fun L j c2 wr hI hR _ hg => cMoreEx r q s i c L j c2 wr (hg.cell (cell_of_one B1.out) (by simp only [ne_eq, Option.some.injEq]; exact HG.out.2.2)) hR hI)
    (fun L j c2 wr hM hR hE _ => (cBranch r s j c2 wr hR hE HRR.out (fun j' c' w hj hE h => HX.out j' c' w (by have := hM.1; omega) hE h)).mono fun e w' ho => ho.mono fun o hp => by
      cases o with
      | none => exact ex_bad hM hp
      | some x => obtain ⟨n, j', c'⟩ := x; exact ex_on hM hp))
  go_wp2_with fail
  refine CROW.out.mono ?_
  rintro e w3 ho
  have ho := ho.mono (Q := ExP s i c) fun o hp => by
    cases o with
    | none => exact hp
    | some x => obtain ⟨n, j', c'⟩ := x; obtain ⟨L, rfl, hd⟩ := hp; exact ex_end hd
  obtain ⟨g3, ⟨n, a, m, k, rfl, hp⟩ | ⟨n, a, m, k, j, c2, rfl, hk, r3, hp⟩⟩ := ho
  · have B5 := Lib.hid (heap_row g3 HG.out.2.1 B2.out)
    have G5 := Lib.hid (grown_into GG.out g3)
    have HP := Lib.hid hp
    clear g3 hp CROW c0
    obtain ⟨r0, r1, r2, r3, r4, r5, r6⟩ := seven_cells B5.out
    have fr := four_free B5.out
    go_wp2
    refine bodyPost_ret (v := .tuple #[ndV n (.slice a m k), .bool false]) (back_nd2 28 Tryz.underlying28 sizeNd28 Tryz.results12 rfl rfl (set_seven B5.out _ _ _ _ _ _ _)) rfl ?_
    exact ⟨grown_seven G5.out _ _ _ _ _ _ _ HG.out.1, .inl ⟨n, a, m, k, rfl, HP.out⟩⟩
  · have B5 := Lib.hid (heap_row g3 HG.out.2.1 B2.out)
    have G5 := Lib.hid (grown_into GG.out g3)
    have HP := Lib.hid hp
    have R5 := Lib.hid r3
    have K5 := Lib.hid (hk.weak (q := fun b => w.heap.size ≤ b ∧ b ≠ g) fun b _ hb => by
      have := HW.out; have := HGL.out; omega)
    clear g3 hp r3 hk CROW c0
    obtain ⟨r0, r1, r2, r3, r4, r5, r6⟩ := seven_cells B5.out
    have fr := four_free B5.out
    go_wp2
    refine bodyPost_ret (v := .tuple #[ndV n (.slice a m k), .bool true]) (back_nd2 28 Tryz.underlying28 sizeNd28 Tryz.results12 rfl rfl (set_seven B5.out _ _ _ _ _ _ _)) rfl ?_
    exact ⟨grown_seven G5.out _ _ _ _ _ _ _ HG.out.1, .inr ⟨n, a, m, k, j, c2, rfl, (K5.out.seven _ _ _ _ _ _ _ fun b hb => hb.2).weak fun b _ hb => hb.1, R5.out.seven _ _ _ _ _ _ _ (Ne.symm HG.out.2.1), HP.out⟩⟩

/-- an expression, wherever it begins -/
theorem cExprP (r : Nat) (s : ByteArray) (hr : r ≠ 18) : ∀ (m i c : Nat) (w : World), s.size - i < m → RepEnv w → Rd w r s i c →
    Calls Tryz.prog 12 #[.pointer (some ⟨r, 0, none⟩)] w (NdOut r s w (ExP s i c)) := by
  intro m
  induction m with
  | zero => intro i c w h _ _; omega
  | succ m ih =>
    intro i c w h hE hR
    exact cExprOne r s i c w hR hE hr fun j c' w' hj hE' hR' => ih j c' w' (by have := hR'.hi; omega) hE' hR'
end Go.Proofs.YtlkjejmmoalliaaGreatDoor

namespace Go.Proofs.YtlkjejmmoalliaaGreatDoor
open Go.RowKit

mutual
/-- how many nodes there are that f lets -/
def cntN (f : Nat → Bool) : Nd → Nat
  | .mk k _ _ l => (if f k then 1 else 0) + cntL f l
def cntL (f : Nat → Bool) : List Nd → Nat
  | [] => 0
  | n :: l => cntN f n + cntL f l
end
mutual
/-- two nodes compared -/
def eqN : Nd → Nd → Bool
  | .mk k i s l, .mk k' i' s' l' => k == k' && i == i' && s == s' && eqL l l'
def eqL : List Nd → List Nd → Bool
  | [], [] => true
  | n :: l, n' :: l' => eqN n n' && eqL l l'
  | [], _ :: _ => false
  | _ :: _, [] => false
end
theorem cntN_eq (f : Nat → Bool) (n : Nd) : cntN f n = (if f n.kind then 1 else 0) + cntL f n.kids := by
  obtain ⟨k, i, s, l⟩ := n; rw [cntN]; rfl
theorem cntL_append (f : Nat → Bool) (l r : List Nd) : cntL f (l ++ r) = cntL f l + cntL f r := by
  induction l with
  | nil => simp [cntL]
  | cons n l ih => rw [List.cons_append, cntL, cntL, ih]; omega
theorem cntL_take (f : Nat → Bool) {l : List Nd} {k : Nat} {n : Nd} (h : l[k]? = some n) : cntL f (l.take (k + 1)) = cntL f (l.take k) + cntN f n := by
  obtain ⟨hk, e⟩ := List.getElem?_eq_some_iff.1 h
  rw [List.take_succ_eq_append_getElem hk, e, cntL_append]; simp [cntL]
theorem cntL_mem (f : Nat → Bool) {l : List Nd} {n : Nd} (h : n ∈ l) : cntN f n ≤ cntL f l := by
  induction l with
  | nil => simp at h
  | cons m l ih =>
    rw [cntL]
    rcases List.mem_cons.1 h with rfl | h
    · omega
    · have := ih h; omega
theorem cntL_take_le (f : Nat → Bool) (l : List Nd) (k : Nat) : cntL f (l.take k) ≤ cntL f l := by
  have := cntL_append f (l.take k) (l.drop k)
  rw [List.take_append_drop] at this; omega
abbrev sizN (n : Nd) : Nat := cntN (fun _ => true) n
abbrev grpN (n : Nd) : Nat := cntN (fun k => k == 7) n
theorem cnt_le_siz (f : Nat → Bool) : ∀ (m : Nat) (n : Nd), sizN n ≤ m → cntN f n ≤ sizN n
  | 0, n, h => by rw [sizN, cntN_eq] at h; simp at h
  | m + 1, n, h => by
    unfold sizN at h ⊢
    rw [cntN_eq] at h ⊢
    rw [cntN_eq]
    have : ∀ l : List Nd, cntL (fun _ => true) l ≤ m → cntL f l ≤ cntL (fun _ => true) l := by
      intro l
      induction l with
      | nil => intro _; simp [cntL]
      | cons n l ih =>
        intro h
        rw [cntL] at h ⊢
        rw [cntL]
        have h1 := cnt_le_siz f m n (by unfold sizN; omega)
        have h2 := ih (by omega)
        unfold sizN at h1
        omega
    have := this n.kids (by simp at h; omega)
    split <;> simp <;> omega
theorem eqN_eq (a b : Nd) : eqN a b = (a.kind == b.kind && a.index == b.index && a.set == b.set && eqL a.kids b.kids) := by
  obtain ⟨k, i, s, l⟩ := a; obtain ⟨k', i', s', l'⟩ := b; rw [eqN]; rfl
theorem eqL_len : ∀ (l l' : List Nd), l.length ≠ l'.length → eqL l l' = false
  | [], [], h => absurd rfl h
  | [], _ :: _, _ => by rw [eqL]
  | _ :: _, [], _ => by rw [eqL]
  | n :: l, n' :: l', h => by rw [eqL, eqL_len l l' (by simpa using h)]; simp
/-- two rows that are as long, from a place on -/
theorem eqL_drop (l l' : List Nd) (k : Nat) {n n' : Nd} (h : l[k]? = some n) (h' : l'[k]? = some n') : eqL (l.drop k) (l'.drop k) = (eqN n n' && eqL (l.drop (k + 1)) (l'.drop (k + 1))) := by
  obtain ⟨hk, e⟩ := List.getElem?_eq_some_iff.1 h
  obtain ⟨hk', e'⟩ := List.getElem?_eq_some_iff.1 h'
  rw [List.drop_eq_getElem_cons hk, List.drop_eq_getElem_cons hk', e, e', eqL]
mutual
theorem eqN_refl : ∀ n : Nd, eqN n n = true
  | .mk k i s l => by rw [eqN, eqL_refl l]; simp
theorem eqL_refl : ∀ l : List Nd, eqL l l = true
  | [] => by rw [eqL]
  | n :: l => by rw [eqL, eqN_refl n, eqL_refl l]; rfl
end
/-! how many nodes and groups a run makes -/
theorem cnt_one (f : Nat → Bool) (m : Nat) (l : List Nd) (hf : f m = false) (h0 : f 0 = false) : cntN f (oneN m l) = cntL f l := by
  unfold oneN
  match l with
  | [] => simp [ndE, cntN, cntL, h0]
  | [n] => simp [cntL]
  | a :: b :: l => simp only; rw [cntN, hf]; simp
theorem siz_one (m : Nat) (l : List Nd) : sizN (oneN m l) ≤ cntL (fun _ => true) l + 1 := by
  unfold oneN sizN
  match l with
  | [] => simp [ndE, cntN, cntL]
  | [n] => simp [cntL]
  | a :: b :: l => simp only; rw [cntN]; simp; omega
/-- all that a machine holds -/
def stC (f : Nat → Bool) : List (List Nd × List Nd × Nat) → Nat
  | [] => 0
  | (al, it, _) :: r => cntL f al + cntL f it + stC f r
def mcC (f : Nat → Bool) (q : Mc) : Nat := stC f q.st + cntL f q.al + cntL f q.it
theorem last_cnt (f : Nat → Bool) {l : List Nd} {n : Nd} (h : l.getLast? = some n) : cntL f l = cntL f l.dropLast + cntN f n := by
  have hl : l ≠ [] := by rintro rfl; cases h
  have e : l.getLast hl = n := by rw [List.getLast?_eq_some_getLast hl] at h; exact Option.some.inj h
  conv => lhs; rw [← List.dropLast_concat_getLast hl]
  rw [cntL_append, e]; simp [cntL]
theorem step_grp {x : Sg} {q q' : Mc} (h : stepM x q = some q') : mcC (fun k => k == 7) q' + q'.st.length + q.c = mcC (fun k => k == 7) q + q.st.length + q'.c := by
  obtain ⟨st, al, it, c⟩ := q
  unfold stepM at h
  split at h
  · cases h; simp [mcC, cntL_append, cntL, cntN]
  split at h
  · cases h; simp [mcC, cntL_append, cntL, cntN]
  split at h
  · cases h; simp [mcC, cntL_append, cntL, cntN]
  split at h
  · split at h
    · cases h
    · rename_i n hn
      cases h
      have := last_cnt (fun k => k == 7) hn
      simp only at this
      have hk : ((if x.m = 43 then 5 else if x.m = 63 then 6 else 4 : Nat) == 7) = false := by split <;> (try split) <;> rfl
      simp only [mcC, cntL_append, cntL, cntN, hk]
      simp; omega
  split at h
  · cases h
    have := cnt_one (fun k => k == 7) 2 it rfl rfl
    rw [oneN_cat] at this
    simp only [mcC, cntL_append, cntL, this]; omega
  split at h
  · cases h; simp [mcC, stC, cntL]; omega
  split at h
  · split at h
    · cases h
    · rename_i al2 it2 i2 r hs
      simp only at hs
      cases h
      subst hs
      have h1 := cnt_one (fun k => k == 7) 2 it rfl rfl
      rw [oneN_cat] at h1
      have h2 := cnt_one (fun k => k == 7) 3 (al ++ [catN it]) rfl rfl
      rw [oneN_alt] at h2
      simp only [mcC, stC, cntL_append, cntL, cntN, h2, h1]
      simp; omega
  · cases h
theorem run_grp {l : List Sg} : ∀ {q q' : Mc}, runM l q = some q' → mcC (fun k => k == 7) q' + q'.st.length + q.c = mcC (fun k => k == 7) q + q.st.length + q'.c := by
  induction l with
  | nil => intro q q' h; cases h; rfl
  | cons x l ih =>
    intro q q' h
    have h : (stepM x q).bind (runM l) = some q' := h
    cases hq : stepM x q with
    | none => rw [hq] at h; cases h
    | some q1 => rw [hq] at h; have := step_grp hq; have := ih h; omega
theorem step_siz {x : Sg} {q q' : Mc} (h : stepM x q = some q') : mcC (fun _ => true) q' ≤ mcC (fun _ => true) q + 3 := by
  obtain ⟨st, al, it, c⟩ := q
  unfold stepM at h
  split at h
  · cases h; simp [mcC, cntL_append, cntL, cntN]; omega
  split at h
  · cases h; simp [mcC, cntL_append, cntL, cntN]; omega
  split at h
  · cases h; simp [mcC, cntL_append, cntL, cntN]; omega
  split at h
  · split at h
    · cases h
    · rename_i n hn
      cases h
      have := last_cnt (fun _ => true) hn
      simp only at this
      simp only [mcC, cntL_append, cntL, cntN]
      simp; omega
  split at h
  · cases h
    have := siz_one 2 it
    rw [oneN_cat] at this
    simp only [sizN] at this
    simp only [mcC, cntL_append, cntL]; omega
  split at h
  · cases h; simp [mcC, stC, cntL]; omega
  split at h
  · split at h
    · cases h
    · rename_i al2 it2 i2 r hs
      simp only at hs
      cases h
      subst hs
      have h1 := siz_one 2 it
      rw [oneN_cat] at h1
      have h2 := siz_one 3 (al ++ [catN it])
      rw [oneN_alt] at h2
      simp only [sizN, cntL_append, cntL] at h1 h2
      simp only [mcC, stC, cntL_append, cntL, cntN]
      simp; omega
  · cases h
theorem run_siz {l : List Sg} : ∀ {q q' : Mc}, runM l q = some q' → mcC (fun _ => true) q' ≤ mcC (fun _ => true) q + 3 * l.length := by
  induction l with
  | nil => intro q q' h; cases h; simp
  | cons x l ih =>
    intro q q' h
    have h : (stepM x q).bind (runM l) = some q' := h
    cases hq : stepM x q with
    | none => rw [hq] at h; cases h
    | some q1 => rw [hq] at h; have := step_siz hq; have := ih h; simp; omega
theorem res_grp {l : List Sg} {c : Nat} {n : Nd} (h : resE l c = some n) : grpN n = opnC l := by
  rw [resE_fin] at h
  cases hq : runM l ⟨[], [], [], c⟩ with
  | none => rw [hq] at h; cases h
  | some q =>
    have h1 := run_grp hq
    have h2 := (run_len hq).2
    rw [hq] at h
    obtain ⟨st, al, it, c'⟩ := q
    cases st with
    | cons f r => cases h
    | nil =>
      have h : some (altN (al ++ [catN it])) = some n := h
      cases h
      have e1 := cnt_one (fun k => k == 7) 2 it rfl rfl
      rw [oneN_cat] at e1
      have e2 := cnt_one (fun k => k == 7) 3 (al ++ [catN it]) rfl rfl
      rw [oneN_alt] at e2
      simp only [grpN]
      rw [e2, cntL_append]
      simp only [mcC, stC, cntL, List.length_nil] at h1 h2 ⊢
      omega
theorem res_siz {l : List Sg} {c : Nat} {n : Nd} (h : resE l c = some n) : sizN n ≤ 3 * l.length + 2 := by
  rw [resE_fin] at h
  cases hq : runM l ⟨[], [], [], c⟩ with
  | none => rw [hq] at h; cases h
  | some q =>
    have h1 := run_siz hq
    rw [hq] at h
    obtain ⟨st, al, it, c'⟩ := q
    cases st with
    | cons f r => cases h
    | nil =>
      have h : some (altN (al ++ [catN it])) = some n := h
      cases h
      have e1 := siz_one 2 it
      rw [oneN_cat] at e1
      have e2 := siz_one 3 (al ++ [catN it])
      rw [oneN_alt] at e2
      simp only [sizN, cntL_append, cntL] at e1 e2 ⊢
      simp only [mcC, stC, cntL] at h1
      omega
theorem sgn_len (s : ByteArray) : ∀ (m i : Nat) (l : List Sg), s.size - i ≤ m → sgn s i = some l → l.length ≤ s.size - i := by
  intro m
  induction m with
  | zero =>
    intro i l hm h
    rw [sgn_end (by omega)] at h
    cases h; simp
  | succ m ih =>
    intro i l hm h
    by_cases hi : i < s.size
    · have go : ∀ (j : Nat) (x : Sg), i < j → sgn s i = (sgn s j).map (x :: ·) → l.length ≤ s.size - i := by
        intro j x hj e
        rw [e] at h
        cases hs : sgn s j with
        | none => rw [hs] at h; cases h
        | some l' =>
          rw [hs] at h
          simp only [Option.map_some, Option.some.injEq] at h
          subst h
          have := ih j l' (by omega) hs
          by_cases hj2 : j ≤ s.size
          · simp; omega
          · rw [sgn_end (by omega)] at hs; cases hs; simp; omega
      by_cases h92 : s[i].toNat = 92
      · by_cases hi1 : i + 1 < s.size
        · exact go _ _ (by omega) (sgn_esc hi h92 hi1)
        · rw [sgn_escbad hi h92 hi1] at h; cases h
      by_cases h91 : s[i].toNat = 91
      · cases hc : clsP s (i + 1) with
        | none => rw [sgn_clsbad hi h91 hc] at h; cases h
        | some te =>
          obtain ⟨t, e⟩ := te
          have := cls_gt hc
          exact go _ _ (by omega) (sgn_cls hi h91 hc)
      by_cases h46 : s[i].toNat = 46
      · exact go _ _ (by omega) (sgn_dot hi h46)
      by_cases hmk : s[i].toNat = 40 ∨ s[i].toNat = 41 ∨ s[i].toNat = 124 ∨ s[i].toNat = 42 ∨ s[i].toNat = 43 ∨ s[i].toNat = 63 ∨ s[i].toNat = 94 ∨ s[i].toNat = 36
      · exact go _ _ (by omega) (sgn_mark hi hmk)
      · exact go _ _ (by omega) (sgn_lit hi (by omega))
    · rw [sgn_end hi] at h; cases h; simp
/-- the node of a text and the number of the error -/
def parN (s : ByteArray) : Nd × Nat :=
  if s.size > 60 then (ndE, 2) else match fin s 0 ⟨[], [], [], 0⟩ with
    | none => (ndE, 6)
    | some n => if grpN n > 9 then (ndE, 10) else (n, 0)
theorem fin_siz {s : ByteArray} {n : Nd} (h : fin s 0 ⟨[], [], [], 0⟩ = some n) : sizN n ≤ 3 * s.size + 2 := by
  rw [fin_start] at h
  cases hs : sgn s 0 with
  | none => rw [hs] at h; cases h
  | some l =>
    rw [hs] at h
    have h1 := sgn_len s _ 0 l (Nat.le_refl _) hs
    have h2 := res_siz (c := 0) h
    omega
theorem siz_E : sizN ndE = 1 := by simp [sizN, ndE, cntN, cntL]
theorem par_siz (s : ByteArray) : sizN (parN s).1 ≤ 200 := by
  unfold parN
  split
  · rw [siz_E]; omega
  · split
    · rw [siz_E]; omega
    · rename_i n hn
      split
      · rw [siz_E]; omega
      · have := fin_siz hn; simp only; omega
end Go.Proofs.YtlkjejmmoalliaaGreatDoor

namespace Go.Proofs.YtlkjejmmoalliaaGreatDoor
open Go.RowKit

theorem KidsAt.at {w : World} {p : Nat → Prop} {a : Option Addr} {m c k : Nat} {n : Nd} {l : List Nd} (h : KidsAt w p (.slice a m c) l) (hk : l[k]? = some n) :
    ∃ b off x y z, a = some ⟨b, off, none⟩ ∧ (∀ j u, (cells7 n (.slice x y z))[j]? = some u → w.cell? ⟨b, off + k * 7 + j, none⟩ = some u) ∧ KidsAt w p (.slice x y z) n.kids := by
  cases h with
  | empty => simp at hk
  | items b off c l kv hl hp hq hc hkk =>
    have h1 := hkk k n hk
    obtain ⟨x, z, e⟩ := h1.shape
    rw [e] at h1
    refine ⟨b, off, x, _, z, rfl, fun j u hu => hc k n hk j u ?_, h1⟩
    rw [e]; exact hu
/-- kids, wherever they lie -/
abbrev Kids (w : World) (v : Value) (l : List Nd) : Prop := KidsAt w (fun _ => True) v l
theorem KidsAt.any {w : World} {p : Nat → Prop} {v : Value} {l : List Nd} (h : KidsAt w p v l) : Kids w v l := h.weak fun _ _ _ => trivial
theorem KidsAt.len {w : World} {p : Nat → Prop} {a : Option Addr} {m c : Nat} {l : List Nd} (h : KidsAt w p (.slice a m c) l) : m = l.length := by
  obtain ⟨a', c', e⟩ := h.shape; cases e; rfl

set_option maxRecDepth 100000 in
set_option maxHeartbeats 4000000 in
theorem cCountN (f : Nat → Bool) (fn : Nat) (hent : ∀ args w, (callFunc fn args).run Tryz.prog w = .ok (.enter fn args) w)
    (hask : ∀ n a m k w, Calls Tryz.prog fn #[ndV n (.slice a m k)] w fun e w' => e = .returned (.bool (f n.kind)) ∧ w.grownBy w' none) :
    ∀ (N : Nat) (n : Nd) (a : Option Addr) (m k : Nat) (w : World), sizN n ≤ N → N ≤ 200 → Kids w (.slice a m k) n.kids →
    Calls Tryz.prog 26 #[ndV n (.slice a m k), .func (.func fn) #[] #[]] w fun e w' => e = .returned (.int .i64 (cntN f n)) ∧ w.grownBy w' none := by
  intro N
  induction N with
  | zero => intro n a m k w h _ _; rw [sizN, cntN_eq] at h; simp at h
  | succ N ih =>
    intro n a m k w hN hN2 hK
    obtain rfl := hK.len
    have HI := Lib.hid (fun n a m k w h hk => ih n a m k w h (by omega) hk)
    have hc1 := cnt_le_siz f _ n hN
    have HF := Lib.hid (cntN_eq f n)
    rw [cntN_eq] at hc1
    have hsz : sizN n = 1 + cntL (fun _ => true) n.kids := by rw [sizN, cntN_eq]; simp
    have HA := Lib.hid (hask n a n.kids.length k)
    obtain ⟨l, hl⟩ : ∃ l, n.kids = l := ⟨_, rfl⟩
    obtain ⟨b, hb⟩ : ∃ b, f n.kind = b := ⟨_, rfl⟩
    rw [hl] at hK hc1 hsz HF HA ⊢
    rw [hb] at HA hc1 HF
    have hl200 : l.length ≤ 200 := by
      have : ∀ l : List Nd, l.length ≤ cntL (fun _ => true) l := by
        intro l
        induction l with
        | nil => simp
        | cons n l ih => rw [cntL, cntN_eq]; simp; omega
      have := this l; omega
    obtain ⟨x, hx⟩ : ∃ x : Nat, x = (if b then 1 else 0) := ⟨_, rfl⟩
    rw [← hx] at hc1 HF
    have hB : x + cntL f l ≤ 200 := by omega
    have HB := Lib.hid hB
    have HS := Lib.hid (show ∀ n' ∈ l, sizN n' ≤ N by
      intro n' h'; have := cntL_mem (fun _ => true) h'; simp only [sizN] at hsz hN ⊢; omega)
    clear ih hN hN2 hc1 hsz hB hask hb
    have HL := Lib.hid hl
    clear hl
    have HEN := Lib.hid hent
    clear hent
    have ga := World.grownBy_alloc w (.cells #[.int .i64 n.kind, .int .i64 n.index, .int .u64 (wd n.set 0), .int .u64 (wd n.set 1), .int .u64 (wd n.set 2), .int .u64 (wd n.set 3), .slice a l.length k] 28) none
    have B1 := Lib.hid (heap_alloc_new w (.cells #[.int .i64 n.kind, .int .i64 n.index, .int .u64 (wd n.set 0), .int .u64 (wd n.set 1), .int .u64 (wd n.set 2), .int .u64 (wd n.set 3), .slice a l.length k] 28))
    have K1 := Lib.hid (hK.grown ga)
    have G1 := Lib.hid ga
    clear ga hK
    cases b
    all_goals
      obtain ⟨y, hy⟩ : ∃ y : Nat, y = x := ⟨_, rfl⟩
      rw [← hy] at HF HB
      simp only [if_true, if_false, Bool.false_eq_true] at hx
      subst hx
      have HY := Lib.hid hy
      have EN' := Lib.hid HEN.out
      go_enter Tryz.func26, Tryz.ntmps26
      have hen := HEN.out
      go_upto_region 1 with fail
      generalize w.alloc _ = w1 at B1 K1 G1 ⊢
      generalize w.heap.size = q at B1 ⊢
      obtain ⟨c0, c1, c2, c3, c4, c5, c6⟩ := seven_cells B1.out
      clear hy
      go_wp2_with fail
      refine (HA.out _).mono ?_
      rintro e w2 ⟨rfl, g2⟩
      have B2 := Lib.hid (heap_grown g2 B1.out)
      have K2 := Lib.hid (K1.out.grown g2)
      have G2 := Lib.hid (G1.out.trans g2)
      clear g2 c0 c1 c2 c3 c4 c5 c6 B1 K1 G1
      obtain ⟨c0, c1, c2, c3, c4, c5, c6⟩ := seven_cells B2.out
      go_wp2
      clear c0 c1 c2 c3 c4 c5 c6 hen
      go_loopw [5, 7, 16] (fun v _ i wr => ∃ j : Nat, j ≤ l.length ∧ i = .int .i64 j ∧ v = .int .i64 (y + cntL f (l.take j) : Nat) ∧ Hid (w2.grownBy wr none)) (fun _ _ i _ => l.length - (intOf i).toNat)
      case atStart => exact ⟨0, Nat.zero_le _, rfl, by rw [List.take_zero, cntL, HY.out]; rfl, Lib.hid (World.grownBy.refl _ _)⟩
      case round =>
        obtain ⟨j, hj, rfl, rfl, hG⟩ := hrel
        by_cases hlt : j < l.length
        · obtain ⟨n', hn'⟩ : ∃ n', l[j]? = some n' := ⟨_, List.getElem?_eq_getElem hlt⟩
          have HT := Lib.hid (cntL_take f hn')
          have HS' := Lib.hid (HS.out n' (List.mem_of_getElem? hn'))
          have hle := cntL_take_le f l (j + 1)
          rw [HT.out] at hle
          have hB := HB.out
          obtain ⟨b0, off, x0, y0, z0, rfl, hc, hk'⟩ := (K2.out.grown hG.out).at hn'
          have c0 : wr.cell? ⟨b0, off + j * 7, none⟩ = some (.int .i64 n'.kind) := hc 0 _ rfl
          have c1 := hc 1 _ rfl
          have c2 := hc 2 _ rfl
          have c3 := hc 3 _ rfl
          have c4 := hc 4 _ rfl
          have c5 := hc 5 _ rfl
          have c6 := hc 6 _ rfl
          have ga := World.grownBy_alloc wr (.cells #[.int .i64 n'.kind, .int .i64 n'.index, .int .u64 (wd n'.set 0), .int .u64 (wd n'.set 1), .int .u64 (wd n'.set 2), .int .u64 (wd n'.set 3), .slice x0 y0 z0] 28) none
          have K3 := Lib.hid (hk'.grown ga)
          have G3 := Lib.hid (hG.out.trans ga)
          obtain ⟨u, hu⟩ : ∃ u, u = cntL f (l.take j) := ⟨_, rfl⟩
          obtain ⟨v, hv⟩ : ∃ v, v = cntN f n' := ⟨_, rfl⟩
          rw [← hu, ← hv] at HT hle
          rw [← hu]
          have CI := Lib.hid (fun w => HI.out n' x0 y0 z0 w HS'.out)
          rw [← hv] at CI
          clear hc hk' hn' ga hu hv
          have hen := HEN.out
          go_wp2_with (go_at_call 26; refine (CI.out _ K3.out).mono ?_; rintro e w5 ⟨rfl, g5⟩; have G5 := Lib.hid (G3.out.trans g5); clear g5)
          go_roundw
          case rel => exact ⟨j + 1, by omega, by go_num, by rw [HT.out]; go_num, G5⟩
          case measure => simp [intOf]; omega
        · obtain rfl : j = l.length := by omega
          rw [List.take_length]
          have hB := HB.out
          go_wp2
          go_ret
          exact ⟨ret_int (by rw [HF.out]), G2.out.trans hG.out⟩
theorem cAskGroup (n : Nd) (a : Option Addr) (m k : Nat) (w : World) : Calls Tryz.prog 27 #[ndV n (.slice a m k)] w fun e w' => e = .returned (.bool ((fun k : Nat => k == 7) n.kind)) ∧ w.grownBy w' none := by
  have G := Lib.hid (World.grownBy_alloc w (.cells #[.int .i64 n.kind, .int .i64 n.index, .int .u64 (wd n.set 0), .int .u64 (wd n.set 1), .int .u64 (wd n.set 2), .int .u64 (wd n.set 3), .slice a m k] 28) none)
  have HK := Lib.hid (show ((n.kind : Int) == 7) = (n.kind == 7) by rw [Bool.eq_iff_iff]; simp; omega)
  go_enter Tryz.func27, Tryz.ntmps27
  go_wp2
  go_ret
  exact ⟨ret_bool HK.out, G.out⟩
theorem cGroups (n : Nd) (a : Option Addr) (m k : Nat) (w : World) (hs : sizN n ≤ 200) (hK : Kids w (.slice a m k) n.kids) :
    Calls Tryz.prog 13 #[ndV n (.slice a m k)] w fun e w' => e = .returned (.int .i64 (grpN n)) ∧ w.grownBy w' none := by
  have e1 : ∀ args w, (callFunc 27 args).run Tryz.prog w = .ok (.enter 27 args) w := enters_of Tryz.func27 (by kernel_rfl) rfl
  have ga := World.grownBy_alloc w (.cells #[.int .i64 n.kind, .int .i64 n.index, .int .u64 (wd n.set 0), .int .u64 (wd n.set 1), .int .u64 (wd n.set 2), .int .u64 (wd n.set 3), .slice a m k] 28) none
  have C := Lib.hid (cCountN (fun k => k == 7) 27 e1 cAskGroup 200 n a m k _ hs (Nat.le_refl _) (hK.grown ga))
  have G := Lib.hid ga
  clear ga hK e1
  generalize hz : cntN (fun k => k == 7) n = z at C
  have HZ := Lib.hid hz
  clear hz hs
  go_enter Tryz.func13, Tryz.ntmps13
  go_wp2_with (go_at_call 26; refine C.out.mono ?_; rintro e w5 ⟨rfl, g5⟩; have G5 := Lib.hid (G.out.trans g5); clear g5)
  go_ret
  exact ⟨ret_int (by rw [grpN, HZ.out]), G5.out⟩
end Go.Proofs.YtlkjejmmoalliaaGreatDoor

namespace Go.Proofs.YtlkjejmmoalliaaGreatDoor
open Go.RowKit

/-- the errors that Parse answers with -/
def L3 : List (Nat × Nat) := [(2, 0), (6, 1), (10, 2)]
/-- what Parse reads of the package's variables -/
structure PEnv (A : Nat → Addr) (w : World) : Prop where
  S : Sents L3 A w
  E : RepEnv w
theorem PEnv.grown {A : Nat → Addr} {w w' : World} (h : PEnv A w) (g : w.grownBy w' none) : PEnv A w' := ⟨h.S.grown g, h.E.kept g (by simp)⟩
/-- what Parse answers -/
def ParOut (A : Nat → Addr) (s : ByteArray) (e : Ending) (w' : World) : Prop :=
  ∃ a m k, e = .returned (.tuple #[ndV (parN s).1 (.slice a m k), errV A (parN s).2]) ∧ Kids w' (.slice a m k) (parN s).1.kids

theorem par_none {s : ByteArray} (h : ¬ s.size > 60) (hf : fin s 0 ⟨[], [], [], 0⟩ = none) : parN s = (ndE, 6) := by unfold parN; rw [if_neg h, hf]
theorem par_full {s : ByteArray} {n : Nd} (h : ¬ s.size > 60) (hf : fin s 0 ⟨[], [], [], 0⟩ = some n) (hg : grpN n > 9) : parN s = (ndE, 10) := by unfold parN; rw [if_neg h, hf]; simp only [if_pos hg]
theorem par_ok {s : ByteArray} {n : Nd} (h : ¬ s.size > 60) (hf : fin s 0 ⟨[], [], [], 0⟩ = some n) (hg : ¬ grpN n > 9) : parN s = (n, 0) := by unfold parN; rw [if_neg h, hf]; simp only [if_neg hg]
theorem all_rest (s : ByteArray) : s.extract 0 s.size = s := by simp
theorem rd_new (w : World) (s : ByteArray) (hs : s.size ≤ 60) : Rd (w.alloc (.cells #[.string s, .int .i64 0] 45)) w.heap.size s 0 0 := by
  have h := heap_alloc_new w (.cells #[.string s, .int .i64 0] 45)
  refine ⟨?_, Nat.zero_le _, hs, Nat.le_refl _⟩
  rw [all_rest, h]; rfl
theorem back_nd2d (T : TypeId) {fs : Array Field} (hT : Tryz.prog.underlying T = some (.struct fs)) (hi : (Tryz.prog.info? T).map (·.size) = some 7) {fn : Func} {p q : Tmp} {w : World} {g : Nat} {n : Nd} {kv v : Value} {tmps : Array Value} (hf : fn.results = #[.cell p T, .tmp q])
    (hp : tmps.getD p undef = .pointer (some ⟨g, 0, none⟩)) (hq : tmps.getD q undef = v) (hg : w.heap[g]? = some (.cells #[.int .i64 n.kind, .int .i64 n.index, .int .u64 (wd n.set 0), .int .u64 (wd n.set 1), .int .u64 (wd n.set 2), .int .u64 (wd n.set 3), kv] T (0, 0))) :
    (results fn tmps).run Tryz.prog w.drew = .ok (.tuple #[ndV n kv, v]) w.drew :=
  back_nd2 (w := w.drew) T hT hi hf hp hq hg
theorem err_apart {w : World} {b g : Nat} {u : TypeId} {x : Value} {y : Int} {k : IntKind} (h : w.cell? ⟨b, 0, none⟩ = some (.iface u x)) (h' : w.cell? ⟨g, 0, none⟩ = some (.int k y)) : b ≠ g := by
  rintro rfl; rw [h] at h'; cases h'

set_option maxRecDepth 100000 in
set_option maxHeartbeats 1600000 in
theorem cParse (A : Nat → Addr) (s : ByteArray) (w : World) (hs : s.size ≤ 100) (hE : PEnv A w) :
    Calls Tryz.prog 5 #[.string s] w fun e w' => ParOut A s e w' ∧ w.grownBy w' none := by
  have B3 := heap_alloc_new w (.cells #[.int .i64 0, .int .i64 0, .int .u64 0, .int .u64 0, .int .u64 0, .int .u64 0, .slice none 0 0] 28)
  have ga := World.grownBy_alloc w (.cells #[.int .i64 0, .int .i64 0, .int .u64 0, .int .u64 0, .int .u64 0, .int .u64 0, .slice none 0 0] 28) none
  have E1 := Lib.hid (hE.grown ga)
  have G := Lib.hid ga
  have HL := Lib.hid hE.E.lt
  clear hE ga
  go_enter Tryz.func5, Tryz.ntmps5
  go_upto_region 1 with fail
  generalize w.alloc _ = w1 at B3 G E1 ⊢
  obtain ⟨g, eg⟩ : ∃ g, g = w.heap.size := ⟨_, rfl⟩
  rw [← eg] at B3 ⊢
  have HR := Lib.hid (show w.heap.size ≤ g ∧ 18 < g by have := HL.out; omega)
  clear eg
  have HB := Lib.hid B3
  clear B3
  by_cases h60 : s.size > 60
  · have HP := Lib.hid (show parN s = (ndE, 2) by unfold parN; rw [if_pos h60])
    have h60' : decide ((s.size : Int) > 60) = true := by simp; omega
    obtain ⟨r0, r1, r2, r3, r4, r5, r6⟩ := seven_cells HB.out
    have fr := four_free HB.out
    have e2 : w1.cell? ⟨0, 0, none⟩ = some (.iface 148 (.pointer (some (A 2)))) := E1.out.S (2, _) (by simp [L3])
    have hg0 := err_apart e2 r0
    have hg1 := Ne.symm hg0
    go_wp2
    go_region
    go_wp2
    refine bodyPost_ret (v := .tuple #[ndV ndE (.slice none 0 0), .iface 148 (.pointer (some (A 2)))]) (back_nd2d 28 Tryz.underlying28 sizeNd28 Tryz.results5 rfl rfl (zero_seven HB.out)) rfl ?_
    exact ⟨⟨none, 0, 0, by rw [HP.out, errV_ne (by decide)], by rw [HP.out]; exact .empty none 0⟩, grown_drew (grown7 G.out HR.out.1)⟩
  · have h60' : decide ((s.size : Int) > 60) = false := by simp; omega
    have ga := World.grownBy_alloc w1 (.cells #[.string s, .int .i64 0] 45) none
    have R2 := Lib.hid (rd_new w1 s (by omega))
    have hgl := (Array.getElem?_eq_some_iff.1 HB.out).1
    have B2 := Lib.hid (heap_grown ga HB.out)
    have E2 := Lib.hid (E1.out.grown ga)
    have G2 := Lib.hid (G.out.trans ga)
    obtain ⟨r, er⟩ : ∃ r, r = w1.heap.size := ⟨_, rfl⟩
    have HRR := Lib.hid (show w.heap.size ≤ r ∧ r ≠ 18 ∧ g ≠ r by have := HR.out; have := G.out.size; omega)
    have H60 := Lib.hid h60
    clear ga hgl HB E1 h60 G
    rw [← er] at R2
    have HE := Lib.hid (fun w hE hR => cExprP r s HRR.out.2.1 (s.size + 1) 0 0 w (by omega) hE hR)
    go_upto_region 4 with fail
    rw [← er]
    clear er
    generalize w1.alloc _ = w2 at R2 B2 E2 G2 ⊢
    go_wp2_with fail
    refine (HE.out _ E2.out.E R2.out).mono ?_
    rintro e w3 ⟨g3, ⟨n, a, m, k, rfl, hp⟩ | ⟨n, a, m, k, j, c2, rfl, hk, r3, hp⟩⟩
    · have ga := World.grownBy_alloc w3 (.cells #[.int .i64 n.kind, .int .i64 n.index, .int .u64 (wd n.set 0), .int .u64 (wd n.set 1), .int .u64 (wd n.set 2), .int .u64 (wd n.set 3), .slice a m k] 28) none
      have B5 := Lib.hid (heap_grown ga (heap_row g3 HRR.out.2.2 B2.out))
      have G5 := Lib.hid ((grown_none G2.out g3 HRR.out.1).trans ga)
      have hne : ∀ q ∈ L3, some q.2 ≠ some r := fun q hq => by
        have := cell_block (E2.out.S q hq)
        have h1 := E2.out.S q hq
        intro e
        simp only [Option.some.injEq] at e
        rw [e, (two_cells R2.out.B).1] at h1
        cases h1
      have S5 := Lib.hid (((E2.out.S.kept g3 hne)).grown ga)
      have HP2 := Lib.hid (show parN s = (ndE, 6) from par_none H60.out (whole_bad hp))
      clear ga g3 hp hne
      obtain ⟨r0, r1, r2, r3, r4, r5, r6⟩ := seven_cells B5.out
      have fr := four_free B5.out
      have e2 := S5.out (6, _) (by simp [L3] : (6, 1) ∈ L3)
      simp only at e2
      have hg0 := err_apart e2 r0
      have hg1 := Ne.symm hg0
      go_wp2
      go_region
      go_wp2
      refine bodyPost_ret (v := .tuple #[ndV ndE (.slice none 0 0), .iface 148 (.pointer (some (A 6)))]) (back_nd2d 28 Tryz.underlying28 sizeNd28 Tryz.results5 rfl rfl (zero_seven B5.out)) rfl ?_
      exact ⟨⟨none, 0, 0, by rw [HP2.out, errV_ne (by decide)], by rw [HP2.out]; exact .empty none 0⟩, grown_drew (grown7 G5.out HR.out.1)⟩
    · have ga := World.grownBy_alloc w3 (.cells #[.int .i64 n.kind, .int .i64 n.index, .int .u64 (wd n.set 0), .int .u64 (wd n.set 1), .int .u64 (wd n.set 2), .int .u64 (wd n.set 3), .slice a m k] 28) none
      have B5 := Lib.hid (heap_grown ga (heap_row g3 HRR.out.2.2 B2.out))
      have G5 := Lib.hid ((grown_none G2.out g3 HRR.out.1).trans ga)
      have hne : ∀ q ∈ L3, some q.2 ≠ some r := fun q hq => by
        have h1 := E2.out.S q hq
        intro e
        simp only [Option.some.injEq] at e
        rw [e, (two_cells R2.out.B).1] at h1
        cases h1
      have S5 := Lib.hid (((E2.out.S.kept g3 hne)).grown ga)
      have R5 := Lib.hid (r3.kept ga)
      have N5 := Lib.hid (heap_alloc_new w3 (.cells #[.int .i64 n.kind, .int .i64 n.index, .int .u64 (wd n.set 0), .int .u64 (wd n.set 1), .int .u64 (wd n.set 2), .int .u64 (wd n.set 3), .slice a m k] 28))
      have K5 := Lib.hid ((hk.weak (q := fun b => b ≠ g) fun b _ hb => by
        have := (Array.getElem?_eq_some_iff.1 B2.out).1; omega).grown ga)
      have HW := Lib.hid hp
      clear ga g3 hp hne hk r3
      obtain ⟨q0, q1⟩ := two_cells R5.out.B
      by_cases hj : j < s.size
      · have HP2 := Lib.hid (show parN s = (ndE, 6) from par_none H60.out (whole_rest HW.out hj))
        have hE1 := rest_ne s hj
        clear hj
        generalize s.extract j s.size = t at q0 hE1
        obtain ⟨r0, r1, r2, r3, r4, r5, r6⟩ := seven_cells B5.out
        have fr := four_free B5.out
        have e2 := S5.out (6, _) (by simp [L3] : (6, 1) ∈ L3)
        simp only at e2
        have hg0 := err_apart e2 r0
        have hg1 := Ne.symm hg0
        go_wp2
        go_region
        go_wp2
        refine bodyPost_ret (v := .tuple #[ndV ndE (.slice none 0 0), .iface 148 (.pointer (some (A 6)))]) (back_nd2d 28 Tryz.underlying28 sizeNd28 Tryz.results5 rfl rfl (zero_seven B5.out)) rfl ?_
        exact ⟨⟨none, 0, 0, by rw [HP2.out, errV_ne (by decide)], by rw [HP2.out]; exact .empty none 0⟩, grown_drew (grown7 G5.out HR.out.1)⟩
      · have hfin := whole_all HW.out hj
        have HP3 := Lib.hid hfin
        have hsz := fin_siz hfin
        have HSZ := Lib.hid (show sizN n ≤ 200 by have := H60.out; omega)
        have hE1 := rest_no s hj
        have CG := Lib.hid (fun w h => cGroups n a m k w HSZ.out h)
        have HGS := Lib.hid (show grpN n ≤ 200 from Nat.le_trans (cnt_le_siz _ _ n (Nat.le_refl _)) HSZ.out)
        clear hj hfin hsz
        generalize s.extract j s.size = t at q0 hE1
        obtain ⟨n0, n1, n2, n3, n4, n5, n6⟩ := seven_cells N5.out
        obtain ⟨x, hx⟩ : ∃ x, x = grpN n := ⟨_, rfl⟩
        rw [← hx] at CG HGS
        have HX := Lib.hid hx
        clear hx
        by_cases h9 : x > 9
        · have h9' : decide ((x : Int) > 9) = true := by simp; omega
          have HP4 := Lib.hid (show parN s = (ndE, 10) from par_full H60.out HP3.out (by rw [← HX.out]; exact h9))
          clear h9 HP3
          go_upto_region 8 with (go_at_call 13; refine (CG.out _ K5.out.any).mono ?_; rintro e w6 ⟨rfl, g6⟩; have B6 := Lib.hid (heap_grown g6 B5.out); have G6 := Lib.hid (G5.out.trans g6); have S6 := Lib.hid (S5.out.grown g6); clear g6)
          clear q0 q1 n0 n1 n2 n3 n4 n5 n6
          obtain ⟨r0, r1, r2, r3, r4, r5, r6⟩ := seven_cells B6.out
          have fr := four_free B6.out
          have e2 := S6.out (10, _) (by simp [L3] : (10, 2) ∈ L3)
          simp only at e2
          have hg0 := err_apart e2 r0
          have hg1 := Ne.symm hg0
          go_region
          go_wp2
          refine bodyPost_ret (v := .tuple #[ndV ndE (.slice none 0 0), .iface 148 (.pointer (some (A 10)))]) (back_nd2d 28 Tryz.underlying28 sizeNd28 Tryz.results5 rfl rfl (zero_seven B6.out)) rfl ?_
          exact ⟨⟨none, 0, 0, by rw [HP4.out, errV_ne (by decide)], by rw [HP4.out]; exact .empty none 0⟩, grown_drew (grown7 G6.out HR.out.1)⟩
        · have h9' : decide ((x : Int) > 9) = false := by simp; omega
          have HP4 := Lib.hid (show parN s = (n, 0) from par_ok H60.out HP3.out (by rw [← HX.out]; exact h9))
          clear h9 HP3
          go_upto_region 9 with (go_at_call 13; refine (CG.out _ K5.out.any).mono ?_; rintro e w6 ⟨rfl, g6⟩; have B6 := Lib.hid (heap_grown g6 B5.out); have G6 := Lib.hid (G5.out.trans g6); have N6 := Lib.hid (heap_grown g6 N5.out); have K6 := Lib.hid (K5.out.grown g6); clear g6)
          clear q0 q1 n0 n1 n2 n3 n4 n5 n6
          obtain ⟨n0, n1, n2, n3, n4, n5, n6⟩ := seven_cells N6.out
          obtain ⟨r0, r1, r2, r3, r4, r5, r6⟩ := seven_cells B6.out
          have fr := four_free B6.out
          go_wp2
          refine bodyPost_ret (v := .tuple #[ndV n (.slice a m k), .nilIface]) (back_nd2 28 Tryz.underlying28 sizeNd28 Tryz.results5 rfl rfl (set_seven B6.out _ _ _ _ _ _ _)) rfl ?_
          exact ⟨⟨a, m, k, by rw [HP4.out, errV_zero], by rw [HP4.out]; exact (K6.out.seven _ _ _ _ _ _ _ fun b hb => hb).any⟩, grown7 G6.out HR.out.1⟩
end Go.Proofs.YtlkjejmmoalliaaGreatDoor

/- Walks of layer 9's small functions: places that keep nothing, with one more; the text's end; whether a way may go on; the first way of the stack. All ways at one place, plainly: the marks, how many are left, how the first way goes on. The way that is gone on with, in memory. -/
import Derived.Test.YtlkjejmmoalliaaGreatDoorPkMem
import Derived.Test.YtlkjejmmoalliaaGreatDoorPgWr
import Derived.StillTailTactics
namespace Go.Proofs.YtlkjejmmoalliaaGreatDoor
open Go.RowKit

def noK : List Int := List.replicate 20 (-1)
theorem infoPl : (Tryz.prog.info? 83).map (fun i => (i.zero, i.size)) = some (some (.agg (intsV (List.replicate 20 0)).toArray), 20) := by kernel_rfl
theorem intsV_setA (k : List Int) (j : Nat) (v : Int) : (intsV k).toArray.setIfInBounds j (.int .i64 v) = (intsV (k.set j v)).toArray := by
  rw [← intsV_set]; simp
theorem ints_cell {w : World} {b j : Nat} {k : List Int} {v : Int} {t : TypeId} (h : w.heap[b]? = some (.cells (intsV k).toArray t (0, 0))) (hj : k[j]? = some v) : w.cell? ⟨b, j, none⟩ = some (.int .i64 v) := by
  rw [cell_of_row w b j _ _ _ h]; simpa using intsV_get hj
def fillK (k : Nat) : List Int := List.replicate k (-1) ++ List.replicate (20 - k) 0
theorem fill_get {k : Nat} (h : k < 20) : (fillK k)[k]? = some 0 := by
  unfold fillK; rw [List.getElem?_append_right (by simp)]; rw [List.length_replicate, Nat.sub_self, List.getElem?_replicate, if_pos (by omega)]
theorem fill_set {k : Nat} (h : k < 20) : (fillK k).set k (-1) = fillK (k + 1) := by
  unfold fillK
  obtain ⟨m, hm⟩ : ∃ m, 20 - k = m + 1 := ⟨20 - k - 1, by omega⟩
  rw [hm, show 20 - (k + 1) = m by omega, List.replicate_succ, List.set_append_right _ _ (by simp), List.replicate_succ', List.append_assoc]
  simp

set_option maxRecDepth 100000 in
set_option maxHeartbeats 2000000 in
theorem cNothing (w : World) : Calls Tryz.prog 18 #[] w fun e w' => ∃ b, e = .returned (.pointer (some ⟨b, 0, none⟩)) ∧ w'.heap[b]? = some (.cells (intsV noK).toArray 83 (0, 0)) ∧ w.heap.size ≤ b ∧ w.grownBy w' none := by
  obtain ⟨hz, hs⟩ := zero_of_info infoPl
  obtain ⟨Z, hZ⟩ : ∃ Z, Z = (intsV (List.replicate 20 0)).toArray := ⟨_, rfl⟩
  have B1 := heap_alloc_new w (.cells Z 83)
  have G1 := World.grownBy_alloc w (.cells Z 83) none
  rw [← hZ] at hz
  have HB := Lib.hid (show (w.alloc (.cells Z 83)).heap[w.heap.size]? = some (.cells (intsV (fillK 0)).toArray 83 (0, 0)) by rw [B1, hZ]; rfl)
  have HG := Lib.hid G1
  clear hs B1 G1 hZ
  go_enter Tryz.func18, Tryz.ntmps18
  go_upto_region 2 with fail
  generalize w.alloc _ = w1 at HB HG ⊢
  obtain ⟨p, ep⟩ : ∃ p, p = w.heap.size := ⟨_, rfl⟩
  have HP := Lib.hid (show w.heap.size ≤ p by omega)
  rw [← ep] at HB ⊢
  clear ep hz
  go_wp2
  go_loopw [2, 3] (fun _ i wr => ∃ k : Nat, k ≤ 20 ∧ i = .int .i64 k ∧ Hid (w.grownBy wr none) ∧ Hid (wr.heap[p]? = some (.cells (intsV (fillK k)).toArray 83 (0, 0)))) (fun _ i _ => 20 - (intOf i).toNat)
  case atStart => exact ⟨0, by omega, rfl, HG, HB⟩
  case round =>
    obtain ⟨k, hk, rfl, hG, hB⟩ := hrel
    by_cases hlt : k < 20
    · have c0 := ints_cell hB.out (fill_get hlt)
      have f0 := four_free hB.out k
      have HN := Lib.hid ((heap_setCell_same wr p k _ _ (.int .i64 (-1)) hB.out).trans (by rw [intsV_setA, fill_set hlt]))
      have GN := Lib.hid (grown_set hG.out k (.int .i64 (-1)) HP.out)
      go_wp2
      go_roundw
      case rel => exact ⟨k + 1, by omega, by go_num, GN, HN⟩
      case measure => simp [intOf]; omega
    · obtain rfl : k = 20 := by omega
      go_wp2
      go_ret
      exact ⟨p, rfl, hB.out, HP.out, hG.out⟩

set_option maxRecDepth 100000 in
set_option maxHeartbeats 2000000 in
theorem cWith (k : List Int) (hk : k.length = 20) (x : Int) (q : Nat) (w : World) :
    Calls Tryz.prog 38 #[.agg (intsV k).toArray, .int .i64 x, .int .i64 q] w fun e w' => ∃ b, e = .returned (.pointer (some ⟨b, 0, none⟩)) ∧ w'.heap[b]? = some (.cells (intsV (keepK k x q)).toArray 83 (0, 0)) ∧ w.heap.size ≤ b ∧ w.grownBy w' none := by
  have HB := Lib.hid (heap_alloc_new w (.cells (intsV k).toArray 83))
  have HG := Lib.hid (World.grownBy_alloc w (.cells (intsV k).toArray 83) none)
  have HK := Lib.hid hk
  obtain ⟨Z, hZ⟩ : ∃ Z, Z = (intsV k).toArray := ⟨_, rfl⟩
  have HZ := Lib.hid hZ
  rw [← hZ] at HB HG ⊢
  clear hZ hk
  go_enter Tryz.func38, Tryz.ntmps38
  go_upto_region 1 with fail
  generalize w.alloc _ = w1 at HB HG ⊢
  obtain ⟨p, ep⟩ : ∃ p, p = w.heap.size := ⟨_, rfl⟩
  have HP := Lib.hid (show w.heap.size ≤ p by omega)
  rw [← ep] at HB ⊢
  clear ep
  have HB := Lib.hid (show w1.heap[p]? = some (.cells (intsV k).toArray 83 (0, 0)) by rw [HB.out, HZ.out])
  by_cases hx : 0 ≤ x ∧ x < 20
  · obtain ⟨x0, x20⟩ := hx
    obtain ⟨n, rfl⟩ : ∃ n : Nat, x = n := ⟨x.toNat, by omega⟩
    have hn : n < 20 := by omega
    have HE := Lib.hid (show keepK k n q = k.set n q by unfold keepK; rw [if_pos ⟨x0, x20⟩]; simp)
    obtain ⟨v, hv⟩ : ∃ v, k[n]? = some v := ⟨_, List.getElem?_eq_getElem (by rw [HK.out]; exact hn)⟩
    have c0 := ints_cell HB.out hv
    have f0 := four_free HB.out n
    have HN := Lib.hid ((heap_setCell_same w1 p n _ _ (.int .i64 q) HB.out).trans (by rw [intsV_setA, ← HE.out]))
    have GN := Lib.hid (grown_set HG.out n (.int .i64 q) HP.out)
    clear hv x0 x20
    go_wp2
    go_ret
    exact ⟨p, rfl, HN.out, HP.out, GN.out⟩
  · have HE := Lib.hid (show keepK k x q = k by unfold keepK; rw [if_neg hx])
    by_cases h0 : 0 ≤ x
    · have h20 : 20 ≤ x := by omega
      clear hx
      go_wp2
      go_ret
      exact ⟨p, rfl, by rw [HE.out]; exact HB.out, HP.out, HG.out⟩
    · clear hx
      go_wp2
      go_ret
      exact ⟨p, rfl, by rw [HE.out]; exact HB.out, HP.out, HG.out⟩

section
variable {w0 : World} {p q : Nat} {cv bv sv nv : Value} {s : ByteArray} {B : List Int} {S N : List Wx}
set_option maxRecDepth 100000 in
theorem cAtEnd (b : Bool) (w : World) (h : Wk w0 p cv s q bv B sv S nv N w) (hb : ((q : Int) == s.size) = b) :
    Calls Tryz.prog 39 #[.pointer (some ⟨p, 0, none⟩)] w fun e w' => e = .returned (.bool b) ∧ w.grownBy w' none := by
  obtain ⟨c0, c1, c2, c3, c4, c5⟩ := six_cells h.P
  clear h
  go_enter Tryz.func39, Tryz.ntmps39
  go_wp2
  go_quiet (fail)
  all_goals
    go_wp2
    go_ret
    exact ⟨rfl, grown_drewN (World.grownBy.refl _ _) _⟩

set_option maxRecDepth 100000 in
set_option maxHeartbeats 2000000 in
theorem cEntersNo (L : List Ins) (ca : Option Addr) (cc : Nat) (a : Int) (w : World) (h : Wk w0 p (.slice ca L.length cc) s q bv B sv S nv N w) (hB : B.length = L.length) (hb : a < 0 ∨ (L.length : Int) ≤ a ∨ (0 ≤ a ∧ a < L.length ∧ B[a.toNat]? = some (q : Int))) :
    Calls Tryz.prog 37 #[.pointer (some ⟨p, 0, none⟩), .int .i64 a] w fun e w' => e = .returned (.bool false) ∧ w.grownBy w' none := by
  obtain ⟨c0, c1, c2, c3, c4, c5⟩ := six_cells h.P
  by_cases h0 : a < 0
  · clear h hb
    have hd : decide (a < 0) = true := by simpa using h0
    go_enter Tryz.func37, Tryz.ntmps37
    go_wp2
    go_quiet (fail)
    all_goals
      go_wp2
      go_ret
      exact ⟨rfl, grown_drewN (World.grownBy.refl _ _) _⟩
  have hd0 : decide (a < 0) = false := by simpa using h0
  obtain ⟨n, rfl⟩ : ∃ n : Nat, a = n := ⟨a.toNat, by omega⟩
  by_cases h1 : L.length ≤ n
  · clear h hb h0
    have hd : decide ((n : Int) ≥ L.length) = true := by simp; omega
    go_enter Tryz.func37, Tryz.ntmps37
    go_wp2
    go_quiet (fail)
    all_goals
      go_wp2
      go_ret
      exact ⟨rfl, grown_drewN (World.grownBy.refl _ _) _⟩
  have hd1 : decide ((n : Int) ≥ L.length) = false := by simp; omega
  obtain ⟨-, -, hv⟩ : (0 : Int) ≤ n ∧ (n : Int) < L.length ∧ B[(n : Int).toNat]? = some (q : Int) := by
    rcases hb with hb | hb | hb
    · omega
    · omega
    · exact hb
  obtain ⟨g, cap, rfl, -, -⟩ := row_cells h.oB (by omega)
  have cb := h.oB.cells (g := g) rfl n _ (intsV_get (by simpa using hv))
  rw [Addr.add_lit, Nat.zero_add] at cb
  have hn : n < B.length := by omega
  have HB := Lib.hid hB
  have hnl : n < L.length := by omega
  clear h hv h0 hb hB
  go_enter Tryz.func37, Tryz.ntmps37
  go_wp2
  go_quiet (fail)
  all_goals
    go_wp2
    go_ret
    exact ⟨rfl, grown_drewN (World.grownBy.refl _ _) _⟩

set_option maxRecDepth 100000 in
set_option maxHeartbeats 2000000 in
theorem cEntersYes (L : List Ins) (ca : Option Addr) (cc n : Nat) (v : Int) (w : World) (h : Wk w0 p (.slice ca L.length cc) s q bv B sv S nv N w) (hB : B.length = L.length) (hn : n < L.length) (hv : B[n]? = some v) (hq : v ≠ q) :
    Calls Tryz.prog 37 #[.pointer (some ⟨p, 0, none⟩), .int .i64 n] w fun e w' => e = .returned (.bool true) ∧ w.grownBy w' bv.ownBlock ∧ Wk w0 p (.slice ca L.length cc) s q bv (B.set n q) sv S nv N w' := by
  obtain ⟨c0, c1, c2, c3, c4, c5⟩ := six_cells h.P
  have hd0 : decide ((n : Int) < 0) = false := by simp
  have hd1 : decide ((n : Int) ≥ L.length) = false := by simp; omega
  obtain ⟨g, cap, rfl, -, -⟩ := row_cells h.oB (by omega)
  have cb := h.oB.cells (g := g) rfl n _ (intsV_get hv)
  rw [Addr.add_lit, Nat.zero_add] at cb
  have fb := h.oB.frozenAt n
  have hn : n < B.length := by omega
  have he : (v == (q : Int)) = false := by simpa using hq
  have H := Lib.hid h
  have hgp : g ≠ p := fun e => (own_type h.oB h.P (by decide)) (by rw [e]; rfl)
  have HB := Lib.hid hB
  clear h hv hq hB
  go_enter Tryz.func37, Tryz.ntmps37
  go_wp2
  go_quiet (fail)
  all_goals
    go_wp2
    go_region
  all_goals
    go_wp2
    go_ret
    exact ⟨rfl, (grown_drewN (World.grownBy.refl w _) _).trans (grown_cell _ g n _), (H.out.grown (grown_drewN (World.grownBy.refl w none) _)).mark rfl rfl q⟩
theorem sizeWay : (Tryz.prog.info? 57).map (·.size) = some 2 := by kernel_rfl
theorem back_way {fn : Func} {p : Tmp} {w : World} {g b : Nat} {a : Int} {tmps : Array Value} (hf : fn.results = #[.cell p 57]) (hp : tmps.getD p undef = .pointer (some ⟨g, 0, none⟩))
    (hg : w.heap[g]? = some (.cells #[.int .i64 a, .pointer (some ⟨b, 0, none⟩)] 57 (0, 0))) : (results fn tmps).run Tryz.prog w = .ok (wayV a b) w :=
  results_cell_row hf tmps w g _ _ _ _ hp hg Tryz.underlying57 rfl sizeWay
theorem set_two {w : World} {b : Nat} {a0 a1 : Value} {t : TypeId} (h : w.heap[b]? = some (.cells #[a0, a1] t (0, 0))) (v0 v1 : Value) : ((w.setCell ⟨b, 0, none⟩ v0).setCell ⟨b, 1, none⟩ v1).heap[b]? = some (.cells #[v0, v1] t (0, 0)) := by
  have h1 := heap_setCell_same w b 0 _ _ v0 h
  have h2 := heap_setCell_same _ b 1 _ _ v1 h1
  simpa using h2

set_option maxRecDepth 100000 in
set_option maxHeartbeats 2000000 in
theorem cPop (a : Option Addr) (cap m : Nat) (x : Wx) (w : World) (h : Wk w0 p cv s q bv B (.slice a (m + 1) cap) (S ++ [x]) nv N w) (hm : S.length = m) (hb : m < 1000000) :
    Calls Tryz.prog 36 #[.pointer (some ⟨p, 0, none⟩)] w fun e w' => e = .returned (wayV x.a x.b) ∧ Wk w0 p cv s q bv B (.slice a m cap) S nv N w' ∧ w.grownBy w' (some p) := by
  have g1 := World.grownBy_alloc w (.cells #[.int .i64 0, .pointer none] 57) none
  have B1 := Lib.hid (heap_alloc_new w (.cells #[.int .i64 0, .pointer none] 57))
  have F0 := h.farNew (Nat.le_refl _)
  have W1 := Lib.hid (h.grown g1)
  have HM := Lib.hid hm
  have G1 := Lib.hid (World.grownBy_alloc w (.cells #[.int .i64 0, .pointer none] 57) (some p))
  obtain ⟨r, hr⟩ : ∃ r, r = w.heap.size := ⟨_, rfl⟩
  have HRW := Lib.hid (show w.heap.size ≤ r by omega)
  rw [← hr] at B1 F0
  have F := Lib.hid F0
  clear h g1 hm F0
  go_enter Tryz.func36, Tryz.ntmps36
  go_upto_region 1 with fail
  rw [← hr]
  generalize w.alloc _ = w1 at B1 W1 G1 ⊢
  clear hr
  obtain ⟨g, rfl, hcap, x0, x1, -⟩ := W1.out.pop HM.out
  have hcm : m ≤ cap := by omega
  clear hcap
  obtain ⟨p0, p1, p2, p3, p4, p5⟩ := six_cells W1.out.P
  clear p0 p1 p2 p3 p5
  have hmi : ((m + 1 : Nat) : Int) - 1 = m := by omega
  go_upto_region 3 with fail
  have g2 := World.grownBy_alloc w1 (.cells #[.int .i64 x.a, .pointer (some ⟨x.b, 0, none⟩)] 57) none
  have B2 := Lib.hid (heap_grown g2 B1.out)
  have D2 := Lib.hid (heap_alloc_new w1 (.cells #[.int .i64 x.a, .pointer (some ⟨x.b, 0, none⟩)] 57))
  have W2 := Lib.hid (W1.out.grown g2)
  have G2 := Lib.hid (G1.out.trans (World.grownBy_alloc w1 (.cells #[.int .i64 x.a, .pointer (some ⟨x.b, 0, none⟩)] 57) (some p)))
  clear g2 x0 x1 p4
  generalize w1.alloc _ = w2 at B2 D2 W2 G2 ⊢
  generalize w1.heap.size = o at D2 ⊢
  obtain ⟨g', e', -, -, -, W3⟩ := W2.out.pop HM.out
  cases e'
  have W3 := Lib.hid W3
  obtain ⟨p0, p1, p2, p3, p4, p5⟩ := six_cells W2.out.P
  clear p0 p1 p2 p3 p5
  have f4 := four_free W2.out.P 4
  have hrp : r ≠ p := F.out.ne
  have hop : o ≠ p := fun e => by subst e; have := W2.out.P; rw [D2.out] at this; simp at this
  have B3 := Lib.hid ((heap_setCell_other w2 ⟨p, 4, none⟩ r (.slice (some ⟨g, 0, none⟩) m cap) hrp).trans B2.out)
  have D3 := Lib.hid ((heap_setCell_other w2 ⟨p, 4, none⟩ o (.slice (some ⟨g, 0, none⟩) m cap) hop).trans D2.out)
  have G3 := Lib.hid (G2.out.trans (grown_cell w2 p 4 (.slice (some ⟨g, 0, none⟩) m cap)))
  go_upto_region 4 with fail
  clear p4 f4
  generalize w2.setCell _ _ = w3 at B3 D3 W3 G3 ⊢
  obtain ⟨d0, d1⟩ := two_cells D3.out
  obtain ⟨r0, r1⟩ := two_cells B3.out
  have fr := four_free B3.out
  have HF := Lib.hid (show Far w0 p bv (.slice (some ⟨g, 0, none⟩) m cap) nv S N r from ⟨F.out.hb, F.out.ne, F.out.nb, F.out.ns, F.out.nn, fun y hy => F.out.ks y (by simp [hy]), F.out.kn⟩)
  have W4 := Lib.hid ((W3.out.far HF.out (grown_cell w3 r 0 (.int .i64 x.a))).far HF.out (grown_cell _ r 1 (.pointer (some ⟨x.b, 0, none⟩))))
  have B4 := Lib.hid (set_two B3.out (.int .i64 x.a) (.pointer (some ⟨x.b, 0, none⟩)))
  have G4 := Lib.hid ((G3.out.andThen (grown_cell w3 r 0 (.int .i64 x.a)) (fun j hj => .inl (by cases hj; exact HRW.out))).andThen (grown_cell _ r 1 (.pointer (some ⟨x.b, 0, none⟩))) (fun j hj => .inl (by cases hj; exact HRW.out)))
  go_wp2
  exact bodyPost_ret (v := wayV x.a x.b) (back_way Tryz.results36 rfl B4.out) rfl ⟨rfl, W4.out, G4.out⟩
end
end Go.Proofs.YtlkjejmmoalliaaGreatDoor

namespace Go.Proofs.YtlkjejmmoalliaaGreatDoor
open Go.RowKit

def toY (q : Nat) (x : Wx) : Wy := ⟨x.a, q, x.k⟩
/-- how many instructions are not gone through at a place -/
def unm (B : List Int) (q : Int) : Nat := B.countP (· != q)
theorem unm_le (B : List Int) (q : Int) : unm B q ≤ B.length := List.countP_le_length
theorem unm_set : ∀ (B : List Int) (q : Int) (n : Nat) (v : Int), B[n]? = some v → v ≠ q → unm (B.set n q) q + 1 = unm B q := by
  intro B q
  induction B with
  | nil => intro n v h; simp at h
  | cons b B ih =>
    intro n v h hq
    cases n with
    | zero => simp at h; subst h; unfold unm; simp [hq]
    | succ n =>
      have := ih n v (by simpa using h) hq
      unfold unm at this ⊢
      rw [List.set_cons_succ, List.countP_cons, List.countP_cons]
      omega
/-- the marks of a place are those of the ways; further on there is none -/
structure Mk9 (L : List Ins) (q : Nat) (B : List Int) (V : Vis) : Prop where
  len : B.length = L.length
  is : ∀ (a : Nat) (v : Int), B[a]? = some v → v ≤ q ∧ (V a q = true ↔ v = q)
  no : ∀ a q' : Nat, q < q' → V a q' = false
theorem Mk9.set {L : List Ins} {q : Nat} {B : List Int} {V : Vis} (h : Mk9 L q B V) (n : Nat) : Mk9 L q (B.set n q) (mrk V n q) := by
  refine ⟨by simp [h.len], fun a v hv => ?_, fun a q' hq => ?_⟩
  · rw [List.getElem?_set] at hv
    by_cases e : n = a
    · subst e
      rw [if_pos rfl] at hv
      split at hv
      · cases hv; exact ⟨Int.le_refl _, by simp [mrk]⟩
      · cases hv
    · rw [if_neg e] at hv
      have := h.is a v hv
      refine ⟨this.1, ?_⟩
      unfold mrk
      rw [show (a == n) = false by simpa using fun e' => e e'.symm]
      simpa using this.2
  · unfold mrk
    rw [show (q' == q) = false by simp; omega, h.no a q' hq]; simp
theorem Mk9.next {L : List Ins} {q : Nat} {B : List Int} {V : Vis} (h : Mk9 L q B V) : Mk9 L (q + 1) B V :=
  ⟨h.len, fun a v hv => by have := (h.is a v hv).1; exact ⟨by omega, by rw [h.no a (q + 1) (by omega)]; simp; omega⟩, fun a q' hq => h.no a q' (by omega)⟩
theorem Mk9.start (L : List Ins) : Mk9 L 0 (List.replicate L.length (-1)) (fun _ _ => false) := by
  refine ⟨by simp, fun a v hv => ?_, fun _ _ _ => rfl⟩
  rw [List.getElem?_replicate] at hv
  split at hv
  · cases hv; simp
  · cases hv
/-- what can't be entered ends -/
theorem Mk9.blk {L : List Ins} {q : Nat} {B : List Int} {V : Vis} (h : Mk9 L q B V) {x : Wx} (hb : x.a < 0 ∨ (L.length : Int) ≤ x.a ∨ (0 ≤ x.a ∧ x.a < L.length ∧ B[x.a.toNat]? = some (q : Int))) : blk9 L V (toY q x) := by
  rcases hb with hb | hb | ⟨_, _, hb⟩
  · exact .inl hb
  · exact .inr (.inl (by show L.length ≤ x.a.toNat; omega))
  · exact .inr (.inr ((h.is _ _ hb).2.2 rfl))
theorem Mk9.opn {L : List Ins} {q n : Nat} {B : List Int} {V : Vis} (h : Mk9 L q B V) {x : Wx} {i : Ins} {v : Int} (hx : x.a = n) (hi : L[n]? = some i) (hv : B[n]? = some v) (hq : v ≠ q) : opn9 L V (toY q x) i := by
  refine ⟨by show 0 ≤ x.a; omega, ?_, ?_⟩
  · show L[x.a.toNat]? = _; rw [hx]; exact hi
  · show V x.a.toNat q = false
    rw [hx]
    have := (h.is n v hv).2
    cases hV : V n q
    · simpa using hV
    · exact (hq (this.1 hV)).elim
/-- the ways at the next place, ahead of those at this one -/
abbrev ways9 (q : Nat) (N S : List Wx) : List Wy := N.map (toY (q + 1)) ++ S.reverse.map (toY q)
abbrev ways9o (q : Nat) (N : List Wx) (x : Wx) (S : List Wx) : List Wy := N.map (toY (q + 1)) ++ toY q x :: S.reverse.map (toY q)
theorem ways_pop (q : Nat) (N S : List Wx) (x : Wx) : ways9 q N (S ++ [x]) = ways9o q N x S := by simp [ways9, ways9o]
theorem far9 {q : Nat} {N : List Wx} {x : Wx} : ∀ t ∈ N.map (toY (q + 1)), (toY q x).pl < t.pl := by
  intro t ht
  obtain ⟨y, -, rfl⟩ := List.mem_map.1 ht
  show q < q + 1
  omega
section
variable {L : List Ins} {s : ByteArray} {q : Nat} {N S : List Wx} {x : Wx} {V : Vis} {r : Option (List Int)} {i : Ins}
theorem run9_skip (h : Run9 L s (ways9o q N x S) V r) (hb : blk9 L V (toY q x)) : Run9 L s (ways9 q N S) V r := run_skip h _ _ _ rfl hb far9
theorem run9_go {X : List Wy} (h : Run9 L s (ways9o q N x S) V r) (ho : opn9 L V (toY q x) i) (hs : stp9 s i (toY q x) = some X) : Run9 L s (N.map (toY (q + 1)) ++ (X ++ S.reverse.map (toY q))) (mrk V x.a.toNat q) r := run_go h _ _ _ _ _ rfl ho hs far9
theorem run9_end (h : Run9 L s (ways9o q N x S) V r) (ho : opn9 L V (toY q x) i) (hs : stp9 s i (toY q x) = some []) : Run9 L s (ways9 q N S) (mrk V x.a.toNat q) r := run9_go h ho hs
theorem run9_on {a : Int} {k : List Int} {b : Nat} (h : Run9 L s (ways9o q N x S) V r) (ho : opn9 L V (toY q x) i) (hs : stp9 s i (toY q x) = some [⟨a, q, k⟩]) : Run9 L s (ways9o q N ⟨a, b, k⟩ S) (mrk V x.a.toNat q) r := run9_go h ho hs
theorem run9_split (h : Run9 L s (ways9o q N x S) V r) (ho : opn9 L V (toY q x) i) (hi : i.o = 1) : Run9 L s (ways9o q N ⟨i.x, x.b, x.k⟩ (S ++ [⟨i.y, x.b, x.k⟩])) (mrk V x.a.toNat q) r := by
  have := run9_go h ho (X := [⟨i.x, q, x.k⟩, ⟨i.y, q, x.k⟩]) (by unfold stp9; rw [if_neg (by omega), if_pos hi]; rfl)
  simpa [ways9o, toY] using this
theorem run9_byte (h : Run9 L s (ways9o q N x S) V r) (ho : opn9 L V (toY q x) i) (hi : i.o = 0) (hb : byt9 s q i.s = true) : Run9 L s (ways9 q (N ++ [⟨x.a + 1, x.b, x.k⟩]) S) (mrk V x.a.toNat q) r := by
  have := run9_go h ho (X := [⟨x.a + 1, q + 1, x.k⟩]) (by unfold stp9; rw [if_pos hi]; show some (if byt9 s q i.s = true then _ else _) = _; rw [if_pos hb]; rfl)
  simpa [ways9, toY] using this
theorem run9_win (h : Run9 L s (ways9o q [] x S) V r) (ho : opn9 L V (toY q x) i) (hi : i.o = 6) (hq : q = s.size) : r = some x.k :=
  run_win h ho (by unfold stp9; rw [if_neg (by omega), if_neg (by omega), if_neg (by omega), if_neg (by omega), if_neg (by omega), if_neg (by omega), if_pos hi]; exact if_pos hq)
end

/-- the way that is gone on with, its variable in block o -/
structure Hx (w0 : World) (p : Nat) (cv : Value) (s : ByteArray) (q : Nat) (bv : Value) (B : List Int) (sv : Value) (S : List Wx) (nv : Value) (N : List Wx) (o : Nat) (x : Wx) (w : World) : Prop where
  W : Wk w0 p cv s q bv B sv S nv N w
  F : Far w0 p bv sv nv S N o
  O : w.heap[o]? = some (.cells #[.int .i64 x.a, .pointer (some ⟨x.b, 0, none⟩)] 57 (0, 0))
  K : Kep w0 x.b x.k w
section
variable {w0 w w' : World} {p q o : Nat} {cv bv sv nv : Value} {s : ByteArray} {B : List Int} {S N : List Wx} {x : Wx}
theorem Hx.lt (h : Hx w0 p cv s q bv B sv S nv N o x w) : o < w.heap.size := (Array.getElem?_eq_some_iff.1 h.O).1
theorem Hx.grown (h : Hx w0 p cv s q bv B sv S nv N o x w) (g : w.grownBy w' none) : Hx w0 p cv s q bv B sv S nv N o x w' := ⟨h.W.grown g, h.F, heap_grown g h.O, h.K.grown g⟩
theorem Hx.xo (h : Hx w0 p cv s q bv B sv S nv N o x w) : x.b ≠ o := h.K.ne h.O (by decide)
theorem Hx.setA (h : Hx w0 p cv s q bv B sv S nv N o x w) (a : Int) : Hx w0 p cv s q bv B sv S nv N o ⟨a, x.b, x.k⟩ (w.setCell ⟨o, 0, none⟩ (.int .i64 a)) :=
  ⟨h.W.far h.F (grown_cell w o 0 _), h.F, by have := heap_setCell_same w o 0 _ _ (.int .i64 a) h.O; simpa using this, h.K.kept (grown_cell w o 0 _) (fun e => by cases e; exact h.xo rfl)⟩
theorem Hx.setB (h : Hx w0 p cv s q bv B sv S nv N o x w) {b : Nat} {k : List Int} (hk : Kep w0 b k w) : Hx w0 p cv s q bv B sv S nv N o ⟨x.a, b, k⟩ (w.setCell ⟨o, 1, none⟩ (.pointer (some ⟨b, 0, none⟩))) :=
  ⟨h.W.far h.F (grown_cell w o 1 _), h.F, by have := heap_setCell_same w o 1 _ _ (.pointer (some ⟨b, 0, none⟩)) h.O; simpa using this, hk.kept (grown_cell w o 1 _) (fun e => by cases e; exact hk.ne h.O (by decide) rfl)⟩
theorem Hx.marked (h : Hx w0 p cv s q bv B sv S nv N o x w) {B' : List Int} (g : w.grownBy w' bv.ownBlock) (hw : Wk w0 p cv s q bv B' sv S nv N w') : Hx w0 p cv s q bv B' sv S nv N o x w' :=
  ⟨hw, h.F, (g.block o h.lt (fun e => h.F.nb e.symm)).trans h.O, h.K.kept g (fun e => (h.K.own h.W.oB (by decide)) e.symm)⟩
theorem Hx.pushS (h : Hx w0 p cv s q bv B sv S nv N o x w) (a : Int) {gg cap : Nat} {w7 : World}
    (ow : w7.ownsRow w0.heap.size 57 2 (.slice (some ⟨gg, 0, none⟩) (S.length + 1) cap) (S.length + 1) (flatW S ++ wayC ⟨a, x.b, x.k⟩)) (g : w.grownBy w7 sv.ownBlock) (hat : sv.ownBlock = some gg ∨ w.heap.size ≤ gg) :
    Hx w0 p cv s q bv B (.slice (some ⟨gg, 0, none⟩) (S.length + 1) cap) (S ++ [⟨a, x.b, x.k⟩]) nv N o x (w7.setCell ⟨p, 4, none⟩ (.slice (some ⟨gg, 0, none⟩) (S.length + 1) cap)) := by
  have hK7 := h.K.kept g (fun e => (h.K.own h.W.oS (by decide)) e.symm)
  have hO7 := (g.block o h.lt (fun e => h.F.ns e.symm)).trans h.O
  have hP7 := (g.block p h.W.lt (fun e => (own_type h.W.oS h.W.P (by decide)) e.symm)).trans h.W.P
  have hxp : x.b ≠ p := hK7.ne hP7 (by decide)
  refine ⟨h.W.pushS (x := ⟨a, x.b, x.k⟩) h.K ow g hat, ⟨h.F.hb, h.F.ne, h.F.nb, fun e => ?_, h.F.nn, fun y hy => ?_, h.F.kn⟩, (heap_setCell_other w7 _ o _ h.F.ne).trans hO7, hK7.kept (grown_cell w7 p 4 _) (fun e => by cases e; exact hxp rfl)⟩
  · have e1 : gg = o := by simpa [Value.ownBlock] using e
    subst e1
    rcases hat with hat | hat
    · exact h.F.ns hat
    · have := h.lt; omega
  · rcases List.mem_append.1 hy with hy | hy
    · exact h.F.ks y hy
    · simp at hy; subst hy; exact h.xo
/-- the walk's variable behind an append to its stack, to its ways at the next place -/
theorem Hx.appP (h : Hx w0 p cv s q bv B sv S nv N o x w) (g : w.grownBy w' sv.ownBlock) : w'.heap[p]? = some (.cells #[cv, .string s, .int .i64 q, bv, sv, nv] 60 (0, 0)) :=
  (g.block p h.W.lt (fun e => (own_type h.W.oS h.W.P (by decide)) e.symm)).trans h.W.P
theorem Hx.appN (h : Hx w0 p cv s q bv B sv S nv N o x w) (g : w.grownBy w' nv.ownBlock) : w'.heap[p]? = some (.cells #[cv, .string s, .int .i64 q, bv, sv, nv] 60 (0, 0)) :=
  (g.block p h.W.lt (fun e => (own_type h.W.oN h.W.P (by decide)) e.symm)).trans h.W.P
/-- the ways at the next place, turned about -/
theorem Wk.turnN {g n cap : Nat} {N' : List Wx} (h : Wk w0 p cv s q bv B sv S (.slice (some ⟨g, 0, none⟩) n cap) N w) (hl : N'.length = N.length) (hm : ∀ y ∈ N', y ∈ N)
    (ow : w'.ownsRow w0.heap.size 57 2 (.slice (some ⟨g, 0, none⟩) n cap) n (flatW N')) (gr : w.grownBy w' (some g)) (hn : N.length = n) : Wk w0 p cv s q bv B sv S (.slice (some ⟨g, 0, none⟩) n cap) N' w' := by
  have hb : (Value.slice (some ⟨g, 0, none⟩) n cap).ownBlock = some g := rfl
  have hk : ∀ {y : Wx}, Kep w0 y.b y.k w → Kep w0 y.b y.k w' := fun ky => ky.kept gr (fun e => (ky.own h.oN (by decide)) (by rw [hb]; exact e.symm))
  refine ⟨h.G.andThen gr (fun j hj => .inl (by cases hj; exact (h.oN.lt g rfl).1)), h.hp, (gr.block p h.lt (fun e => (own_type h.oN h.P (by decide)) (by rw [hb]; exact e.symm))).trans h.P,
    h.oB.kept gr (own_row h.oB h.oN (by decide)), h.oS.kept gr ?_, by rw [hl, hn]; exact ow, h.ap, fun y hy => hk (h.KS y hy), fun y hy => hk (h.KN y (hm y hy))⟩
  cases hs : sv.ownBlock with
  | none => exact .inl rfl
  | some k => exact .inr (fun e => h.ap k hs (by rw [hb]; exact e.symm))
theorem infoWay : (Tryz.prog.info? 57).map (fun i => (i.zero, i.size, i.bytes)) = some (some (.agg #[.int .i64 0, .pointer none]), 2, 16) := by kernel_rfl
theorem new_way (w : World) (c : Wx) (t : TypeId) (m : Nat) (hm : m = w.heap.size) : ∀ j u, (wayC c)[j]? = some u → (w.alloc (.cells #[.int .i64 c.a, .pointer (some ⟨c.b, 0, none⟩)] t)).cell? ((⟨m, 0, none⟩ : Addr).add j) = some u := by
  subst hm
  exact World.news_of_block (cs := #[.int .i64 c.a, .pointer (some ⟨c.b, 0, none⟩)]) (t := t) (fr := (0, 0)) (heap_alloc_new w _)
/-- a whole row read out of a variable, as one step of a statement whose order is open -/
theorem step_load_row9 {ops : Array Oper} {o : Oper} {a : Act} {w : World} {K : Act → World → Prop} {Q : Exit → Act → World → Prop} {E : Prop} (hg : o.guard = none) (ty : TypeId) (x : Operand) (ho : o.op = .load ty x)
    (g : Nat) (hx : a.eval x = .pointer (some ⟨g, 0, none⟩)) (t : TypeId) (cs : Array Value) (fr : Nat × Nat) (n : Nat) (el : TypeId) (hb : w.heap[g]? = some (.cells cs t fr))
    (hu : Tryz.prog.underlying ty = some (.array n el)) (hi : (Tryz.prog.info? ty).map (·.size) = some cs.size)
    (h : K (a.put o.dst (.agg cs)) w) : if Region.wanted o (yielded ops a.tmps) = true then Oper.wp Tryz.prog o a w K Q else E := by
  have hw : Region.wanted o (yielded ops a.tmps) = true := by simp [Region.wanted, hg]
  rw [if_pos hw]
  exact wp_load_row ty x ho g hx t cs fr _ hb hu rfl hi h
/-- the same in a statement whose reads come ahead of all -/
theorem wpStill_load_row9 {ops : Array Oper} {Q : Act → Prop} {o : Oper} {rest : List Oper} {a : Act} {w : World} (hg : o.guard = none) (ty : TypeId) (x : Operand) (ho : o.op = .load ty x)
    (g : Nat) (hx : a.eval x = .pointer (some ⟨g, 0, none⟩)) (t : TypeId) (cs : Array Value) (fr : Nat × Nat) (n : Nat) (el : TypeId) (hb : w.heap[g]? = some (.cells cs t fr))
    (hu : Tryz.prog.underlying ty = some (.array n el)) (hi : (Tryz.prog.info? ty).map (·.size) = some cs.size)
    (h : wpStill Tryz.prog ops w Q rest (a.put o.dst (.agg cs))) : wpStill Tryz.prog ops w Q (o :: rest) a := by
  refine wpStill_step fun K hK => ?_
  have hw : Region.wanted o (yielded ops a.tmps) = true := by simp [Region.wanted, hg]
  rw [if_pos hw]
  unfold Oper.still execOp
  simp only [ho, hx, Instr.loadAt, Instr.sureAddr, Sem.run_bind, Sem.run_pure, Result.andThen_ok, run_loadVar_row w g t ty cs fr _ hb hu rfl hi]
  exact ⟨rfl, hK _ h⟩
theorem sizePl (k : List Int) (h : k.length = 20) : (Tryz.prog.info? 83).map (·.size) = some (intsV k).toArray.size := by
  rw [List.size_toArray, intsV_len, h]; kernel_rfl
/-- what is so at the head of the loop over the stack -/
def Ho (L : List Ins) (s : ByteArray) (w0 : World) (p : Nat) (cv : Value) (q : Nat) (bv : Value) (r : Option (List Int)) (kk : Nat) (w : World) : Prop :=
  ∃ sv S nv N B V, Wk w0 p cv s q bv B sv S nv N w ∧ Mk9 L q B V ∧ Run9 L s (ways9 q N S) V r ∧ S.length + 2 * unm B q ≤ kk ∧ N.length + unm B q ≤ L.length ∧ (q = s.size → N = []) ∧ kk ≤ 3 * L.length + 1
/-- what is so at the head of the loop over one way -/
def Hn (L : List Ins) (s : ByteArray) (w0 : World) (p : Nat) (cv : Value) (q : Nat) (bv : Value) (r : Option (List Int)) (kk o g : Nat) (w : World) : Prop :=
  ∃ sv S nv N B V x, Hx w0 p cv s q bv B sv S nv N o x w ∧ Mk9 L q B V ∧ Run9 L s (ways9o q N x S) V r ∧ S.length + 2 * unm B q + 1 ≤ kk ∧ unm B q ≤ g ∧ N.length + unm B q ≤ L.length ∧ (q = s.size → N = []) ∧ kk ≤ 3 * L.length + 1
end
end Go.Proofs.YtlkjejmmoalliaaGreatDoor

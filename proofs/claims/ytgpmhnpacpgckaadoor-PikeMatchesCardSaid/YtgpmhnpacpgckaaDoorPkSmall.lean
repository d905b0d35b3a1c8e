/- Walks of layer 9's small functions: places that keep nothing, with one more; the text's end; whether a way may go on; the first way of the stack. -/
import Derived.Test.YtgpmhnpacpgckaaDoorPkMem
namespace Go.Proofs.YtgpmhnpacpgckaaDoor
open Go.RowKit

def noK : List Int := List.replicate 20 (-1)
theorem infoPl : (Tryd.prog.info? 66).map (fun i => (i.zero, i.size)) = some (some (.agg (intsV (List.replicate 20 0)).toArray), 20) := by kernel_rfl
theorem intsV_setA (k : List Int) (j : Nat) (v : Int) : (intsV k).toArray.setIfInBounds j (.int .i64 v) = (intsV (k.set j v)).toArray := by
  rw [← intsV_set]; simp
theorem ints_cell {w : World} {b j : Nat} {k : List Int} {v : Int} {t : TypeId} (h : w.heap[b]? = some (.cells (intsV k).toArray t (0, 0))) (hj : k[j]? = some v) : w.cell? ⟨b, j, none⟩ = some (.int .i64 v) := by
  rw [cell_of_row w b j _ _ _ h]; simpa using intsV_get hj
def fillK (k : Nat) : List Int := List.replicate k (-1) ++ List.replicate (20 - k) 0
theorem fill_get {k : Nat} (h : k < 20) : (fillK k)[k]? = some 0 := by
  unfold fillK; rw [List.getElem?_append_right (by simp)]; rw [List.length_replicate, Nat.sub_self, List.getElem?_replicate, if_pos (by omega)]
theorem fill_set {k : Nat} (h : k < 20) : (fillK k).set k (-1) = fillK (k + 1) := by
  unfold fillK
  obtain ⟨m, hm⟩ : ∃ m, 20 - k = m + 1 := ⟨20 - k - 1, by omega⟩
  rw [hm, show 20 - (k + 1) = m by omega, List.replicate_succ, List.set_append_right _ _ (by simp), List.replicate_succ', List.append_assoc]
  simp

set_option maxRecDepth 100000 in
set_option maxHeartbeats 2000000 in
theorem cNothing (w : World) : Calls Tryd.prog 13 #[] w fun e w' => ∃ b, e = .returned (.pointer (some ⟨b, 0, none⟩)) ∧ w'.heap[b]? = some (.cells (intsV noK).toArray 66 (0, 0)) ∧ w.heap.size ≤ b ∧ w.grownBy w' none := by
  obtain ⟨hz, hs⟩ := zero_of_info infoPl
  obtain ⟨Z, hZ⟩ : ∃ Z, Z = (intsV (List.replicate 20 0)).toArray := ⟨_, rfl⟩
  have B1 := heap_alloc_new w (.cells Z 66)
  have G1 := World.grownBy_alloc w (.cells Z 66) none
  rw [← hZ] at hz
  have HB := Lib.hid (show (w.alloc (.cells Z 66)).heap[w.heap.size]? = some (.cells (intsV (fillK 0)).toArray 66 (0, 0)) by rw [B1, hZ]; rfl)
  have HG := Lib.hid G1
  clear hs B1 G1 hZ
  go_enter Tryd.func13, Tryd.ntmps13
  go_upto_region 2 with fail
  generalize w.alloc _ = w1 at HB HG ⊢
  obtain ⟨p, ep⟩ : ∃ p, p = w.heap.size := ⟨_, rfl⟩
  have HP := Lib.hid (show w.heap.size ≤ p by omega)
  rw [← ep] at HB ⊢
  clear ep hz
  go_wp2
  go_loopw [2, 3] (fun _ i wr => ∃ k : Nat, k ≤ 20 ∧ i = .int .i64 k ∧ Hid (w.grownBy wr none) ∧ Hid (wr.heap[p]? = some (.cells (intsV (fillK k)).toArray 66 (0, 0)))) (fun _ i _ => 20 - (intOf i).toNat)
  case atStart => exact ⟨0, by omega, rfl, HG, HB⟩
  case round =>
    obtain ⟨k, hk, rfl, hG, hB⟩ := hrel
    by_cases hlt : k < 20
    · have c0 := ints_cell hB.out (fill_get hlt)
      have f0 := four_free hB.out k
      have HN := Lib.hid ((heap_setCell_same wr p k _ _ (.int .i64 (-1)) hB.out).trans (by rw [intsV_setA, fill_set hlt]))
      have GN := Lib.hid (grown_set hG.out k (.int .i64 (-1)) HP.out)
      go_wp2
      go_roundw
      case rel => exact ⟨k + 1, by omega, by go_num, GN, HN⟩
      case measure => simp [intOf]; omega
    · obtain rfl : k = 20 := by omega
      go_wp2
      go_ret
      exact ⟨p, rfl, hB.out, HP.out, hG.out⟩

set_option maxRecDepth 100000 in
set_option maxHeartbeats 2000000 in
theorem cWith (k : List Int) (hk : k.length = 20) (x : Int) (q : Nat) (w : World) :
    Calls Tryd.prog 21 #[.agg (intsV k).toArray, .int .i64 x, .int .i64 q] w fun e w' => ∃ b, e = .returned (.pointer (some ⟨b, 0, none⟩)) ∧ w'.heap[b]? = some (.cells (intsV (keepK k x q)).toArray 66 (0, 0)) ∧ w.heap.size ≤ b ∧ w.grownBy w' none := by
  have HB := Lib.hid (heap_alloc_new w (.cells (intsV k).toArray 66))
  have HG := Lib.hid (World.grownBy_alloc w (.cells (intsV k).toArray 66) none)
  have HK := Lib.hid hk
  obtain ⟨Z, hZ⟩ : ∃ Z, Z = (intsV k).toArray := ⟨_, rfl⟩
  have HZ := Lib.hid hZ
  rw [← hZ] at HB HG ⊢
  clear hZ hk
  go_enter Tryd.func21, Tryd.ntmps21
  go_upto_region 1 with fail
  generalize w.alloc _ = w1 at HB HG ⊢
  obtain ⟨p, ep⟩ : ∃ p, p = w.heap.size := ⟨_, rfl⟩
  have HP := Lib.hid (show w.heap.size ≤ p by omega)
  rw [← ep] at HB ⊢
  clear ep
  have HB := Lib.hid (show w1.heap[p]? = some (.cells (intsV k).toArray 66 (0, 0)) by rw [HB.out, HZ.out])
  by_cases hx : 0 ≤ x ∧ x < 20
  · obtain ⟨x0, x20⟩ := hx
    obtain ⟨n, rfl⟩ : ∃ n : Nat, x = n := ⟨x.toNat, by omega⟩
    have hn : n < 20 := by omega
    have HE := Lib.hid (show keepK k n q = k.set n q by unfold keepK; rw [if_pos ⟨x0, x20⟩]; simp)
    obtain ⟨v, hv⟩ : ∃ v, k[n]? = some v := ⟨_, List.getElem?_eq_getElem (by rw [HK.out]; exact hn)⟩
    have c0 := ints_cell HB.out hv
    have f0 := four_free HB.out n
    have HN := Lib.hid ((heap_setCell_same w1 p n _ _ (.int .i64 q) HB.out).trans (by rw [intsV_setA, ← HE.out]))
    have GN := Lib.hid (grown_set HG.out n (.int .i64 q) HP.out)
    clear hv x0 x20
    go_wp2
    go_ret
    exact ⟨p, rfl, HN.out, HP.out, GN.out⟩
  · have HE := Lib.hid (show keepK k x q = k by unfold keepK; rw [if_neg hx])
    by_cases h0 : 0 ≤ x
    · have h20 : 20 ≤ x := by omega
      clear hx
      go_wp2
      go_ret
      exact ⟨p, rfl, by rw [HE.out]; exact HB.out, HP.out, HG.out⟩
    · clear hx
      go_wp2
      go_ret
      exact ⟨p, rfl, by rw [HE.out]; exact HB.out, HP.out, HG.out⟩

section
variable {w0 : World} {p q : Nat} {cv bv sv nv : Value} {s : ByteArray} {B : List Int} {S N : List Wx}
set_option maxRecDepth 100000 in
theorem cAtEnd (b : Bool) (w : World) (h : Wk w0 p cv s q bv B sv S nv N w) (hb : ((q : Int) == s.size) = b) :
    Calls Tryd.prog 22 #[.pointer (some ⟨p, 0, none⟩)] w fun e w' => e = .returned (.bool b) ∧ w.grownBy w' none := by
  obtain ⟨c0, c1, c2, c3, c4, c5⟩ := six_cells h.P
  clear h
  go_enter Tryd.func22, Tryd.ntmps22
  go_wp2
  go_quiet (fail)
  all_goals
    go_wp2
    go_ret
    exact ⟨rfl, grown_drewN (World.grownBy.refl _ _) _⟩

set_option maxRecDepth 100000 in
set_option maxHeartbeats 2000000 in
theorem cEntersNo (L : List Ins) (ca : Option Addr) (cc : Nat) (a : Int) (w : World) (h : Wk w0 p (.slice ca L.length cc) s q bv B sv S nv N w) (hB : B.length = L.length) (hb : a < 0 ∨ (L.length : Int) ≤ a ∨ (0 ≤ a ∧ a < L.length ∧ B[a.toNat]? = some (q : Int))) :
    Calls Tryd.prog 20 #[.pointer (some ⟨p, 0, none⟩), .int .i64 a] w fun e w' => e = .returned (.bool false) ∧ w.grownBy w' none := by
  obtain ⟨c0, c1, c2, c3, c4, c5⟩ := six_cells h.P
  by_cases h0 : a < 0
  · clear h hb
    have hd : decide (a < 0) = true := by simpa using h0
    go_enter Tryd.func20, Tryd.ntmps20
    go_wp2
    go_quiet (fail)
    all_goals
      go_wp2
      go_ret
      exact ⟨rfl, grown_drewN (World.grownBy.refl _ _) _⟩
  have hd0 : decide (a < 0) = false := by simpa using h0
  obtain ⟨n, rfl⟩ : ∃ n : Nat, a = n := ⟨a.toNat, by omega⟩
  by_cases h1 : L.length ≤ n
  · clear h hb h0
    have hd : decide ((n : Int) ≥ L.length) = true := by simp; omega
    go_enter Tryd.func20, Tryd.ntmps20
    go_wp2
    go_quiet (fail)
    all_goals
      go_wp2
      go_ret
      exact ⟨rfl, grown_drewN (World.grownBy.refl _ _) _⟩
  have hd1 : decide ((n : Int) ≥ L.length) = false := by simp; omega
  obtain ⟨-, -, hv⟩ : (0 : Int) ≤ n ∧ (n : Int) < L.length ∧ B[(n : Int).toNat]? = some (q : Int) := by
    rcases hb with hb | hb | hb
    · omega
    · omega
    · exact hb
  obtain ⟨g, cap, rfl, -, -⟩ := row_cells h.oB (by omega)
  have cb := h.oB.cells (g := g) rfl n _ (intsV_get (by simpa using hv))
  rw [Addr.add_lit, Nat.zero_add] at cb
  have hn : n < B.length := by omega
  have HB := Lib.hid hB
  have hnl : n < L.length := by omega
  clear h hv h0 hb hB
  go_enter Tryd.func20, Tryd.ntmps20
  go_wp2
  go_quiet (fail)
  all_goals
    go_wp2
    go_ret
    exact ⟨rfl, grown_drewN (World.grownBy.refl _ _) _⟩

set_option maxRecDepth 100000 in
set_option maxHeartbeats 2000000 in
theorem cEntersYes (L : List Ins) (ca : Option Addr) (cc n : Nat) (v : Int) (w : World) (h : Wk w0 p (.slice ca L.length cc) s q bv B sv S nv N w) (hB : B.length = L.length) (hn : n < L.length) (hv : B[n]? = some v) (hq : v ≠ q) :
    Calls Tryd.prog 20 #[.pointer (some ⟨p, 0, none⟩), .int .i64 n] w fun e w' => e = .returned (.bool true) ∧ w.grownBy w' bv.ownBlock ∧ Wk w0 p (.slice ca L.length cc) s q bv (B.set n q) sv S nv N w' := by
  obtain ⟨c0, c1, c2, c3, c4, c5⟩ := six_cells h.P
  have hd0 : decide ((n : Int) < 0) = false := by simp
  have hd1 : decide ((n : Int) ≥ L.length) = false := by simp; omega
  obtain ⟨g, cap, rfl, -, -⟩ := row_cells h.oB (by omega)
  have cb := h.oB.cells (g := g) rfl n _ (intsV_get hv)
  rw [Addr.add_lit, Nat.zero_add] at cb
  have fb := h.oB.frozenAt n
  have hn : n < B.length := by omega
  have he : (v == (q : Int)) = false := by simpa using hq
  have H := Lib.hid h
  have hgp : g ≠ p := fun e => (own_type h.oB h.P (by decide)) (by rw [e]; rfl)
  have HB := Lib.hid hB
  clear h hv hq hB
  go_enter Tryd.func20, Tryd.ntmps20
  go_wp2
  go_quiet (fail)
  all_goals
    go_wp2
    go_region
  all_goals
    go_wp2
    go_ret
    exact ⟨rfl, (grown_drewN (World.grownBy.refl w _) _).trans (grown_cell _ g n _), (H.out.grown (grown_drewN (World.grownBy.refl w none) _)).mark rfl rfl q⟩
theorem sizeWay : (Tryd.prog.info? 45).map (·.size) = some 2 := by kernel_rfl
theorem back_way {fn : Func} {p : Tmp} {w : World} {g b : Nat} {a : Int} {tmps : Array Value} (hf : fn.results = #[.cell p 45]) (hp : tmps.getD p undef = .pointer (some ⟨g, 0, none⟩))
    (hg : w.heap[g]? = some (.cells #[.int .i64 a, .pointer (some ⟨b, 0, none⟩)] 45 (0, 0))) : (results fn tmps).run Tryd.prog w = .ok (wayV a b) w :=
  results_cell_row hf tmps w g _ _ _ _ hp hg Tryd.underlying45 rfl sizeWay
theorem set_two {w : World} {b : Nat} {a0 a1 : Value} {t : TypeId} (h : w.heap[b]? = some (.cells #[a0, a1] t (0, 0))) (v0 v1 : Value) : ((w.setCell ⟨b, 0, none⟩ v0).setCell ⟨b, 1, none⟩ v1).heap[b]? = some (.cells #[v0, v1] t (0, 0)) := by
  have h1 := heap_setCell_same w b 0 _ _ v0 h
  have h2 := heap_setCell_same _ b 1 _ _ v1 h1
  simpa using h2

set_option maxRecDepth 100000 in
set_option maxHeartbeats 2000000 in
theorem cPop (a : Option Addr) (cap m : Nat) (x : Wx) (w : World) (h : Wk w0 p cv s q bv B (.slice a (m + 1) cap) (S ++ [x]) nv N w) (hm : S.length = m) (hb : m < 1000000) :
    Calls Tryd.prog 19 #[.pointer (some ⟨p, 0, none⟩)] w fun e w' => e = .returned (wayV x.a x.b) ∧ Wk w0 p cv s q bv B (.slice a m cap) S nv N w' ∧ w.grownBy w' (some p) := by
  have g1 := World.grownBy_alloc w (.cells #[.int .i64 0, .pointer none] 45) none
  have B1 := Lib.hid (heap_alloc_new w (.cells #[.int .i64 0, .pointer none] 45))
  have F0 := h.farNew (Nat.le_refl _)
  have W1 := Lib.hid (h.grown g1)
  have HM := Lib.hid hm
  have G1 := Lib.hid (World.grownBy_alloc w (.cells #[.int .i64 0, .pointer none] 45) (some p))
  obtain ⟨r, hr⟩ : ∃ r, r = w.heap.size := ⟨_, rfl⟩
  have HRW := Lib.hid (show w.heap.size ≤ r by omega)
  rw [← hr] at B1 F0
  have F := Lib.hid F0
  clear h g1 hm F0
  go_enter Tryd.func19, Tryd.ntmps19
  go_upto_region 1 with fail
  rw [← hr]
  generalize w.alloc _ = w1 at B1 W1 G1 ⊢
  clear hr
  obtain ⟨g, rfl, hcap, x0, x1, -⟩ := W1.out.pop HM.out
  have hcm : m ≤ cap := by omega
  clear hcap
  obtain ⟨p0, p1, p2, p3, p4, p5⟩ := six_cells W1.out.P
  clear p0 p1 p2 p3 p5
  have hmi : ((m + 1 : Nat) : Int) - 1 = m := by omega
  go_upto_region 3 with fail
  have g2 := World.grownBy_alloc w1 (.cells #[.int .i64 x.a, .pointer (some ⟨x.b, 0, none⟩)] 45) none
  have B2 := Lib.hid (heap_grown g2 B1.out)
  have D2 := Lib.hid (heap_alloc_new w1 (.cells #[.int .i64 x.a, .pointer (some ⟨x.b, 0, none⟩)] 45))
  have W2 := Lib.hid (W1.out.grown g2)
  have G2 := Lib.hid (G1.out.trans (World.grownBy_alloc w1 (.cells #[.int .i64 x.a, .pointer (some ⟨x.b, 0, none⟩)] 45) (some p)))
  clear g2 x0 x1 p4
  generalize w1.alloc _ = w2 at B2 D2 W2 G2 ⊢
  generalize w1.heap.size = o at D2 ⊢
  obtain ⟨g', e', -, -, -, W3⟩ := W2.out.pop HM.out
  cases e'
  have W3 := Lib.hid W3
  obtain ⟨p0, p1, p2, p3, p4, p5⟩ := six_cells W2.out.P
  clear p0 p1 p2 p3 p5
  have f4 := four_free W2.out.P 4
  have hrp : r ≠ p := F.out.ne
  have hop : o ≠ p := fun e => by subst e; have := W2.out.P; rw [D2.out] at this; simp at this
  have B3 := Lib.hid ((heap_setCell_other w2 ⟨p, 4, none⟩ r (.slice (some ⟨g, 0, none⟩) m cap) hrp).trans B2.out)
  have D3 := Lib.hid ((heap_setCell_other w2 ⟨p, 4, none⟩ o (.slice (some ⟨g, 0, none⟩) m cap) hop).trans D2.out)
  have G3 := Lib.hid (G2.out.trans (grown_cell w2 p 4 (.slice (some ⟨g, 0, none⟩) m cap)))
  go_upto_region 4 with fail
  clear p4 f4
  generalize w2.setCell _ _ = w3 at B3 D3 W3 G3 ⊢
  obtain ⟨d0, d1⟩ := two_cells D3.out
  obtain ⟨r0, r1⟩ := two_cells B3.out
  have fr := four_free B3.out
  have HF := Lib.hid (show Far w0 p bv (.slice (some ⟨g, 0, none⟩) m cap) nv S N r from ⟨F.out.hb, F.out.ne, F.out.nb, F.out.ns, F.out.nn, fun y hy => F.out.ks y (by simp [hy]), F.out.kn⟩)
  have W4 := Lib.hid ((W3.out.far HF.out (grown_cell w3 r 0 (.int .i64 x.a))).far HF.out (grown_cell _ r 1 (.pointer (some ⟨x.b, 0, none⟩))))
  have B4 := Lib.hid (set_two B3.out (.int .i64 x.a) (.pointer (some ⟨x.b, 0, none⟩)))
  have G4 := Lib.hid ((G3.out.andThen (grown_cell w3 r 0 (.int .i64 x.a)) (fun j hj => .inl (by cases hj; exact HRW.out))).andThen (grown_cell _ r 1 (.pointer (some ⟨x.b, 0, none⟩))) (fun j hj => .inl (by cases hj; exact HRW.out)))
  go_wp2
  exact bodyPost_ret (v := wayV x.a x.b) (back_way Tryd.results19 rfl B4.out) rfl ⟨rfl, W4.out, G4.out⟩
end
end Go.Proofs.YtgpmhnpacpgckaaDoor

/- The document's own ways, one behind the other, each to its end: the walk of from. -/
import Derived.Test.YtgpmhnpacpgckaaDoorPkRef
namespace Go.Proofs.YtgpmhnpacpgckaaDoor
open Go.RowKit

def FromOut (L : List Ins) (s : ByteArray) (w0 : World) (b : Nat) (pv zv : Value) (Z : List Bool) (x : Wy) (w : World) (e : Ending) (w' : World) : Prop :=
  ∃ Z' out ok, e = .returned (.tuple #[.agg (intsV out).toArray, .bool ok]) ∧ Sr w0 b pv s zv Z' w' ∧ w.grownBy w' zv.ownBlock ∧ FromR L s Z x Z' out ok
theorem grown_up {w w' : World} (h : w.grownBy w' none) (r : Option Nat) : w.grownBy w' r := ⟨h.os, h.tape, h.output, h.size, fun k hk _ => h.block k hk (by simp)⟩
/-- what is answered lies in its variable -/
theorem from_fin {L : List Ins} {s : ByteArray} {w0 w w5 : World} {b p8 : Nat} {pv zv : Value} {Z Z2 : List Bool} {x : Wy} {out : List Int} {ok : Bool} {Zr : Array Value} (S : Sr w0 b pv s zv Z2 w5) (B8 : w5.heap[p8]? = some (.cells Zr 27 (0, 0))) (h8 : w0.heap.size ≤ p8) (hw : w.heap.size ≤ p8)
    (G : w.grownBy w5 zv.ownBlock) (R : FromR L s Z x Z2 out ok) : (w5.setRow p8 (intsV out).toArray).heap[p8]? = some (.cells (intsV out).toArray 27 (0, 0)) ∧
      FromOut L s w0 b pv zv Z x w (.returned (.tuple #[.agg (intsV out).toArray, .bool ok])) (w5.setRow p8 (intsV out).toArray) := by
  obtain ⟨h1, h2⟩ := row_grown9 (cs' := (intsV out).toArray) B8
  exact ⟨h1, Z2, out, ok, rfl, S.far B8 h8 h2, G.andThen h2 (fun j hj => .inl (by cases hj; exact hw)), R⟩

set_option maxRecDepth 100000 in
set_option maxHeartbeats 8000000 in
theorem cFromStep (L : List Ins) (s : ByteArray) (w0 : World) (b : Nat) (pa : Option Addr) (pc : Nat) (zv : Value) (hC : CRow w0 (.slice pa L.length pc) L) (hL : L.length ≤ 1000) (hs : s.size ≤ 1000)
    (Z : List Bool) (hZ : Z.length = L.length * (s.size + 1))
    (IH : ∀ (Z' : List Bool) (a' : Int) (q' : Nat) (k' : List Int) (w' : World), Z'.count false < Z.count false → Z'.length = Z.length → Sr w0 b (.slice pa L.length pc) s zv Z' w' → q' ≤ s.size → k'.length = 20 →
      Calls Tryd.prog 15 #[.pointer (some ⟨b, 0, none⟩), .int .i64 a', .int .i64 q', .agg (intsV k').toArray] w' (FromOut L s w0 b (.slice pa L.length pc) zv Z' ⟨a', q', k'⟩ w'))
    (a : Int) (q : Nat) (k : List Int) (w : World) (h : Sr w0 b (.slice pa L.length pc) s zv Z w) (hq : q ≤ s.size) (hk : k.length = 20) :
    Calls Tryd.prog 15 #[.pointer (some ⟨b, 0, none⟩), .int .i64 a, .int .i64 q, .agg (intsV k).toArray] w (FromOut L s w0 b (.slice pa L.length pc) zv Z ⟨a, q, k⟩ w) := by
  have HC := Lib.hid hC
  have HI := Lib.hid IH
  have HK20 := Lib.hid hk
  have HZL := Lib.hid hZ
  obtain ⟨hz, -⟩ := zero_of_info info20
  obtain ⟨B7, B8, gg⟩ := heap2 w (.cells (intsV k).toArray 27) (.cells (intsV zeroK).toArray 27)
  have S1 := Lib.hid (h.grown gg)
  have GG := Lib.hid (grown_up gg zv.ownBlock)
  have B7 := Lib.hid B7; have B8 := Lib.hid B8
  have H0 := Lib.hid h.G.size
  obtain ⟨K, hK⟩ : ∃ K, K = (intsV k).toArray := ⟨_, rfl⟩
  obtain ⟨Zr, hZr⟩ : ∃ Zr, Zr = (intsV zeroK).toArray := ⟨_, rfl⟩
  have HK := Lib.hid hK; have HZr := Lib.hid hZr
  rw [← hK] at B7 B8 S1 GG ⊢
  rw [← hZr] at B7 B8 S1 GG hz
  clear hC IH h hk hZ hK hZr gg
  go_enter Tryd.func15, Tryd.ntmps15
  go_upto_region 1 with fail
  obtain ⟨p7, e7⟩ : ∃ p, p = w.heap.size := ⟨_, rfl⟩
  obtain ⟨p8, e8⟩ : ∃ p, p = w.heap.size + 1 := ⟨_, rfl⟩
  have HP7 := Lib.hid (show w0.heap.size ≤ p7 by have := H0.out; omega)
  have HP8 := Lib.hid (show w0.heap.size ≤ p8 by have := H0.out; omega)
  have HW8 := Lib.hid (show w.heap.size ≤ p8 by omega)
  have HW7 := Lib.hid (show w.heap.size ≤ p7 by omega)
  have hne : p7 ≠ p8 := by omega
  rw [← e8] at B8 ⊢
  rw [← e7] at B7 ⊢
  generalize ((w.alloc _).alloc _) = w1 at B7 B8 S1 GG ⊢
  clear e7 e8 H0
  have HSZ := Lib.hid (show (Tryd.prog.info? 27).map (·.size) = some Zr.size by rw [HZr.out]; exact size20 zeroK rfl)
  have H1C := Lib.hid (show Zr.all (·.oneCell') = true by rw [HZr.out]; exact one20 _)
  obtain ⟨c0, c1, c2⟩ := three_cells9 S1.out.P
  -- what ends at once
  have HBLK := Lib.hid (show blk9 L (vis9 (s.size + 1) Z) ⟨a, q, k⟩ → ∀ n, _ from fun hb n => from_fin (w := w) (L := L) (x := ⟨a, q, k⟩) (out := zeroK) (ok := false) (S1.out.grown (grown_drewN (World.grownBy.refl _ _) n)) (by rw [drewN_heap]; exact B8.out) HP8.out HW8.out (grown_drewN GG.out n) (fromR_blk hb))
  have HB8' := Lib.hid (fun n => (show (w1.drewN n).heap[p8]? = some (.cells Zr 27 (0, 0)) by rw [drewN_heap]; exact B8.out))
  by_cases h0 : a < 0
  · have hb := HBLK.out (.inl h0)
    have HB := Lib.hid hb
    clear hb
    have hd : decide (a < 0) = true := by simpa using h0
    go_quiet (fail)
    all_goals
      go_wp2_with (refine wpList_store_row rfl 27 (.tmp 8) (.tmp 42) rfl p8 Zr rfl rfl 27 Zr (HB8'.out _) HSZ.out rfl H1C.out ?_; rw [HZr.out])
      exact bodyPost_ret (v := .tuple #[.agg (intsV zeroK).toArray, .bool false]) (back20 Tryd.results15 rfl rfl (HB.out _).1 rfl) rfl (HB.out _).2
  obtain ⟨n, rfl⟩ : ∃ n : Nat, a = n := ⟨a.toNat, by omega⟩
  by_cases h1 : L.length ≤ n
  · have hb := HBLK.out (.inr (.inl (by simpa using h1)))
    have HB := Lib.hid hb
    clear hb
    have hd0 : decide ((n : Int) < 0) = false := by simp
    have hd1 : decide ((n : Int) ≥ L.length) = true := by simp; omega
    go_quiet (fail)
    all_goals
      go_wp2_with (refine wpList_store_row rfl 27 (.tmp 8) (.tmp 42) rfl p8 Zr rfl rfl 27 Zr (HB8'.out _) HSZ.out rfl H1C.out ?_; rw [HZr.out])
      exact bodyPost_ret (v := .tuple #[.agg (intsV zeroK).toArray, .bool false]) (back20 Tryd.results15 rfl rfl (HB.out _).1 rfl) rfl (HB.out _).2
  have hnl : n < L.length := by omega
  clear h0 h1
  have hd0 : decide ((n : Int) < 0) = false := by simp
  have hd1 : decide ((n : Int) ≥ L.length) = false := by simp; omega
  obtain ⟨d, hdd⟩ : ∃ d, d = n * (s.size + 1) := ⟨_, rfl⟩
  obtain ⟨c, hcc⟩ : ∃ c, c = d + q := ⟨_, rfl⟩
  have hdb : d + (s.size + 1) ≤ L.length * (s.size + 1) := by
    have := Nat.mul_le_mul_right (s.size + 1) (show n + 1 ≤ L.length from hnl)
    rw [Nat.add_mul, Nat.one_mul] at this; omega
  have hmax : L.length * (s.size + 1) ≤ 1000 * 1001 := Nat.mul_le_mul hL (by omega)
  have hcl : c < Z.length := by rw [HZL.out]; omega
  have hcx : c ≤ 1001000 := by have := HZL.out; omega
  have hdx : d ≤ 1001000 := by omega
  obtain ⟨v, hv⟩ : ∃ v, Z[c]? = some v := ⟨_, List.getElem?_eq_getElem hcl⟩
  obtain ⟨zb, zc, rfl, -, -⟩ := row_cells S1.out.oZ (by omega)
  have cb := S1.out.oZ.cells (g := zb) rfl c _ (boolV_get hv)
  rw [Addr.add_lit, Nat.zero_add] at cb
  have e1 : IntKind.i64.wrap ((s.size : Int) + 1) = (s.size : Int) + 1 := by rw [IntKind.wrap_i64]; omega
  have e2 : IntKind.i64.wrap ((n : Int) * ((s.size : Int) + 1)) = (d : Int) := by
    have : (n : Int) * ((s.size : Int) + 1) = (d : Int) := by rw [hdd]; push_cast; rfl
    rw [this, IntKind.wrap_i64]; omega
  have e3 : IntKind.i64.wrap ((d : Int) + q) = (c : Int) := by rw [IntKind.wrap_i64]; omega
  have HV := Lib.hid hv
  have HD := Lib.hid (show n * (s.size + 1) + q = c by omega)
  have HM := Lib.hid hmax; have HDB := Lib.hid hdb
  clear hv hdd hcc hmax hdb
  cases v
  case true =>
    have hb := HBLK.out (.inr (.inr (by
      show vis9 (s.size + 1) Z n q = true
      unfold vis9
      rw [HD.out, HV.out]; simp; omega)))
    have HB := Lib.hid hb
    clear hb
    go_quiet (fail)
    all_goals
      clear e1 e2 e3
      go_wp2_with (refine wpList_store_row rfl 27 (.tmp 8) (.tmp 42) rfl p8 Zr rfl rfl 27 Zr (HB8'.out _) HSZ.out rfl H1C.out ?_; rw [HZr.out])
      exact bodyPost_ret (v := .tuple #[.agg (intsV zeroK).toArray, .bool false]) (back20 Tryd.results15 rfl rfl (HB.out _).1 rfl) rfl (HB.out _).2
  case false =>
    obtain ⟨i, hi⟩ : ∃ i, L[n]? = some i := ⟨_, List.getElem?_eq_getElem hnl⟩
    have HO := Lib.hid (show Opn9 L s Z ⟨n, q, k⟩ i n q from ⟨rfl, rfl, hq, hi, by rw [HD.out]; exact HV.out⟩)
    have HII := Lib.hid hi
    have HCT := Lib.hid (count9 Z c HV.out)
    have fz := fun W (hW : Sr w0 b (.slice pa L.length pc) s (.slice (some ⟨zb, 0, none⟩) Z.length zc) Z W) j => hW.oZ.frozenAt j
    have fz1 := fz _ S1.out
    clear hi HBLK HB8' fz
    go_quiet (fail)
    go_wp2
    have G2 := Lib.hid (grown_drewN (World.grownBy.refl w1 none) nq)
    have S2 := Lib.hid (S1.out.grown G2.out)
    have GG2 := Lib.hid (GG.out.trans (grown_up G2.out _))
    have B7 := Lib.hid (heap_grown G2.out B7.out)
    have B8 := Lib.hid (heap_grown G2.out B8.out)
    clear c0 c1 c2 cb fz1 S1 G2 GG
    generalize w1.drewN nq = w2 at S2 B7 B8 GG2 ⊢
    obtain ⟨c0, c1, c2⟩ := three_cells9 S2.out.P
    have cb := S2.out.oZ.cells (g := zb) rfl c _ (boolV_get HV.out)
    rw [Addr.add_lit, Nat.zero_add] at cb
    have fz := fun j => S2.out.oZ.frozenAt j
    have S3 := Lib.hid ((S2.out.mark rfl rfl true (a := c)).grown (grown_drew (World.grownBy.refl _ none)))
    have GG3 := Lib.hid (GG2.out.trans (grown_drew (grown_cell w2 zb c (.bool true))))
    have hz7 : zb ≠ p7 := fun e => own_type S2.out.oZ B7.out (by decide) (by rw [e]; rfl)
    have hz8 : zb ≠ p8 := fun e => own_type S2.out.oZ B8.out (by decide) (by rw [e]; rfl)
    have B7 := Lib.hid (show (w2.setCell ⟨zb, c, none⟩ (.bool true)).drew.heap[p7]? = _ from (heap_setCell_other w2 ⟨zb, c, none⟩ p7 (.bool true) (fun e => hz7 e.symm)).trans B7.out)
    have B8 := Lib.hid (show (w2.setCell ⟨zb, c, none⟩ (.bool true)).drew.heap[p8]? = _ from (heap_setCell_other w2 ⟨zb, c, none⟩ p8 (.bool true) (fun e => hz8 e.symm)).trans B8.out)
    go_region
    all_goals
      clear e1 e2 e3 c0 c1 c2 cb fz hz7 hz8 GG2
      generalize (w2.setCell _ _).drew = w3 at S3 B7 B8 GG3 ⊢
      obtain ⟨pb, off, rfl, hcc⟩ := (HC.out.grown S3.out.G).at HII.out
      have k0 : w3.cell? ⟨pb, off + n * 7, none⟩ = some (.int .i64 i.o) := hcc 0 _ rfl
      have k1 := hcc 1 _ rfl
      have k2 := hcc 2 _ rfl
      have k3 := hcc 3 _ rfl
      have k4 := hcc 4 _ rfl
      have k5 := hcc 5 _ rfl
      have k6 := hcc 6 _ rfl
      obtain ⟨c0, c1, c2⟩ := three_cells9 S3.out.P
      clear hcc
      go_upto_region 5 with fail
      have ga := World.grownBy_alloc w3 (.cells #[.int .i64 i.o, .int .i64 i.x, .int .i64 i.y, .int .u64 (wd i.s 0), .int .u64 (wd i.s 1), .int .u64 (wd i.s 2), .int .u64 (wd i.s 3)] 60) none
      have B10 := Lib.hid (heap_alloc_new w3 (.cells #[.int .i64 i.o, .int .i64 i.x, .int .i64 i.y, .int .u64 (wd i.s 0), .int .u64 (wd i.s 1), .int .u64 (wd i.s 2), .int .u64 (wd i.s 3)] 60))
      have S4 := Lib.hid (S3.out.grown ga)
      have B7 := Lib.hid (heap_grown ga B7.out)
      have B8 := Lib.hid (heap_grown ga B8.out)
      have GG4 := Lib.hid (GG3.out.trans (grown_up ga _))
      clear ga c0 c1 c2 k0 k1 k2 k3 k4 k5 k6 S3 GG3 S2
      generalize w3.alloc _ = w4 at B7 B8 B10 S4 GG4 ⊢
      generalize w3.heap.size = p10 at B10 ⊢
      obtain ⟨k0, k1, k2, k3, k4, k5, k6⟩ := seven_cells B10.out
      obtain ⟨c0, c1, c2⟩ := three_cells9 S4.out.P
      have HSK := Lib.hid (show (Tryd.prog.info? 27).map (·.size) = some K.size by rw [HK.out]; exact size20 k HK20.out)
      have HCF := Lib.hid (show ∀ (a' : Int) (q' : Nat) (k' : List Int) (W : World), Sr w0 b _ s _ (Z.set c true) W → q' ≤ s.size → k'.length = 20 → _ from fun a' q' k' W hS hq' hk' => HI.out (Z.set c true) a' q' k' W (by have := HCT.out; omega) (by simp) hS hq' hk')
      rcases (show i.o = 1 ∨ i.o = 2 ∨ i.o = 3 ∨ i.o = 4 ∨ i.o = 5 ∨ i.o = 6 ∨ i.o = 0 ∨ (i.o ≠ 0 ∧ i.o ≠ 1 ∧ i.o ≠ 2 ∧ i.o ≠ 3 ∧ i.o ≠ 4 ∧ i.o ≠ 5 ∧ i.o ≠ 6) by omega) with ho | ho | ho | ho | ho | ho | ho | ho
      · have HS2 := Lib.hid (show stp9 s i ⟨n, q, k⟩ = some [⟨i.x, q, k⟩, ⟨i.y, q, k⟩] by unfold stp9; rw [if_neg (by omega), if_pos ho])
        rw [ho] at k0
        clear ho
        have CF := Lib.hid (HCF.out i.x q k w4 S4.out hq HK20.out)
        rw [← HK.out] at CF
        go_upto_region 11 with (first
          | (refine wpList_load_row rfl 27 (.tmp 7) rfl p7 rfl 27 K (0, 0) _ B7.out Tryd.underlying27 rfl HSK.out ?_)
          | (go_at_call 15; (with_reducible refine (CF.out).mono ?_); rintro e w5 ⟨Z2, out, ok, rfl, S5, g5, R5⟩; have B8' := Lib.hid (S4.out.nb B8.out (by decide) g5); have S5 := Lib.hid S5; have R5 := Lib.hid R5; have G5 := Lib.hid (GG4.out.trans g5); have B7' := Lib.hid (S4.out.nb B7.out (by decide) g5); have B10' := Lib.hid (S4.out.nb B10.out (by decide) g5); clear g5)
          | (refine wpList_store_row rfl 27 (.tmp 11) (.tmp 106) rfl _ (intsV out).toArray rfl rfl 27 Zr (heap_alloc_new _ _) (size20 out R5.out.2.2.1) (by rw [HZr.out]; simp [intsV_len, R5.out.2.2.1, zeroK]) (one20 out) ?_))
        have ga := World.grownBy_alloc w5 (.cells Zr 27) none
        obtain ⟨n1, n2⟩ := row_grown9 (cs' := (intsV out).toArray) (heap_alloc_new w5 (.cells Zr 27))
        have g6 : w5.grownBy ((w5.alloc (.cells Zr 27)).setRow w5.heap.size (intsV out).toArray) none := ga.andThen n2 (fun j hj => .inl (by cases hj; exact Nat.le_refl _))
        have B11 := Lib.hid n1
        have S6 := Lib.hid (S5.out.grown g6)
        have B8 := Lib.hid (heap_grown g6 B8'.out)
        have B7 := Lib.hid (heap_grown g6 B7'.out)
        have B10 := Lib.hid (heap_grown g6 B10'.out)
        have GG6 := Lib.hid (G5.out.trans (grown_up g6 _))
        clear ga n1 n2 g6 k0 k1 k2 k3 k4 k5 k6 c0 c1 c2 S5 B8' B7' B10' G5 S4 GG4 CF
        generalize (w5.alloc _).setRow _ _ = w6 at B11 S6 B8 B7 B10 GG6 ⊢
        generalize w5.heap.size = p11 at B11 ⊢
        have HSO := Lib.hid (size20 out R5.out.2.2.1)
        cases ok
        · obtain ⟨k0, k1, k2, k3, k4, k5, k6⟩ := seven_cells B10.out
          have CF := Lib.hid (HI.out Z2 i.y q k w6 (by have := HCT.out; have := R5.out.2.1; omega) (by rw [R5.out.1]; simp) S6.out hq HK20.out)
          rw [← HK.out] at CF
          have R50 := Lib.hid R5.out
          generalize out = out1 at R50 B11 HSO R5 ⊢
          clear R5
          have HZ2 := Lib.hid S6.out
          clear k0 k1 k3 k4 k5 k6
          go_wp2_with (first
            | (refine wpList_load_row rfl 27 (.tmp 7) rfl p7 rfl 27 K (0, 0) _ B7.out Tryd.underlying27 rfl HSK.out ?_)
            | (go_at_call 15; (with_reducible refine (CF.out).mono ?_); rintro e w7 ⟨Z3, out, ok, rfl, S5, g5, R5⟩; have B8' := Lib.hid (S6.out.nb B8.out (by decide) g5); have S5 := Lib.hid S5; have R5 := Lib.hid R5; have G5 := Lib.hid (GG6.out.trans g5); clear g5)
            | (refine wpList_store_row rfl 27 (.tmp 8) (.tmp 116) rfl p8 (intsV out).toArray rfl rfl 27 Zr B8'.out (size20 out R5.out.2.2.1) (by rw [HZr.out]; simp [intsV_len, R5.out.2.2.1, zeroK]) (one20 out) ?_))
          have HF := Lib.hid (from_fin (w := w) S5.out B8'.out HP8.out HW8.out G5.out (fromR_right HO.out HS2.out (by rw [HD.out]; exact R50.out) R5.out))
          exact bodyPost_ret (v := .tuple #[.agg (intsV out).toArray, .bool ok]) (back20 Tryd.results15 rfl rfl HF.out.1 R5.out.2.2.1) rfl HF.out.2
        · go_wp2_with (first
            | (refine wpList_load_row rfl 27 (.tmp 11) rfl p11 rfl 27 (intsV out).toArray (0, 0) _ B11.out Tryd.underlying27 rfl HSO.out ?_)
            | (refine wpList_store_row rfl 27 (.tmp 8) (.tmp 109) rfl p8 (intsV out).toArray rfl rfl 27 Zr B8.out (size20 out R5.out.2.2.1) (by rw [HZr.out]; simp [intsV_len, R5.out.2.2.1, zeroK]) (one20 out) ?_))
          have HF := Lib.hid (from_fin (w := w) S6.out B8.out HP8.out HW8.out GG6.out (fromR_left HO.out HS2.out (by rw [HD.out]; exact R5.out)))
          exact bodyPost_ret (v := .tuple #[.agg (intsV out).toArray, .bool true]) (back20 Tryd.results15 rfl rfl HF.out.1 R5.out.2.2.1) rfl HF.out.2
      · have HS2 := Lib.hid (show stp9 s i ⟨n, q, k⟩ = some [⟨i.x, q, k⟩] by unfold stp9; rw [if_neg (by omega), if_neg (by omega), if_pos ho])
        rw [ho] at k0
        clear ho
        have CF := Lib.hid (HCF.out i.x q k w4 S4.out hq HK20.out)
        rw [← HK.out] at CF
        go_wp2_with (first
          | (refine wpList_load_row rfl 27 (.tmp 7) rfl p7 rfl 27 K (0, 0) _ B7.out Tryd.underlying27 rfl HSK.out ?_)
          | (go_at_call 15; (with_reducible refine (CF.out).mono ?_); rintro e w5 ⟨Z2, out, ok, rfl, S5, g5, R5⟩; have B8' := Lib.hid (S4.out.nb B8.out (by decide) g5); have S5 := Lib.hid S5; have R5 := Lib.hid R5; have G5 := Lib.hid (GG4.out.trans g5); clear g5)
          | (refine wpList_store_row rfl 27 (.tmp 8) (.tmp 126) rfl p8 (intsV out).toArray rfl rfl 27 Zr B8'.out (size20 out R5.out.2.2.1) (by rw [HZr.out]; simp [intsV_len, R5.out.2.2.1, zeroK]) (one20 out) ?_))
        have HF := Lib.hid (from_fin (w := w) S5.out B8'.out HP8.out HW8.out G5.out (fromR_go HO.out HS2.out (by rw [HD.out]; exact R5.out)))
        exact bodyPost_ret (v := .tuple #[.agg (intsV out).toArray, .bool ok]) (back20 Tryd.results15 rfl rfl HF.out.1 R5.out.2.2.1) rfl HF.out.2
      · have HS2 := Lib.hid (show stp9 s i ⟨n, q, k⟩ = some [⟨(n : Int) + 1, q, keepK k i.x q⟩] by unfold stp9; rw [if_neg (by omega), if_neg (by omega), if_neg (by omega), if_pos ho])
        rw [ho] at k0
        clear ho
        by_cases hx : 0 ≤ i.x ∧ i.x < 20
        · obtain ⟨x0, x20⟩ := hx
          generalize i.x = ix at *
          obtain ⟨m, rfl⟩ : ∃ m : Nat, ix = m := ⟨ix.toNat, by omega⟩
          have hm : m < 20 := by omega
          have HE := Lib.hid (show (intsV k).toArray.setIfInBounds m (.int .i64 q) = (intsV (keepK k m q)).toArray by rw [intsV_setA]; unfold keepK; rw [if_pos ⟨x0, x20⟩]; simp)
          obtain ⟨v, hv⟩ : ∃ v, k[m]? = some v := ⟨_, List.getElem?_eq_getElem (by rw [HK20.out]; exact hm)⟩
          have z0 := ints_cell (by rw [← HK.out]; exact B7.out) hv
          have f7 := four_free B7.out m
          have g5 := grown_cell w4 p7 m (.int .i64 q)
          have B7' := Lib.hid ((heap_setCell_same w4 p7 m _ _ (.int .i64 q) B7.out).trans (by rw [HK.out, HE.out]))
          have B8' := Lib.hid ((heap_setCell_other w4 ⟨p7, m, none⟩ p8 (.int .i64 q) (fun e => hne e.symm)).trans B8.out)
          have S4' := Lib.hid (S4.out.far B7.out HP7.out g5)
          have GG4' := Lib.hid (GG4.out.andThen g5 (fun j hj => .inl (by cases hj; exact HW7.out)))
          have HK2 := Lib.hid (show (keepK k m q).length = 20 by rw [keepK_len]; exact HK20.out)
          go_upto_region 19 with fail
          clear z0 f7 g5 hv x0 x20 k0 k1 k2 k3 k4 k5 k6 c0 c1 c2 B7 B8 S4 GG4
          generalize w4.setCell _ _ = w4' at B7' B8' S4' GG4' ⊢
          have CF := Lib.hid (HCF.out ((n : Int) + 1) q (keepK k m q) w4' S4'.out hq HK2.out)
          go_wp2_with (first
            | (refine wpList_load_row rfl 27 (.tmp 7) rfl p7 rfl 27 (intsV (keepK k m q)).toArray (0, 0) _ B7'.out Tryd.underlying27 rfl (size20 _ HK2.out) ?_)
            | (go_at_call 15; (with_reducible refine (CF.out).mono ?_); rintro e w5 ⟨Z2, out, ok, rfl, S5, g5, R5⟩; have B8' := Lib.hid (S4'.out.nb B8'.out (by decide) g5); have S5 := Lib.hid S5; have R5 := Lib.hid R5; have G5 := Lib.hid (GG4'.out.trans g5); clear g5)
            | (refine wpList_store_row rfl 27 (.tmp 8) (.tmp 148) rfl p8 (intsV out).toArray rfl rfl 27 Zr B8'.out (size20 out R5.out.2.2.1) (by rw [HZr.out]; simp [intsV_len, R5.out.2.2.1, zeroK]) (one20 out) ?_))
          have HF := Lib.hid (from_fin (w := w) S5.out B8'.out HP8.out HW8.out G5.out (fromR_go HO.out HS2.out (by rw [HD.out]; exact R5.out)))
          exact bodyPost_ret (v := .tuple #[.agg (intsV out).toArray, .bool ok]) (back20 Tryd.results15 rfl rfl HF.out.1 R5.out.2.2.1) rfl HF.out.2
        · have HE := Lib.hid (show keepK k i.x q = k by unfold keepK; rw [if_neg hx])
          rw [HE.out] at HS2
          have CF := Lib.hid (HCF.out ((n : Int) + 1) q k w4 S4.out hq HK20.out)
          rw [← HK.out] at CF
          by_cases x0 : 0 ≤ i.x
          · have x20 : 20 ≤ i.x := by omega
            clear hx
            go_wp2_with (first
              | (refine wpList_load_row rfl 27 (.tmp 7) rfl p7 rfl 27 K (0, 0) _ B7.out Tryd.underlying27 rfl HSK.out ?_)
              | (go_at_call 15; (with_reducible refine (CF.out).mono ?_); rintro e w5 ⟨Z2, out, ok, rfl, S5, g5, R5⟩; have B8' := Lib.hid (S4.out.nb B8.out (by decide) g5); have S5 := Lib.hid S5; have R5 := Lib.hid R5; have G5 := Lib.hid (GG4.out.trans g5); clear g5)
              | (refine wpList_store_row rfl 27 (.tmp 8) (.tmp 148) rfl p8 (intsV out).toArray rfl rfl 27 Zr B8'.out (size20 out R5.out.2.2.1) (by rw [HZr.out]; simp [intsV_len, R5.out.2.2.1, zeroK]) (one20 out) ?_))
            have HF := Lib.hid (from_fin (w := w) S5.out B8'.out HP8.out HW8.out G5.out (fromR_go HO.out HS2.out (by rw [HD.out]; exact R5.out)))
            exact bodyPost_ret (v := .tuple #[.agg (intsV out).toArray, .bool ok]) (back20 Tryd.results15 rfl rfl HF.out.1 R5.out.2.2.1) rfl HF.out.2
          · clear hx
            go_wp2_with (first
              | (refine wpList_load_row rfl 27 (.tmp 7) rfl p7 rfl 27 K (0, 0) _ B7.out Tryd.underlying27 rfl HSK.out ?_)
              | (go_at_call 15; (with_reducible refine (CF.out).mono ?_); rintro e w5 ⟨Z2, out, ok, rfl, S5, g5, R5⟩; have B8' := Lib.hid (S4.out.nb B8.out (by decide) g5); have S5 := Lib.hid S5; have R5 := Lib.hid R5; have G5 := Lib.hid (GG4.out.trans g5); clear g5)
              | (refine wpList_store_row rfl 27 (.tmp 8) (.tmp 148) rfl p8 (intsV out).toArray rfl rfl 27 Zr B8'.out (size20 out R5.out.2.2.1) (by rw [HZr.out]; simp [intsV_len, R5.out.2.2.1, zeroK]) (one20 out) ?_))
            have HF := Lib.hid (from_fin (w := w) S5.out B8'.out HP8.out HW8.out G5.out (fromR_go HO.out HS2.out (by rw [HD.out]; exact R5.out)))
            exact bodyPost_ret (v := .tuple #[.agg (intsV out).toArray, .bool ok]) (back20 Tryd.results15 rfl rfl HF.out.1 R5.out.2.2.1) rfl HF.out.2
      · rw [ho] at k0
        by_cases hq0 : q = 0
        · have HS2 := Lib.hid (show stp9 s i ⟨n, q, k⟩ = some [⟨(n : Int) + 1, q, k⟩] by unfold stp9; rw [if_neg (by omega), if_neg (by omega), if_neg (by omega), if_neg (by omega), if_pos ho]; exact congrArg some (if_pos hq0))
          have hqb : ((q : Int) == 0) = true := by simpa using hq0
          have HQ := Lib.hid hq0
          clear ho hq0
          have CF := Lib.hid (HCF.out ((n : Int) + 1) q k w4 S4.out hq HK20.out)
          rw [← HK.out] at CF
          go_wp2_with (first
            | (refine wpList_load_row rfl 27 (.tmp 7) rfl p7 rfl 27 K (0, 0) _ B7.out Tryd.underlying27 rfl HSK.out ?_)
            | (go_at_call 15; (with_reducible refine (CF.out).mono ?_); rintro e w5 ⟨Z2, out, ok, rfl, S5, g5, R5⟩; have B8' := Lib.hid (S4.out.nb B8.out (by decide) g5); have S5 := Lib.hid S5; have R5 := Lib.hid R5; have G5 := Lib.hid (GG4.out.trans g5); clear g5)
            | (refine wpList_store_row rfl 27 (.tmp 8) (.tmp 160) rfl p8 (intsV out).toArray rfl rfl 27 Zr B8'.out (size20 out R5.out.2.2.1) (by rw [HZr.out]; simp [intsV_len, R5.out.2.2.1, zeroK]) (one20 out) ?_))
          have HF := Lib.hid (from_fin (w := w) S5.out B8'.out HP8.out HW8.out G5.out (fromR_go HO.out HS2.out (by rw [HD.out]; exact R5.out)))
          exact bodyPost_ret (v := .tuple #[.agg (intsV out).toArray, .bool ok]) (back20 Tryd.results15 rfl rfl HF.out.1 R5.out.2.2.1) rfl HF.out.2
        · have HS2 := Lib.hid (show stp9 s i ⟨n, q, k⟩ = some [] by unfold stp9; rw [if_neg (by omega), if_neg (by omega), if_neg (by omega), if_neg (by omega), if_pos ho]; exact congrArg some (if_neg hq0))
          have hqb : ((q : Int) == 0) = false := by simpa using hq0
          clear ho hq0
          go_wp2_with (refine wpList_store_row rfl 27 (.tmp 8) (.tmp 189) rfl p8 Zr rfl rfl 27 Zr B8.out HSZ.out rfl H1C.out ?_; rw [HZr.out])
          have HF := Lib.hid (from_fin (w := w) (Z2 := Z.set c true) S4.out B8.out HP8.out HW8.out GG4.out (by have := fromR_none (out := zeroK) HO.out HS2.out rfl; rw [HD.out] at this; exact this))
          exact bodyPost_ret (v := .tuple #[.agg (intsV zeroK).toArray, .bool false]) (back20 Tryd.results15 rfl rfl HF.out.1 rfl) rfl HF.out.2
      · rw [ho] at k0
        by_cases hqs : q = s.size
        · have HS2 := Lib.hid (show stp9 s i ⟨n, q, k⟩ = some [⟨(n : Int) + 1, q, k⟩] by unfold stp9; rw [if_neg (by omega), if_neg (by omega), if_neg (by omega), if_neg (by omega), if_neg (by omega), if_pos ho]; exact congrArg some (if_pos hqs))
          have hqb : ((q : Int) == s.size) = true := by simp; omega
          have HQ := Lib.hid hqs
          clear ho hqs
          have CF := Lib.hid (HCF.out ((n : Int) + 1) q k w4 S4.out hq HK20.out)
          rw [← HK.out] at CF
          go_wp2_with (first
            | (refine wpList_load_row rfl 27 (.tmp 7) rfl p7 rfl 27 K (0, 0) _ B7.out Tryd.underlying27 rfl HSK.out ?_)
            | (go_at_call 15; (with_reducible refine (CF.out).mono ?_); rintro e w5 ⟨Z2, out, ok, rfl, S5, g5, R5⟩; have B8' := Lib.hid (S4.out.nb B8.out (by decide) g5); have S5 := Lib.hid S5; have R5 := Lib.hid R5; have G5 := Lib.hid (GG4.out.trans g5); clear g5)
            | (refine wpList_store_row rfl 27 (.tmp 8) (.tmp 177) rfl p8 (intsV out).toArray rfl rfl 27 Zr B8'.out (size20 out R5.out.2.2.1) (by rw [HZr.out]; simp [intsV_len, R5.out.2.2.1, zeroK]) (one20 out) ?_))
          have HF := Lib.hid (from_fin (w := w) S5.out B8'.out HP8.out HW8.out G5.out (fromR_go HO.out HS2.out (by rw [HD.out]; exact R5.out)))
          exact bodyPost_ret (v := .tuple #[.agg (intsV out).toArray, .bool ok]) (back20 Tryd.results15 rfl rfl HF.out.1 R5.out.2.2.1) rfl HF.out.2
        · have HS2 := Lib.hid (show stp9 s i ⟨n, q, k⟩ = some [] by unfold stp9; rw [if_neg (by omega), if_neg (by omega), if_neg (by omega), if_neg (by omega), if_neg (by omega), if_pos ho]; exact congrArg some (if_neg hqs))
          have hqb : ((q : Int) == s.size) = false := by simp; omega
          clear ho hqs
          go_wp2_with (refine wpList_store_row rfl 27 (.tmp 8) (.tmp 189) rfl p8 Zr rfl rfl 27 Zr B8.out HSZ.out rfl H1C.out ?_; rw [HZr.out])
          have HF := Lib.hid (from_fin (w := w) (Z2 := Z.set c true) S4.out B8.out HP8.out HW8.out GG4.out (by have := fromR_none (out := zeroK) HO.out HS2.out rfl; rw [HD.out] at this; exact this))
          exact bodyPost_ret (v := .tuple #[.agg (intsV zeroK).toArray, .bool false]) (back20 Tryd.results15 rfl rfl HF.out.1 rfl) rfl HF.out.2
      · rw [ho] at k0
        by_cases hqs : q = s.size
        · have HS2 := Lib.hid (show stp9 s i ⟨n, q, k⟩ = none by unfold stp9; rw [if_neg (by omega), if_neg (by omega), if_neg (by omega), if_neg (by omega), if_neg (by omega), if_neg (by omega), if_pos ho]; exact if_pos hqs)
          have hqb : ((q : Int) == s.size) = true := by simp; omega
          have HQ := Lib.hid hqs
          clear ho hqs
          have HLk := Lib.hid (show (intsV k).length = 20 by rw [intsV_len]; exact HK20.out)
          have HZs := Lib.hid (show Zr.size = 20 by rw [HZr.out]; simp [intsV_len, zeroK])
          have B7k := Lib.hid (show w4.drew.heap[p7]? = some (.cells (intsV k).toArray 27 (0, 0)) by rw [← HK.out]; exact B7.out)
          have B8k := Lib.hid (show w4.drew.heap[p8]? = some (.cells Zr 27 (0, 0)) from B8.out)
          have HRC := Lib.hid (rows_cells9 (k := k) B8k.out HZs.out HK20.out)
          have HSS := Lib.hid (show w4.drew.rangeAt p7 0 (intsV k) ∧ w4.drew.there p8 0 20 ∧ w4.drew.cell? ⟨b, 1, none⟩ = some (.string s) from ⟨range20 B7k.out, there20 B8k.out HZs.out, c1⟩)
          have HST := Lib.hid (show (w4.drew.setCells p8 0 (intsV k)).rangeAt p7 0 (intsV k) ∧ (w4.drew.setCells p8 0 (intsV k)).there p8 0 20 ∧ (w4.drew.setCells p8 0 (intsV k)).cell? ⟨b, 1, none⟩ = some (.string s) by
            obtain ⟨n1, n2⟩ := row_grown9 (cs' := (intsV k).toArray) B8k.out
            rw [HRC.out]
            refine ⟨range20 ((n2.block p7 (Array.getElem?_eq_some_iff.1 B7k.out).1 (fun e => hne (by cases e; rfl))).trans B7k.out), there20 n1 (by simp [intsV_len, HK20.out]), n2.cell (show w4.drew.cell? _ = _ from c1) (fun e => ?_)⟩
            have h8 := B8.out
            cases e
            have := S4.out.P; rw [h8] at this; simp at this)
          go_upto_region 27 with fail
          have hUA : Tryd.prog.underlying 27 = some (.array 20 3) := Tryd.underlying27
          have hIA : (Tryd.prog.info? 27).map (·.size) = some (intsV k).length := by rw [HLk.out]; kernel_rfl
          have hIL : (intsV k).length = 20 := HLk.out
          have hI1 : ∀ v ∈ intsV k, v.oneCell' = true := fun v hv => (Array.all_eq_true_iff_forall_mem.1 (one20 k)) v (by simpa using hv)
          go_region_held3 (fun W => W.rangeAt p7 0 (intsV k) ∧ W.there p8 0 20 ∧ W.cell? ⟨b, 1, none⟩ = some (.string s)) (first
            | exact HSS.out
            | exact HST.out) (fail)
          clear hUA hIA hIL hI1
          rw [HRC.out]
          have HF := Lib.hid (from_fin (w := w) (Z2 := Z.set c true) (out := k) (ok := true) (S4.out.grown (grown_drew (World.grownBy.refl _ _))) B8k.out HP8.out HW8.out (grown_drew GG4.out) (by have := fromR_win HO.out HS2.out HK20.out; rw [HD.out] at this; exact this))
          go_wp2
          exact bodyPost_ret (v := .tuple #[.agg (intsV k).toArray, .bool true]) (back20 Tryd.results15 rfl rfl HF.out.1 HK20.out) rfl HF.out.2
        · have HS2 := Lib.hid (show stp9 s i ⟨n, q, k⟩ = some [] by unfold stp9; rw [if_neg (by omega), if_neg (by omega), if_neg (by omega), if_neg (by omega), if_neg (by omega), if_neg (by omega), if_pos ho]; exact if_neg hqs)
          have hqb : ((q : Int) == s.size) = false := by simp; omega
          clear ho hqs
          have HLk := Lib.hid (show (intsV k).length = 20 by rw [intsV_len]; exact HK20.out)
          have HZs := Lib.hid (show Zr.size = 20 by rw [HZr.out]; simp [intsV_len, zeroK])
          have B7k := Lib.hid (show w4.drew.heap[p7]? = some (.cells (intsV k).toArray 27 (0, 0)) by rw [← HK.out]; exact B7.out)
          have B8k := Lib.hid (show w4.drew.heap[p8]? = some (.cells Zr 27 (0, 0)) from B8.out)
          have HRC := Lib.hid (rows_cells9 (k := k) B8k.out HZs.out HK20.out)
          have HSS := Lib.hid (show w4.drew.rangeAt p7 0 (intsV k) ∧ w4.drew.there p8 0 20 ∧ w4.drew.cell? ⟨b, 1, none⟩ = some (.string s) from ⟨range20 B7k.out, there20 B8k.out HZs.out, c1⟩)
          have HST := Lib.hid (show (w4.drew.setCells p8 0 (intsV k)).rangeAt p7 0 (intsV k) ∧ (w4.drew.setCells p8 0 (intsV k)).there p8 0 20 ∧ (w4.drew.setCells p8 0 (intsV k)).cell? ⟨b, 1, none⟩ = some (.string s) by
            obtain ⟨n1, n2⟩ := row_grown9 (cs' := (intsV k).toArray) B8k.out
            rw [HRC.out]
            refine ⟨range20 ((n2.block p7 (Array.getElem?_eq_some_iff.1 B7k.out).1 (fun e => hne (by cases e; rfl))).trans B7k.out), there20 n1 (by simp [intsV_len, HK20.out]), n2.cell (show w4.drew.cell? _ = _ from c1) (fun e => ?_)⟩
            have h8 := B8.out
            cases e
            have := S4.out.P; rw [h8] at this; simp at this)
          go_upto_region 27 with fail
          have hUA : Tryd.prog.underlying 27 = some (.array 20 3) := Tryd.underlying27
          have hIA : (Tryd.prog.info? 27).map (·.size) = some (intsV k).length := by rw [HLk.out]; kernel_rfl
          have hIL : (intsV k).length = 20 := HLk.out
          have hI1 : ∀ v ∈ intsV k, v.oneCell' = true := fun v hv => (Array.all_eq_true_iff_forall_mem.1 (one20 k)) v (by simpa using hv)
          go_region_held3 (fun W => W.rangeAt p7 0 (intsV k) ∧ W.there p8 0 20 ∧ W.cell? ⟨b, 1, none⟩ = some (.string s)) (first
            | exact HSS.out
            | exact HST.out) (fail)
          clear hUA hIA hIL hI1
          rw [HRC.out]
          have HF := Lib.hid (from_fin (w := w) (Z2 := Z.set c true) (out := k) (ok := false) (S4.out.grown (grown_drew (World.grownBy.refl _ _))) B8k.out HP8.out HW8.out (grown_drew GG4.out) (by have := fromR_none (out := k) HO.out HS2.out HK20.out; rw [HD.out] at this; exact this))
          go_wp2
          exact bodyPost_ret (v := .tuple #[.agg (intsV k).toArray, .bool false]) (back20 Tryd.results15 rfl rfl HF.out.1 HK20.out) rfl HF.out.2
      · rw [ho] at k0
        by_cases hqs : q < s.size
        · have h256 : (s[q]).toNat < 256 := UInt8.toNat_lt _
          have u1 : ∀ u : Gr w4, u.W.cell? ⟨b, 1, none⟩ = _ := fun u => u.g.cell c1 (by simp)
          have u3 : ∀ u : Gr w4, u.W.cell? ⟨p10, 3, none⟩ = _ := fun u => u.g.cell k3 (by simp)
          have u4 : ∀ u : Gr w4, u.W.cell? ⟨p10, 4, none⟩ = _ := fun u => u.g.cell k4 (by simp)
          have u5 : ∀ u : Gr w4, u.W.cell? ⟨p10, 5, none⟩ = _ := fun u => u.g.cell k5 (by simp)
          have u6 : ∀ u : Gr w4, u.W.cell? ⟨p10, 6, none⟩ = _ := fun u => u.g.cell k6 (by simp)
          have inst : Nonempty (Gr w4) := ⟨⟨w4, World.grownBy.refl _ _⟩⟩
          cases hb : inn i.s (s[q]).toNat
          · have HS2 := Lib.hid (show stp9 s i ⟨n, q, k⟩ = some [] by unfold stp9; rw [if_pos ho]; exact congrArg some (if_neg (by show ¬ byt9 s q i.s = true; unfold byt9; rw [dif_pos hqs, hb]; simp)))
            have CH := Lib.hid (fun u : Gr w4 => hb ▸ cRHas i.s (s[q]).toNat u.W h256)
            clear ho hb
            go_upto_region 7 with fail
            refine wp_region_grows (by kernel_rfl) (by kernel_rfl) ?_
            repeat (go_big_quiet_step (first | (go_at_call 24; refine (CH.out _).mono ?_; rintro e w9 ⟨he, g9⟩; exact ⟨he, ⟨_, (Gr.g _).trans g9⟩, rfl⟩)))
            refine wpQuiet_nil ?_
            rintro w9 ⟨⟨_, g9⟩, rfl⟩
            have S4 := Lib.hid (S4.out.grown g9)
            have B8 := Lib.hid (heap_grown g9 B8.out)
            have B7 := Lib.hid (heap_grown g9 B7.out)
            have GG4 := Lib.hid (GG4.out.trans (grown_up g9 _))
            go_wp2_with (refine wpList_store_row rfl 27 (.tmp 8) (.tmp 189) rfl p8 Zr rfl rfl 27 Zr B8.out HSZ.out rfl H1C.out ?_; rw [HZr.out])
            have HF := Lib.hid (from_fin (w := w) (Z2 := Z.set c true) S4.out B8.out HP8.out HW8.out GG4.out (by have := fromR_none (out := zeroK) HO.out HS2.out rfl; rw [HD.out] at this; exact this))
            exact bodyPost_ret (v := .tuple #[.agg (intsV zeroK).toArray, .bool false]) (back20 Tryd.results15 rfl rfl HF.out.1 rfl) rfl HF.out.2
          · have HS2 := Lib.hid (show stp9 s i ⟨n, q, k⟩ = some [⟨(n : Int) + 1, q + 1, k⟩] by unfold stp9; rw [if_pos ho]; exact congrArg some (if_pos (by show byt9 s q i.s = true; unfold byt9; rw [dif_pos hqs, hb])))
            have CH := Lib.hid (fun u : Gr w4 => hb ▸ cRHas i.s (s[q]).toNat u.W h256)
            clear ho hb
            go_upto_region 7 with fail
            refine wp_region_grows (by kernel_rfl) (by kernel_rfl) ?_
            repeat (go_big_quiet_step (first | (go_at_call 24; refine (CH.out _).mono ?_; rintro e w9 ⟨he, g9⟩; exact ⟨he, ⟨_, (Gr.g _).trans g9⟩, rfl⟩)))
            refine wpQuiet_nil ?_
            rintro w9 ⟨⟨_, g9⟩, rfl⟩
            have S4 := Lib.hid (S4.out.grown g9)
            have B8 := Lib.hid (heap_grown g9 B8.out)
            have B7 := Lib.hid (heap_grown g9 B7.out)
            have GG4 := Lib.hid (GG4.out.trans (grown_up g9 _))
            have CF := Lib.hid (HCF.out ((n : Int) + 1) (q + 1) k w9 S4.out (by omega) HK20.out)
            rw [← HK.out, show ((q + 1 : Nat) : Int) = (q : Int) + 1 from rfl] at CF
            go_wp2_with (first
              | (refine wpList_load_row rfl 27 (.tmp 7) rfl p7 rfl 27 K (0, 0) _ B7.out Tryd.underlying27 rfl HSK.out ?_)
              | (go_at_call 15; (with_reducible refine (CF.out).mono ?_); rintro e w5 ⟨Z2, out, ok, rfl, S5, g5, R5⟩; have B8' := Lib.hid (S4.out.nb B8.out (by decide) g5); have S5 := Lib.hid S5; have R5 := Lib.hid R5; have G5 := Lib.hid (GG4.out.trans g5); clear g5)
              | (refine wpList_store_row rfl 27 (.tmp 8) (.tmp 95) rfl p8 (intsV out).toArray rfl rfl 27 Zr B8'.out (size20 out R5.out.2.2.1) (by rw [HZr.out]; simp [intsV_len, R5.out.2.2.1, zeroK]) (one20 out) ?_))
            have HF := Lib.hid (from_fin (w := w) S5.out B8'.out HP8.out HW8.out G5.out (fromR_go HO.out HS2.out (by rw [HD.out]; exact R5.out)))
            exact bodyPost_ret (v := .tuple #[.agg (intsV out).toArray, .bool ok]) (back20 Tryd.results15 rfl rfl HF.out.1 R5.out.2.2.1) rfl HF.out.2
        · have HS2 := Lib.hid (show stp9 s i ⟨n, q, k⟩ = some [] by unfold stp9; rw [if_pos ho]; exact congrArg some (if_neg (by show ¬ byt9 s q i.s = true; unfold byt9; rw [dif_neg hqs]; simp)))
          have hqb : decide ((q : Int) < s.size) = false := by simpa using hqs
          clear ho
          go_upto_region 7 with fail
          go_quiet (fail)
          have S4 := Lib.hid (S4.out.grown (grown_drewN (World.grownBy.refl _ _) nq))
          have B8 := Lib.hid (show (w4.drewN nq).heap[p8]? = some (.cells Zr 27 (0, 0)) by rw [drewN_heap]; exact B8.out)
          have GG4 := Lib.hid (grown_drewN GG4.out nq)
          go_wp2_with (refine wpList_store_row rfl 27 (.tmp 8) (.tmp 189) rfl p8 Zr rfl rfl 27 Zr B8.out HSZ.out rfl H1C.out ?_; rw [HZr.out])
          have HF := Lib.hid (from_fin (w := w) (Z2 := Z.set c true) S4.out B8.out HP8.out HW8.out GG4.out (by have := fromR_none (out := zeroK) HO.out HS2.out rfl; rw [HD.out] at this; exact this))
          exact bodyPost_ret (v := .tuple #[.agg (intsV zeroK).toArray, .bool false]) (back20 Tryd.results15 rfl rfl HF.out.1 rfl) rfl HF.out.2
      · obtain ⟨n0, n1, n2, n3, n4, n5, n6⟩ := ho
        have HS2 := Lib.hid (show stp9 s i ⟨n, q, k⟩ = some [] by unfold stp9; rw [if_neg n0, if_neg n1, if_neg n2, if_neg n3, if_neg n4, if_neg n5, if_neg n6])
        generalize i.o = io at k0 n0 n1 n2 n3 n4 n5 n6
        have e0 : (io == 0) = false := by simpa using n0
        have e1 : (io == 1) = false := by simpa using n1
        have e2 : (io == 2) = false := by simpa using n2
        have e3 : (io == 3) = false := by simpa using n3
        have e4 : (io == 4) = false := by simpa using n4
        have e5 : (io == 5) = false := by simpa using n5
        have e6 : (io == 6) = false := by simpa using n6
        clear n0 n1 n2 n3 n4 n5 n6
        go_wp2_with (refine wpList_store_row rfl 27 (.tmp 8) (.tmp 189) rfl p8 Zr rfl rfl 27 Zr B8.out HSZ.out rfl H1C.out ?_; rw [HZr.out])
        have HF := Lib.hid (from_fin (w := w) (Z2 := Z.set c true) S4.out B8.out HP8.out HW8.out GG4.out (by have := fromR_none (out := zeroK) HO.out HS2.out rfl; rw [HD.out] at this; exact this))
        exact bodyPost_ret (v := .tuple #[.agg (intsV zeroK).toArray, .bool false]) (back20 Tryd.results15 rfl rfl HF.out.1 rfl) rfl HF.out.2
end Go.Proofs.YtgpmhnpacpgckaaDoor

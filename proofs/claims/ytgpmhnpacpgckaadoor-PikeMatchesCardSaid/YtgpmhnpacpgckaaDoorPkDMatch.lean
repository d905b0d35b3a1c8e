/- The document's own match: the walk of its Match. -/
import Derived.Test.YtgpmhnpacpgckaaDoorPkFrom
namespace Go.Proofs.YtgpmhnpacpgckaaDoor
open Go.RowKit

theorem cFrom (L : List Ins) (s : ByteArray) (w0 : World) (b : Nat) (pa : Option Addr) (pc : Nat) (zv : Value) (hC : CRow w0 (.slice pa L.length pc) L) (hL : L.length ≤ 1000) (hs : s.size ≤ 1000) :
    ∀ (c : Nat) (Z : List Bool) (a : Int) (q : Nat) (k : List Int) (w : World), Z.count false ≤ c → Z.length = L.length * (s.size + 1) → Sr w0 b (.slice pa L.length pc) s zv Z w → q ≤ s.size → k.length = 20 →
      Calls Tryd.prog 15 #[.pointer (some ⟨b, 0, none⟩), .int .i64 a, .int .i64 q, .agg (intsV k).toArray] w (FromOut L s w0 b (.slice pa L.length pc) zv Z ⟨a, q, k⟩ w) := by
  intro c
  induction c with
  | zero =>
    intro Z a q k w hc hZ h hq hk
    exact cFromStep L s w0 b pa pc zv hC hL hs Z hZ (fun Z' a' q' k' w' h1 h2 h3 h4 h5 => by omega) a q k w h hq hk
  | succ c ih =>
    intro Z a q k w hc hZ h hq hk
    exact cFromStep L s w0 b pa pc zv hC hL hs Z hZ (fun Z' a' q' k' w' h1 h2 h3 h4 h5 => ih Z' a' q' k' w' (by omega) (by rw [h2]; exact hZ) h3 h4 h5) a q k w h hq hk
/-- what the document's match answers -/
def DMatchOut (L : List Ins) (s : ByteArray) (e : Ending) : Prop :=
  ∃ k ok, e = .returned (.tuple #[.agg (intsV k).toArray, .bool ok]) ∧ k.length = 20 ∧ Run9 L s [⟨0, 0, noK⟩] (fun _ _ => false) (if ok then some k else none)
theorem vis_none (m n : Nat) : vis9 m (List.replicate n false) = fun _ _ => false := by
  funext a q
  unfold vis9
  rw [List.getElem?_replicate]
  split <;> simp
theorem infoB9 : (Tryd.prog.info? 4).map (fun i => (i.zero, i.size, i.bytes)) = some (some (.bool false), 1, 1) := by kernel_rfl
theorem fromR_match {L : List Ins} {s : ByteArray} {n : Nat} {Z' : List Bool} {out : List Int} {ok : Bool} (h : FromR L s (List.replicate n false) ⟨0, 0, noK⟩ Z' out ok) : Run9 L s [⟨0, 0, noK⟩] (fun _ _ => false) (if ok then some out else none) := by
  obtain ⟨-, -, -, h4⟩ := h
  rw [vis_none] at h4
  rcases h4 with ⟨rfl, h⟩ | ⟨rfl, h⟩
  · exact h []
  · exact h [] none (.nil _)

set_option maxRecDepth 100000 in
set_option maxHeartbeats 4000000 in
theorem cDMatch (L : List Ins) (s : ByteArray) (pa : Option Addr) (pc : Nat) (w : World) (hC : CRow w (.slice pa L.length pc) L) (hL : L.length ≤ 1000) (hs : s.size ≤ 1000) :
    Calls Tryd.prog 7 #[.slice pa L.length pc, .string s] w fun e w' => DMatchOut L s e ∧ w.grownBy w' none := by
  have HC := Lib.hid hC
  obtain ⟨hz, -⟩ := zero_of_info info20
  obtain ⟨Zr, hZr⟩ : ∃ Zr, Zr = (intsV zeroK).toArray := ⟨_, rfl⟩
  have HZr := Lib.hid hZr
  rw [← hZr] at hz
  obtain ⟨i0, hi, hz0, hz1, hz2⟩ := info_parts infoB9
  have I := Lib.hid hi; have Z0 := Lib.hid hz0; have Z1 := Lib.hid hz1; have Z2 := Lib.hid hz2
  obtain ⟨c, hc⟩ : ∃ c, c = L.length * (s.size + 1) := ⟨_, rfl⟩
  have hcm : c ≤ 1001000 := by rw [hc]; have := Nat.mul_le_mul hL (show s.size + 1 ≤ 1001 by omega); omega
  have e1 : IntKind.i64.wrap ((s.size : Int) + 1) = (s.size : Int) + 1 := by rw [IntKind.wrap_i64]; omega
  have e2 : IntKind.i64.wrap ((L.length : Int) * ((s.size : Int) + 1)) = (c : Int) := by
    have : (L.length : Int) * ((s.size : Int) + 1) = (c : Int) := by rw [hc]; push_cast; rfl
    rw [this, IntKind.wrap_i64]; omega
  have HCL := Lib.hid hc
  have B4 := Lib.hid (heap_alloc_new w (.cells Zr 27))
  have G1 := Lib.hid (World.grownBy_alloc w (.cells Zr 27) none)
  clear hC hZr hi hz0 hz1 hz2 hc
  go_enter Tryd.func7, Tryd.ntmps7
  go_upto_region 1 with fail
  generalize w.alloc _ = w1 at B4 G1 ⊢
  obtain ⟨p4, e4⟩ : ∃ p, p = w.heap.size := ⟨_, rfl⟩
  have HP4 := Lib.hid (show w.heap.size ≤ p4 by omega)
  rw [← e4] at B4 ⊢
  clear e4
  go_upto_region 2 with (at_make; refine wpList_make_full _ rfl (.tmp 18) (.tmp 18) 50 rfl w1.heap.size 4 i0 _ 1 Tryd.underlying50 I.out Z0.out Z1.out .i64 .i64 _ _ c rfl rfl (by first | rfl | exact e2) (by first | rfl | exact e2) (by rw [Z2.out]; omega) (by unfold maxLen; omega) (Nat.le_refl _) ?_; intro w2 hown2 hg2; have O2 := Lib.hid hown2; have G2 := Lib.hid hg2; clear hown2 hg2)
  clear e1 e2
  have ga := World.grownBy_alloc w2 (.cells #[.slice pa L.length pc, .string s, .slice (some ⟨w1.heap.size, 0, none⟩) c c] 52) none
  have S3 := Lib.hid (show Sr w w2.heap.size (.slice pa L.length pc) s (.slice (some ⟨w1.heap.size, 0, none⟩) c c) (List.replicate c false) (w2.alloc (.cells #[.slice pa L.length pc, .string s, .slice (some ⟨w1.heap.size, 0, none⟩) c c] 52)) from by
    refine ⟨(G1.out.trans G2.out).trans ga, (G1.out.trans G2.out).size, heap_alloc_new w2 _, ?_⟩
    have h := own_base O2.out G1.out.size
    have hm := made_one (.bool false) (c * 1)
    rw [show (Value.bool false).cells = #[.bool false] from rfl, hm] at h
    rw [List.length_replicate, show boolV (List.replicate c false) = (Array.replicate (c * 1) (Value.bool false)).toList by simp [boolV]]
    exact h.kept ga (.inr (by simp [Value.ownBlock])))
  have B4 := Lib.hid (heap_grown ga (heap_grown G2.out B4.out))
  clear ga O2 G2 I Z0 Z1 Z2
  generalize w2.alloc _ = w3 at S3 B4 ⊢
  generalize w2.heap.size = b at S3 ⊢
  generalize (Value.slice (some ⟨w1.heap.size, 0, none⟩) c c) = zv at S3 ⊢
  have HSZ := Lib.hid (show (Tryd.prog.info? 27).map (·.size) = some Zr.size by rw [HZr.out]; exact size20 zeroK rfl)
  have H1C := Lib.hid (show Zr.all (·.oneCell') = true by rw [HZr.out]; exact one20 _)
  go_upto_region 3 with (refine wpList_store_row rfl 27 (.tmp 7) (.tmp 22) rfl _ Zr rfl rfl 27 Zr (heap_alloc_new _ _) HSZ.out rfl H1C.out ?_)
  have ga := World.grownBy_alloc w3 (.cells Zr 27) none
  obtain ⟨n1, n2⟩ := row_grown9 (cs' := Zr) (heap_alloc_new w3 (.cells Zr 27))
  have g4 : w3.grownBy ((w3.alloc (.cells Zr 27)).setRow w3.heap.size Zr) none := ga.andThen n2 (fun j hj => .inl (by cases hj; exact Nat.le_refl _))
  have B7 := Lib.hid n1
  have S4 := Lib.hid (S3.out.grown g4)
  have H47 := Lib.hid (show p4 ≠ w3.heap.size from fun e => by have := (Array.getElem?_eq_some_iff.1 B4.out).1; omega)
  have HP7 := Lib.hid (show w.heap.size ≤ w3.heap.size from S3.out.G.size)
  have B4 := Lib.hid (heap_grown g4 B4.out)
  have B7 := Lib.hid (show ((w3.alloc (.cells Zr 27)).setRow w3.heap.size Zr).heap[w3.heap.size]? = some (.cells (intsV (fillK 0)).toArray 27 (0, 0)) by rw [B7.out, HZr.out]; rfl)
  clear ga n1 n2 g4 S3
  generalize (w3.alloc _).setRow _ _ = w4 at B7 S4 B4 ⊢
  generalize w3.heap.size = p7 at B7 H47 HP7 ⊢
  go_wp2
  go_loopw [8, 23] (fun _ i wr => ∃ k : Nat, k ≤ 20 ∧ i = .int .i64 k ∧ Hid (Sr w b (.slice pa L.length pc) s zv (List.replicate c false) wr) ∧ Hid (wr.heap[p7]? = some (.cells (intsV (fillK k)).toArray 27 (0, 0))) ∧ Hid (wr.heap[p4]? = some (.cells Zr 27 (0, 0)))) (fun _ i _ => 20 - (intOf i).toNat)
  case atStart => exact ⟨0, by omega, rfl, S4, B7, B4⟩
  case round =>
    obtain ⟨k, hk, rfl, hS, hB, h4⟩ := hrel
    by_cases hlt : k < 20
    · have c0 := ints_cell hB.out (fill_get hlt)
      have f0 := four_free hB.out k
      have HN := Lib.hid ((heap_setCell_same wr p7 k _ _ (.int .i64 (-1)) hB.out).trans (by rw [intsV_setA, fill_set hlt]))
      have HS := Lib.hid (hS.out.far hB.out HP7.out (grown_cell wr p7 k (.int .i64 (-1))))
      have H4 := Lib.hid ((heap_setCell_other wr ⟨p7, k, none⟩ p4 (.int .i64 (-1)) H47.out).trans h4.out)
      go_wp2
      go_roundw
      case rel => exact ⟨k + 1, by omega, by go_num, HS, HN, H4⟩
      case measure => simp [intOf]; omega
    · obtain rfl : k = 20 := by omega
      have HB := Lib.hid (show wr.heap[p7]? = some (.cells (intsV noK).toArray 27 (0, 0)) from hB.out)
      have CF := Lib.hid (show Calls Tryd.prog 15 #[.pointer (some ⟨b, 0, none⟩), .int .i64 0, .int .i64 0, .agg (intsV noK).toArray] wr (FromOut L s w b (.slice pa L.length pc) zv (List.replicate c false) ⟨0, 0, noK⟩ wr) from
        cFrom L s w b pa pc zv HC.out hL hs c (List.replicate c false) 0 0 noK wr (by simp) (by rw [List.length_replicate]; exact HCL.out) hS.out (Nat.zero_le _) rfl)
      obtain ⟨K, hK⟩ : ∃ K, K = (intsV noK).toArray := ⟨_, rfl⟩
      have HSK := Lib.hid (show (Tryd.prog.info? 27).map (·.size) = some K.size by rw [hK]; exact size20 noK rfl)
      rw [← hK] at HB CF
      clear hK
      go_upto_region 9 with (first
        | (refine wpList_load_row rfl 27 (.tmp 7) rfl p7 rfl 27 K (0, 0) _ HB.out Tryd.underlying27 rfl HSK.out ?_)
        | (go_at_call 15; (with_reducible refine (CF.out).mono ?_); rintro e w5 ⟨Z2, out, ok, rfl, S5, g5, R5⟩; have B4' := Lib.hid (hS.out.nb h4.out (by decide) g5); have S5 := Lib.hid S5; have R5 := Lib.hid R5; clear g5)
        | (refine wpList_store_row rfl 27 (.tmp 9) (.tmp 33) rfl _ (intsV out).toArray rfl rfl 27 Zr (heap_alloc_new _ _) (size20 out R5.out.2.2.1) (by rw [HZr.out]; simp [intsV_len, R5.out.2.2.1, zeroK]) (one20 out) ?_))
      have ga := World.grownBy_alloc w5 (.cells Zr 27) none
      obtain ⟨n1, n2⟩ := row_grown9 (cs' := (intsV out).toArray) (heap_alloc_new w5 (.cells Zr 27))
      have g6 : w5.grownBy ((w5.alloc (.cells Zr 27)).setRow w5.heap.size (intsV out).toArray) none := ga.andThen n2 (fun j hj => .inl (by cases hj; exact Nat.le_refl _))
      have B9 := Lib.hid n1
      have S6 := Lib.hid (S5.out.grown g6)
      have B4' := Lib.hid (heap_grown g6 B4'.out)
      have RM := Lib.hid (fromR_match R5.out)
      have HO20 := Lib.hid R5.out.2.2.1
      have HSO := Lib.hid (size20 out HO20.out)
      clear ga n1 n2 g6 S5 R5
      generalize (w5.alloc _).setRow _ _ = w6 at B9 S6 B4' ⊢
      generalize w5.heap.size = p9 at B9 ⊢
      cases ok
      · go_wp2_with (refine wpList_store_row rfl 27 (.tmp 4) (.tmp 37) rfl p4 Zr rfl rfl 27 Zr B4'.out HSZ.out rfl H1C.out ?_; rw [HZr.out])
        have HF := Lib.hid (row_grown9 (cs' := (intsV zeroK).toArray) B4'.out)
        exact bodyPost_ret (v := .tuple #[.agg (intsV zeroK).toArray, .bool false]) (back20 Tryd.results7 rfl rfl HF.out.1 rfl) rfl ⟨⟨zeroK, false, rfl, rfl, RM.out⟩, S6.out.G.andThen HF.out.2 (fun j hj => .inl (by cases hj; exact HP4.out))⟩
      · go_wp2_with (first
          | (refine wpList_load_row rfl 27 (.tmp 9) rfl p9 rfl 27 (intsV out).toArray (0, 0) _ B9.out Tryd.underlying27 rfl HSO.out ?_)
          | (refine wpList_store_row rfl 27 (.tmp 4) (.tmp 38) rfl p4 (intsV out).toArray rfl rfl 27 Zr B4'.out HSO.out (by rw [HZr.out]; simp [intsV_len, HO20.out, zeroK]) (one20 out) ?_))
        have HF := Lib.hid (row_grown9 (cs' := (intsV out).toArray) B4'.out)
        exact bodyPost_ret (v := .tuple #[.agg (intsV out).toArray, .bool true]) (back20 Tryd.results7 rfl rfl HF.out.1 HO20.out) rfl ⟨⟨out, true, rfl, HO20.out, RM.out⟩, S6.out.G.andThen HF.out.2 (fun j hj => .inl (by cases hj; exact HP4.out))⟩
end Go.Proofs.YtgpmhnpacpgckaaDoor

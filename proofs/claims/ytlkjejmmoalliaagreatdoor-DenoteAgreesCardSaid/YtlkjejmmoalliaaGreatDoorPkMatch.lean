/- A program's match of a text: the walk of Match. -/
import Derived.Test.YtlkjejmmoalliaaGreatDoorPkHere
import Derived.Test.YtlkjejmmoalliaaGreatDoorPkRep
namespace Go.Proofs.YtlkjejmmoalliaaGreatDoor
open Go.RowKit

/-- what a match answers -/
def MatchOut (r : Option (List Int)) (e : Ending) (w' : World) : Prop :=
  (r = none ∧ e = .returned (.tuple #[.slice none 0 0, .bool false])) ∨
  ∃ b k, r = some k ∧ e = .returned (.tuple #[.slice (some ⟨b, 0, none⟩) 20 20, .bool true]) ∧ w'.heap[b]? = some (.cells (intsV k).toArray 83 (0, 0)) ∧ k.length = 20
/-- what is so at the head of the loop over the places -/
def Hm (L : List Ins) (s : ByteArray) (w0 : World) (p : Nat) (cv bv : Value) (r : Option (List Int)) (q : Nat) (w : World) : Prop :=
  ∃ sv nv N B V, Wk w0 p cv s q bv B sv [] nv N w ∧ Mk9 L q B V ∧ Run9 L s (N.map (toY q)) V r ∧ N.length ≤ L.length + 1 ∧ (s.size < q → N = [])

set_option maxRecDepth 100000 in
set_option maxHeartbeats 4000000 in
theorem cMatch9 (L : List Ins) (s : ByteArray) (ca : Option Addr) (cc : Nat) (r : Option (List Int)) (w : World)
    (hC : CRow w (.slice ca L.length cc) L) (hL : L.length ≤ 1000) (hs : s.size ≤ 1000000) (hR : Run9 L s [⟨0, 0, noK⟩] (fun _ _ => false) r) :
    Calls Tryz.prog 8 #[.slice ca L.length cc, .string s] w fun e w' => MatchOut r e w' ∧ w.grownBy w' none := by
  have HC := Lib.hid hC
  have HR := Lib.hid hR
  have ga := World.grownBy_alloc w (.cells #[.int .i64 (-1)] 3) none
  have CR := Lib.hid (cRepeat9 w.heap.size L.length (-1) (w.alloc (.cells #[.int .i64 (-1)] 3)) (by omega) (one_cell (heap_alloc_new w _)))
  have G1 := Lib.hid ga
  have CN := Lib.hid cNothing
  clear hC hR ga
  go_enter Tryz.func8, Tryz.ntmps8
  go_upto_region 2 with (first
    | (go_at_call 17; (with_reducible refine (CR.out).mono ?_); rintro e w2 ⟨r2, rfl, o2, g2⟩; have O2 := Lib.hid o2; have G2 := Lib.hid (G1.out.trans g2); clear o2 g2)
    | (go_at_call 18; (with_reducible refine (CN.out _).mono ?_); rintro e w3 ⟨b3, rfl, h3, l3, g3⟩; have H3 := Lib.hid h3; have L3 := Lib.hid l3; have G3 := Lib.hid g3; clear h3 l3 g3))
  obtain ⟨N1, N2, gg⟩ := heap2 w3 (.cells #[.int .i64 0, .pointer (some ⟨b3, 0, none⟩)] 57) (.cells #[.slice ca L.length cc, .string s, .int .i64 0, .slice (some ⟨r2, 0, none⟩) L.length L.length, .slice none 0 0, .slice (some ⟨w3.heap.size, 0, none⟩) 1 1] 60)
  have HS := Lib.hid (show w.heap.size ≤ w3.heap.size from (G2.out.trans G3.out).size)
  have W4 := Lib.hid (show Wk w (w3.heap.size + 1) (.slice ca L.length cc) s 0 (.slice (some ⟨r2, 0, none⟩) L.length L.length) (List.replicate L.length (-1)) (.slice none 0 0) [] (.slice (some ⟨w3.heap.size, 0, none⟩) 1 1) [⟨0, b3, noK⟩] ((w3.alloc (.cells #[.int .i64 0, .pointer (some ⟨b3, 0, none⟩)] 57)).alloc (.cells #[.slice ca L.length cc, .string s, .int .i64 0, .slice (some ⟨r2, 0, none⟩) L.length L.length, .slice none 0 0, .slice (some ⟨w3.heap.size, 0, none⟩) 1 1] 60)) from by
    refine ⟨(G2.out.trans G3.out).trans gg, by have := HS.out; omega, N2, ?_, World.ownsRow_nil _ _ _ _, ⟨rfl, .inr ⟨w3.heap.size, 1, _, rfl, HS.out, N1, Nat.le_refl _, by decide, rfl, rfl⟩⟩, (fun g e => by cases e), (fun x hx => by cases hx), fun x hx => ?_⟩
    · rw [List.length_replicate]
      exact (own_base O2.out G1.out.size).kept (G3.out.trans gg) (.inr (by simp [Value.ownBlock]))
    · simp at hx; subst hx
      exact ⟨heap_grown gg H3.out, Nat.le_trans G2.out.size L3.out, rfl⟩)
  have M4 := Lib.hid (Mk9.start L)
  clear N1 N2 gg O2 G2 G3 L3 H3 CR CN G1
  generalize ((w3.alloc _).alloc _) = w4 at W4 ⊢
  obtain ⟨p, hp⟩ : ∃ p, p = w3.heap.size + 1 := ⟨_, rfl⟩
  rw [← hp] at W4 ⊢
  clear hp HS
  generalize (Value.slice (some ⟨r2, 0, none⟩) L.length L.length) = bv at W4 ⊢
  have H5 := Lib.hid (show Hm L s w p (.slice ca L.length cc) bv r 0 (w4.setCell ⟨p, 2, none⟩ (.int .i64 0)) from
    ⟨_, _, _, _, _, W4.out.poke (grown_cell w4 p 2 _) (heap_setCell_same w4 p 2 _ _ (.int .i64 0) W4.out.P) W4.out.oS W4.out.oN W4.out.ap W4.out.KS W4.out.KN, M4.out, HR.out, by simp, fun h => by omega⟩)
  obtain ⟨c0, c1, c2, c3, c4, c5⟩ := six_cells W4.out.P
  have fp := four_free W4.out.P
  go_wp2
  clear c0 c1 c2 c3 c4 c5 fp W4 M4 HR
  generalize w4.setCell _ _ = w5 at H5 ⊢
  go_loopg [7] (s.size + 1) (fun g _ wr => ∃ q, q + g = s.size + 1 ∧ Hid (Hm L s w p (.slice ca L.length cc) bv r q wr))
  case atStart => exact ⟨0, by omega, H5⟩
  case round =>
    obtain ⟨q, hqg, hH⟩ := hrel
    obtain ⟨sv, nv, N, B, V, hW, hM, hR, hl, he⟩ := hH.out
    have W6 := Lib.hid hW; have M6 := Lib.hid hM; have R6 := Lib.hid hR
    have HQ := Lib.hid hqg
    have hqs : q ≤ s.size + 1 := by omega
    obtain ⟨na, nc, rfl⟩ := owns_shape hW.oN
    obtain ⟨c0, c1, c2, c3, c4, c5⟩ := six_cells hW.P
    by_cases hN : N = []
    · subst hN
      have HRN := Lib.hid (run_nil hR)
      have G6 := Lib.hid hW.G
      clear hW hM hR hH hl he hqg
      by_cases hle : q ≤ s.size
      all_goals
        go_wp2
        go_ret2
        exact ⟨.inl ⟨HRN.out, rfl⟩, G6.out⟩
    · have hle : q ≤ s.size := by
        rcases Nat.lt_or_ge s.size q with h | h
        · exact (hN (he h)).elim
        · exact h
      have hn0 : 0 < N.length := List.length_pos_iff.2 hN
      have CH := Lib.hid (cHere9 L s w p ca cc q bv r B V sv _ N wr HC.out hW hM hR hle hN hl hL)
      clear hW hM hR hH hl he hqg hN
      go_wp2_with fail
      refine (CH.out).mono ?_
      rintro e w7 hout
      rcases hout with ⟨b7, k7, rfl, rfl, hk, hg⟩ | ⟨rfl, sv', nv', N', B', V', hW, hM, hR, hl, he⟩
      · have K7 := Lib.hid hk; have G7 := Lib.hid hg
        clear hk hg c0 c1 c2 c3 c4 c5
        go_wp2
        go_ret2
        exact ⟨.inr ⟨b7, k7, rfl, rfl, K7.out.H, K7.out.hk⟩, G7.out⟩
      · have W7 := Lib.hid hW; have M7 := Lib.hid hM
        have R7 := Lib.hid (show Run9 L s (N'.map (toY (q + 1))) V' r by simpa [ways9] using hR)
        have E7 := Lib.hid he
        clear c0 c1 c2 c3 c4 c5 CH
        obtain ⟨c0, c1, c2, c3, c4, c5⟩ := six_cells hW.P
        have fp := four_free hW.P
        have W8 := Lib.hid (W7.out.poke (grown_cell w7 p 2 _) (by have := heap_setCell_same w7 p 2 _ _ (.int .i64 ((q : Int) + 1)) W7.out.P; simpa using this) W7.out.oS W7.out.oN W7.out.ap W7.out.KS W7.out.KN (q' := q + 1))
        clear hW hM hR he
        go_wp2
        go_roundg (s.size - q)
        case measure => have := HQ.out; omega
        case rel => exact ⟨q + 1, by have := HQ.out; omega, Lib.hid ⟨_, _, N', B', V', W8.out, M7.out.next, R7.out, by omega, fun h => E7.out (by omega)⟩⟩
end Go.Proofs.YtlkjejmmoalliaaGreatDoor

/- The document's tree: Remove. -/
import Derived.Test.YtbcemenfklgnkaaGreatDoorRefR
namespace Go.Proofs.YtbcemenfklgnkaaGreatDoor
open Go.RowKit Go.Maps

set_option maxRecDepth 100000 in
set_option maxHeartbeats 4000000 in
theorem rRemove_none (p : Nat) (l : List Fl) (s : ByteArray) (w : World) (h : RTree w p l) (hq : hasL l s = false) :
    Calls Tryz.prog 58 #[.pointer (some ⟨p, 0, none⟩), .string s] w fun e w' => e = .returned (.int .i64 8) ∧ w.grownBy w' none := by
  have hcon := rAt p l s w h
  rcases at_cases l s with ⟨-, hi⟩ | ⟨k, f, -, -, -, -, -, h7⟩
  · rw [hi] at hcon
    clear hi hq h
    go_enter Tryz.func58, Tryz.ntmps58
    go_wp2_with (go_at_call 32; refine hcon.mono ?_; rintro e w' ⟨rfl, g1⟩; have G1 := Lib.hid g1; clear g1)
    go_ret
    exact ⟨rfl, G1.out⟩
  · rw [hq] at h7; cases h7

set_option maxRecDepth 100000 in
set_option maxHeartbeats 4000000 in
theorem rRemove_ok (p : Nat) (l : List Fl) (s : ByteArray) (w : World) (h : RTree w p l) (hq : hasL l s = true) (hri : Rising l) :
    Calls Tryz.prog 58 #[.pointer (some ⟨p, 0, none⟩), .string s] w fun e w' => e = .returned (.int .i64 0) ∧ RTree w' p (delL l s) ∧ w.grownBy w' (some p) := by
  have hcon := rAt p l s w h
  rcases at_cases l s with ⟨h7, -⟩ | ⟨k, f, hk, hf, rfl, hi, -, -⟩
  · rw [hq] at h7; cases h7
  rw [hi] at hcon
  have HDEL := Lib.hid (delL_at hf hri)
  have HT := Lib.hid h
  have h40 := h.len40
  have HRI := Lib.hid hri
  obtain ⟨i0, hi0, hz0, hz1, hz2⟩ := info_parts infoFileR
  have I := Lib.hid hi0; have Z0 := Lib.hid hz0; have Z1 := Lib.hid hz1; have Z2 := Lib.hid hz2
  clear hi hq h hri hi0 hz0 hz1 hz2
  go_enter Tryz.func58, Tryz.ntmps58
  go_wp2_with (go_at_call 32; refine hcon.mono ?_; rintro e w1 ⟨rfl, g1⟩; have G1 := Lib.hid g1; clear g1 hcon)
  obtain ⟨a, c, hc, hfr, hrow, hlc, hcm, -, -⟩ := HT.out.grown G1.out
  obtain ⟨b, off, c', f', e, hf', -, -, hb, -, -, -⟩ := hrow.at k hk
  cases e
  have hi1 : (0 : Int) ≤ (k : Int) := Int.natCast_nonneg _
  have hi2 : (k : Int) ≤ (c : Int) := by omega
  have hi3 : (0 : Int) ≤ (k : Int) + 1 := by omega
  have hi4 : (k : Int) + 1 ≤ (l.length : Int) := by omega
  have hw1 : IntKind.i64.wrap ((k : Int) + 1) = (k : Int) + 1 := (IntKind.wrap_i64 _).trans (by omega)
  have HR := Lib.hid hrow
  have PL := Lib.hid (show p < w1.heap.size from cell_block hc)
  have HC := Lib.hid hc; have HF := Lib.hid hfr
  have hdec : decide ((k : Int) < 0) = false := decide_eq_false (by omega)
  have hcA := cell_al (o := .cells #[] 76) hc
  have O0 := Lib.hid ((own_newF w1 w1.heap.size (Nat.le_refl _)).drew)
  have B0 := Lib.hid (below_of_grown (grown_drew (World.grownBy_alloc w1 (.cells #[] 76) none)))
  have PA := Lib.hid (show ∀ j u, (cellsF (l.take k))[j]? = some u → ((w1.alloc (.cells #[] 76)).drew).cell? ((⟨b, off, none⟩ : Addr).add j) = some u from fun j u hu =>
    (HR.out.later B0.out).part 0 (l.take k) (fun j f h => by simp only [Nat.zero_add]; rw [List.getElem?_take] at h; split at h; exact h; cases h) j u hu)
  obtain ⟨o2, hif, ho2⟩ : ∃ o2, (if c = k + 1 then (some ⟨b, off, none⟩ : Option Addr) else some ⟨b, off + (k + 1) * 3, none⟩) = some ⟨b, o2, none⟩ ∧ (o2 = off + (k + 1) * 3 ∨ l.drop (k + 1) = []) := by
    by_cases hck : c = k + 1
    · exact ⟨off, if_pos hck, .inr (List.drop_eq_nil_of_le (by omega))⟩
    · exact ⟨_, if_neg hck, .inl rfl⟩
  have PB := fun (W : World) (hB : Below w1.heap.size w1 W) => show ∀ j u, (cellsF (l.drop (k + 1)))[j]? = some u → W.cell? ((⟨b, o2, none⟩ : Addr).add j) = some u from fun j u hu => by
    rcases ho2 with rfl | e
    · exact (HR.out.later hB).part (k + 1) (l.drop (k + 1)) (fun j f h => by rw [List.getElem?_drop] at h; exact h) j u hu
    · rw [e] at hu; simp [cellsF] at hu
  obtain ⟨ln, hln⟩ : ∃ ln, ln = l.take k ++ l.drop (k + 1) := ⟨_, rfl⟩
  have HIF := Lib.hid hif
  have HAPP := Lib.hid (show cellsF (l.take k) ++ cellsF (l.drop (k + 1)) = cellsF ln by rw [hln, cellsF_append])
  rw [← hln] at HDEL
  have PBH := Lib.hid PB
  have HNEW := Lib.hid (show ln.length = k + (l.length - (k + 1)) by rw [hln, List.length_append, List.length_take, List.length_drop]; omega)
  have SIZES := Lib.hid (show ∀ g ∈ delL l f.n, g.n.size ≤ maxLen ∧ g.c.size ≤ maxLen from fun g hg => HT.out.sizes g (List.mem_filter.1 hg).1)
  have G1' := Lib.hid G1.out
  clear hrow hf hf' HT hif ho2 PB hln
  go_wp2_with fail
  go_region_law (first
    | (refine step_append_own _ rfl (.tmp 12) (.tmp 18) 35 rfl w1.heap.size 76 i0 _ 3 40 Tryz.underlying35 I.out Z0.out Z1.out Z2.out rfl (by decide) _ 0 [] rfl O0.out ⟨b, off, none⟩ k c (cellsF (l.take k)) rfl (by rw [cellsF_len, List.length_take]; omega) PA.out (cellsF_one _) (by unfold maxLen; omega) (by omega) (by simp) ?_; intro v2 w2 hown2 hgrow2 hnil2; clear hnil2; simp only [List.nil_append, Nat.zero_add] at hown2; have OWN2 := Lib.hid hown2; have GROW2 := Lib.hid hgrow2; clear hown2 hgrow2; have cp2 := GROW2.out.cell (show (w1.alloc (.cells #[] 76)).drew.cell? ⟨p, 0, none⟩ = _ from hcA) (ne_of_own O0.out (.inl PL.out)); have B2 := Lib.hid (B0.out.grown GROW2.out (by simp) (fun j e => (O0.out.lt j e).1)))
    | (refine step_append_own _ rfl (.tmp 19) (.tmp 26) 35 rfl w1.heap.size 76 i0 _ 3 40 Tryz.underlying35 I.out Z0.out Z1.out Z2.out rfl (by decide) v2 k (cellsF (l.take k)) rfl OWN2.out ⟨b, o2, none⟩ (l.length - (k + 1)) (c - (k + 1)) (cellsF (l.drop (k + 1))) (congrArg (fun z => Value.slice z (l.length - (k + 1)) (c - (k + 1))) HIF.out) (by rw [cellsF_len, List.length_drop]) (PBH.out _ B2.out) (cellsF_one _) (by unfold maxLen; omega) (by omega) B2.out.size ?_; intro v3 w3 hown3 hgrow3 hnil3; clear hnil3; rw [HAPP.out, ← HNEW.out] at hown3; obtain ⟨a', c', rfl⟩ := slice_of_owns hown3; have OWN3 := Lib.hid hown3; have GROW3 := Lib.hid hgrow3; have cp3 := hgrow3.cell cp2 (ne_of_own OWN2.out (.inl PL.out)); have fp3 : w3.frozen? ⟨p, 0, none⟩ = false := (frozen_kept (hgrow3) (by have := PL.out; have := B2.out.size; omega) (ne_of_own OWN2.out (.inl PL.out))).trans ((B2.out.frozen (p := ⟨p, 0, none⟩) PL.out).trans hfr); have B3 := Lib.hid (B2.out.grown hgrow3 B2.out.size (fun j e => (OWN2.out.lt j e).1)); clear hown3 hgrow3))
  all_goals go_wp2
  all_goals
    go_ret
    rw [HDEL.out] at SIZES ⊢
    have n40 := HNEW.out
    exact ⟨rfl, rtree_set OWN3.out PL.out cp3 fp3 (by omega) SIZES.out, ((G1.out.trans (grown_of_below B3.out)).but (some p)).trans (grown_set w3 p _)⟩
end Go.Proofs.YtbcemenfklgnkaaGreatDoor

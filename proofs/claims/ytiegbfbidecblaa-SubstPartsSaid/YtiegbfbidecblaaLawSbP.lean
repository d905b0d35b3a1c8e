/- The law SubstParts, walked: which words fit a pattern; a list is its chosen ones and its others. -/
import Derived.Test.YtiegbfbidecblaaSbTho
namespace Go.Proofs.Ytiegbfbidecblaa
open Go.RowKit

/-- an element of a row of texts, where its cells lie -/
theorem TxRow.at {w : World} {b : Option Addr} {n c : Nat} {l : List ByteArray} (h : TxRow w (.slice b n c) l) {j : Nat} {x : ByteArray} (hx : l[j]? = some x) :
    ∃ b1 off1, b = some ⟨b1, off1, none⟩ ∧ w.cell? ⟨b1, off1 + j, none⟩ = some (.string x) := by
  obtain ⟨a', c', e, -, hr⟩ := h
  injection e with e1 e2 e3
  subst e1 e3
  obtain ⟨b1, off1, h1, -, hc⟩ := hr (by intro e; rw [e] at hx; simp at hx)
  exact ⟨b1, off1, h1, hc j x hx⟩
theorem TxRow.cell_at {w : World} {b1 off1 n c : Nat} {l : List ByteArray} (h : TxRow w (.slice (some ⟨b1, off1, none⟩) n c) l) {j : Nat} {x : ByteArray} (hx : l[j]? = some x) : w.cell? ⟨b1, off1 + j, none⟩ = some (.string x) := by
  obtain ⟨b2, off2, e, hc⟩ := h.at hx
  cases e
  exact hc
theorem TxRow.grown16 {w w' : World} {v : Value} {l : List ByteArray} (h : TxRow w v l) (hg : w.grownBy w' none) : TxRow w' v l := h.later (below_of_grown hg)
set_option maxRecDepth 100000 in
set_option maxHeartbeats 8000000 in
theorem lSubstParts (v : Value) (l : List ByteArray) (p : ByteArray) (w : World) (h : TxRow w v l) : Calls Try.prog 3 #[v, .string p] w fun e w' => e = .returned (.bool true) ∧ w.grownBy w' none := by
  have CA := Lib.hid (lAlive16 w)
  have HR := Lib.hid h
  obtain ⟨a, c, rfl, -, -⟩ := h
  have CL := Lib.hid (fun w' (g : w.grownBy w' none) => show Calls Try.prog 6 #[.slice a l.length c, .int .i64 30, .int .i64 100] w' fun e w'' => e = .returned (.bool (longQ 30 100 l)) ∧ w' = w'' from cLongT _ l 30 100 w' (HR.out.grown16 g))
  cases hlong : longQ 30 100 l
  case true =>
    rw [hlong] at CL
    go_enter Try.func3, Try.ntmps3
    go_wp2_with (first
      | (go_at_call 5; (with_reducible refine CA.out.mono ?_); rintro e w1 ⟨rfl, g1⟩; have G1 := Lib.hid g1; clear g1)
      | (go_at_call 6; (with_reducible refine (CL.out _ G1.out).mono ?_); rintro e w2 ⟨rfl, rfl⟩))
    go_ret
    exact ⟨rfl, G1.out⟩
  rw [hlong] at CL
  by_cases hs : 60 < p.size
  · go_enter Try.func3, Try.ntmps3
    go_wp2_with (first
      | (go_at_call 5; (with_reducible refine CA.out.mono ?_); rintro e w1 ⟨rfl, g1⟩; have G1 := Lib.hid g1; clear g1)
      | (go_at_call 6; (with_reducible refine (CL.out _ G1.out).mono ?_); rintro e w2 ⟨rfl, rfl⟩))
    go_ret
    exact ⟨rfl, G1.out⟩
  obtain ⟨h30, h100⟩ := longQ_short hlong
  have CC := Lib.hid (fun w' (g : w.grownBy w' none) => sChosen _ l p w' (HR.out.grown16 g) (by omega) (fun x hx => by have := h100 x hx; omega) (by omega))
  have CO := Lib.hid (fun w' (g : w.grownBy w' none) => sOthers _ l p w' (HR.out.grown16 g) (by omega) (fun x hx => by have := h100 x hx; omega) (by omega))
  have H100 := Lib.hid h100
  clear hlong h100
  obtain ⟨A, hA⟩ : ∃ A, thoT p.data.toList true l = A := ⟨_, rfl⟩
  obtain ⟨B, hB⟩ : ∃ B, thoT p.data.toList false l = B := ⟨_, rfl⟩
  rw [hA] at CC
  rw [hB] at CO
  have HA := Lib.hid hA; have HB := Lib.hid hB
  have LA : A.length ≤ l.length := by have := tho_len p.data.toList true l l.length; rw [List.take_of_length_le (Nat.le_refl _), hA] at this; exact this
  have LB : B.length ≤ l.length := by have := tho_len p.data.toList false l l.length; rw [List.take_of_length_le (Nat.le_refl _), hB] at this; exact this
  clear hA hB
  go_enter Try.func3, Try.ntmps3
  go_wp2_with (first
      | (go_at_call 5; (with_reducible refine CA.out.mono ?_); rintro e w1 ⟨rfl, g1⟩; have G1 := Lib.hid g1; clear g1)
      | (go_at_call 6; (with_reducible refine (CL.out _ G1.out).mono ?_); rintro e w2 ⟨rfl, rfl⟩)
      | (go_at_call 7; (with_reducible refine (CC.out _ G1.out).mono ?_); rintro e w3 ⟨g3, va, rfl, ha⟩; have G3 := Lib.hid (G1.out.trans g3); have TA := Lib.hid ha; clear g3 ha)
      | (go_at_call 8; (with_reducible refine (CO.out _ G3.out).mono ?_); rintro e w4 ⟨g4, vb, rfl, hb⟩; have G4 := Lib.hid (G3.out.trans g4); have TA4 := Lib.hid (TA.out.grown16 g4); have TB := Lib.hid hb; clear g4 hb))
  obtain ⟨xa, ca, ea⟩ : ∃ xa ca, va = .slice xa A.length ca := by obtain ⟨x, y, e, -, -⟩ := TA4.out; exact ⟨x, y, e⟩
  obtain ⟨xb, cb, eb⟩ : ∃ xb cb, vb = .slice xb B.length cb := by obtain ⟨x, y, e, -, -⟩ := TB.out; exact ⟨x, y, e⟩
  subst ea eb
  clear CA CL CC CO G1 G3 TA
  go_wp2
  go_loopw [7, 8, 10, 11, 12, 30] (fun i_ k_ _ _ _ n_ wr => ∃ (j i k : Nat), j ≤ l.length ∧ i ≤ j ∧ k ≤ j ∧ n_ = .int .i64 j ∧ i_ = .int .i64 i ∧ k_ = .int .i64 k ∧ Hid (i = (thoT p.data.toList true (l.take j)).length) ∧ Hid (k = (thoT p.data.toList false (l.take j)).length) ∧ Hid (w4.grownBy wr none)) (fun _ _ _ _ _ n_ _ => l.length - (intOf n_).toNat)
  case atStart => exact ⟨0, 0, 0, Nat.zero_le _, Nat.le_refl _, Nat.le_refl _, rfl, rfl, rfl, Lib.hid rfl, Lib.hid rfl, Lib.hid (World.grownBy.refl _ _)⟩
  case round =>
    obtain ⟨j, i, k, hj, hi, hk, rfl, rfl, rfl, hI, hK, hG⟩ := hrel
    by_cases hlt : j < l.length
    · obtain ⟨x, hx⟩ := tx_get l j hlt
      obtain ⟨b1, off1, e1, hcell⟩ := (HR.out.grown16 (G4.out.trans hG.out)).at hx
      subst e1
      have hx100 := H100.out x (List.mem_of_getElem? hx)
      have CM := fun W => dMatch p x W (by omega) (by omega)
      unfold PMt at CM
      obtain ⟨f, hf⟩ : ∃ f, fitB p.data.toList x = f := ⟨_, rfl⟩
      have hf' : (mtcS p.data.toList x.data.toList).isSome = f := hf
      rw [hf'] at CM
      have CM := Lib.hid CM
      have ex : (x.toList == x.toList) = true := by simp
      clear hf'
      cases f
      · have hy := tho_at hx hf
        rw [← hK.out, HB.out] at hy
        have hkl : k < B.length := (List.getElem?_eq_some_iff.1 hy).1
        obtain ⟨b2, off2, e2, -⟩ := TB.out.at hy
        subst e2
        have HC := Lib.hid (fun w5 (g : wr.grownBy w5 none) => (TB.out.grown16 (hG.out.trans g)).cell_at hy)
        have HI := Lib.hid (show i = (thoT p.data.toList true (l.take (j + 1))).length by rw [hI.out, tho_no hx hf])
        have HK := Lib.hid (show k + 1 = (thoT p.data.toList false (l.take (j + 1))).length by rw [hK.out, tho_yes hx hf, List.length_append]; rfl)
        clear hx hf hy
        go_wp2_with (go_at_call 9; (with_reducible refine (CM.out _).mono ?_); rintro e w5 ⟨g5, t, rfl, -⟩; have G5 := Lib.hid (hG.out.trans g5); have hc5 := HC.out _ g5; clear g5)
        go_roundw
        case rel => exact ⟨j + 1, i, k + 1, by omega, by omega, by omega, by go_num, rfl, by go_num, HI, HK, G5⟩
        case measure => simp [intOf]; omega
      · have hy := tho_at hx hf
        rw [← hI.out, HA.out] at hy
        have hkl : i < A.length := (List.getElem?_eq_some_iff.1 hy).1
        obtain ⟨b2, off2, e2, -⟩ := TA4.out.at hy
        subst e2
        have HC := Lib.hid (fun w5 (g : wr.grownBy w5 none) => (TA4.out.grown16 (hG.out.trans g)).cell_at hy)
        have HI := Lib.hid (show i + 1 = (thoT p.data.toList true (l.take (j + 1))).length by rw [hI.out, tho_yes hx hf, List.length_append]; rfl)
        have HK := Lib.hid (show k = (thoT p.data.toList false (l.take (j + 1))).length by rw [hK.out, tho_no hx hf])
        clear hx hf hy
        go_wp2_with (go_at_call 9; (with_reducible refine (CM.out _).mono ?_); rintro e w5 ⟨g5, t, rfl, -⟩; have G5 := Lib.hid (hG.out.trans g5); have hc5 := HC.out _ g5; clear g5)
        go_roundw
        case rel => exact ⟨j + 1, i + 1, k, by omega, by omega, by omega, by go_num, by go_num, rfl, HI, HK, G5⟩
        case measure => simp [intOf]; omega
    · obtain rfl : j = l.length := by omega
      have h1 : i = A.length := by rw [hI.out, List.take_of_length_le (Nat.le_refl _), HA.out]
      have h2 : k = B.length := by rw [hK.out, List.take_of_length_le (Nat.le_refl _), HB.out]
      subst h1 h2
      go_wp2
      go_ret
      exact ⟨rfl, G4.out.trans hG.out⟩
end Go.Proofs.Ytiegbfbidecblaa

/- The law QuoteBack, walked over what Join answers. -/
import Derived.Test.YtolapbhmfljicaaDoorLawQtT
namespace Go.Proofs.YtolapbhmfljicaaDoor
open Go.RowKit

theorem back_out {l : List ByteArray} {t : ByteArray} {A : Nat → Addr} {w w' : World} {e : Ending} (ht : t.data.toList = joinQ (txL l)) (h : PSpl t.data.toList A w e w') :
    w.grownBy w' none ∧ ∃ a o c, e = .returned (.tuple #[.slice a o c, .nilIface]) ∧ TxRow w' (.slice a o c) l := by
  obtain ⟨g, v, O, ev, rfl, hR, hS⟩ := h
  rw [ht, split_join] at hS
  rcases hS with ⟨hS, rfl⟩ | ⟨hS, -, -⟩
  · obtain rfl := txL_inj (Option.some.inj hS)
    obtain ⟨a, c, rfl, h⟩ := hR
    exact ⟨g, _, _, _, rfl, a, c, rfl, h⟩
  · cases hS
set_option maxRecDepth 100000 in
set_option maxHeartbeats 1000000 in
theorem lQuoteBack (v : Value) (l : List ByteArray) (A : Nat → Addr) (w : World) (hE : QErr A w) (hR : TxRow w v l)
    (HJ : ∀ (W : World) (u : Value), MaxI W → TxRow W u l → l.length ≤ 20 → (∀ x ∈ l, x.size ≤ 60) → Calls Tryd.prog 23 #[u] W (PTxt (joinQ (txL l)) W)) :
    Calls Tryd.prog 5 #[v] w fun e w' => e = .returned (.bool true) ∧ w.grownBy w' none := by
  have CA := Lib.hid (lAlive11 A w hE)
  have HE := Lib.hid hE
  have HR := Lib.hid hR
  have CJ := Lib.hid HJ
  clear hE hR HJ
  go_enter Tryd.func5, Tryd.ntmps5
  cases hl : longQ 20 60 l with
  | true =>
    go_wp2_with (first
      | (go_at_call 6; refine CA.out.mono ?_; rintro e w1 ⟨rfl, g1⟩; have G1 := Lib.hid g1; have R1 := Lib.hid (HR.out.grown g1); clear g1)
      | (go_at_call 21; refine (cLongT v l 20 60 _ R1.out).mono ?_; rintro e w2 ⟨rfl, rfl⟩; rw [hl]))
    go_ret
    exact ⟨rfl, G1.out⟩
  | false =>
    obtain ⟨h20, h60⟩ := longQ_short hl
    have H60 := Lib.hid h60
    have HS := Lib.hid (show ∀ t : ByteArray, t.data.toList = joinQ (txL l) → t.size ≤ 5000 by
      intro t ht
      have h1 := join_len (n := 60) (txL l) (by
        intro x hx
        obtain ⟨y, hy, rfl⟩ := List.mem_map.1 hx
        simpa using H60.out y hy)
      rw [← ht] at h1
      simp only [List.length_map, Array.length_toList] at h1
      have h2 : t.data.size = t.size := rfl
      omega)
    clear h60
    go_wp2_with (first
      | (go_at_call 6; refine CA.out.mono ?_; rintro e w1 ⟨rfl, g1⟩; have G1 := Lib.hid g1; have R1 := Lib.hid (HR.out.grown g1); have E1 := Lib.hid (HE.out.grown g1); clear g1)
      | (go_at_call 21; refine (cLongT v l 20 60 _ R1.out).mono ?_; rintro e w2 ⟨rfl, rfl⟩; rw [hl])
      | (go_at_call 22; refine (cTextsT v l _ R1.out (by omega)).mono ?_; rintro e w3 ⟨u, rfl, hM, hB⟩; have g3 := grown_of_below hB; have M3 := Lib.hid hM; have G3 := Lib.hid (G1.out.trans g3); have R3 := Lib.hid (R1.out.grown g3); have E3 := Lib.hid (E1.out.grown g3); clear g3 hM hB)
      | (go_at_call 23; refine (CJ.out _ u E3.out.2 (M3.out.row (by omega)) h20 H60.out).mono ?_; rintro e w4 ⟨g4, t, rfl, ht⟩; have G4 := Lib.hid (G3.out.trans g4); have R4 := Lib.hid (R3.out.grown g4); have E4 := Lib.hid (E3.out.grown g4); have M4 := Lib.hid (M3.out.later (below_of_grown g4)); have Z4 := HS.out t ht; clear g4)
      | (go_at_call 7; refine (pSplit t A _ E4.out Z4).mono ?_; rintro e w5 h5; obtain ⟨g5, a5, o5, c5, rfl, R5⟩ := back_out ht h5; have G5 := Lib.hid (G4.out.trans g5); have B5 := Lib.hid R5; have R6 := Lib.hid (R4.out.grown g5); have M5 := Lib.hid (M4.out.later (below_of_grown g5)); clear g5 h5 R5)
      | (go_at_call 24; refine (cKeptT _ v _ l _ M7.out R7.out (by omega)).mono ?_; rintro e w8 ⟨rfl, n8, rfl⟩; skip)
      | (go_at_call 10; refine (cSameT _ _ l _ B5.out R6.out).mono ?_; rintro e w7 ⟨rfl, n7, rfl⟩; have R7 := Lib.hid (R6.out.grown (grown_drewN (World.grownBy.refl _ _) n7)); have M7 := Lib.hid (M5.out.later (below_of_grown (grown_drewN (World.grownBy.refl _ _) n7)))))
    go_ret
    exact ⟨rfl, grown_drewN G5.out _⟩
end Go.Proofs.YtolapbhmfljicaaDoor

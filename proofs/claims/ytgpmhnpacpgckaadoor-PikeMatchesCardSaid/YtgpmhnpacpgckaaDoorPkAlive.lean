/- The chapter's example of layer 9. -/
import Derived.Test.YtgpmhnpacpgckaaDoorPkParts
namespace Go.Proofs.YtgpmhnpacpgckaaDoor
open Go.RowKit

/-- what comes of ways, reckoned -/
def runF (L : List Ins) (s : ByteArray) : Nat → List Wy → List (Nat × Nat) → Option (List Int)
  | 0, _, _ => none
  | _ + 1, [], _ => none
  | n + 1, x :: S, D =>
    if x.at_ < 0 then runF L s n S D else
    match L[x.at_.toNat]? with
    | none => runF L s n S D
    | some i => if D.contains (x.at_.toNat, x.pl) then runF L s n S D else
      match stp9 s i x with
      | none => some x.k
      | some T => runF L s n (T ++ S) ((x.at_.toNat, x.pl) :: D)
def visF (D : List (Nat × Nat)) : Vis := fun a q => D.contains (a, q)
theorem visF_mrk (D : List (Nat × Nat)) (a q : Nat) : visF ((a, q) :: D) = mrk (visF D) a q := by
  funext a' q'
  unfold visF mrk
  rw [List.contains_cons]
  rfl
theorem runF_run (L : List Ins) (s : ByteArray) : ∀ (n : Nat) (S : List Wy) (D : List (Nat × Nat)) (k : List Int), runF L s n S D = some k → Run9 L s S (visF D) (some k) := by
  intro n
  induction n with
  | zero => intro S D k h; cases h
  | succ n ih =>
    intro S D k h
    cases S with
    | nil => cases h
    | cons x S =>
      rw [runF] at h
      by_cases h0 : x.at_ < 0
      · rw [if_pos h0] at h; exact .skip (.inl h0) (ih _ _ _ h)
      rw [if_neg h0] at h
      cases hi : L[x.at_.toNat]? with
      | none =>
        rw [hi] at h
        exact .skip (.inr (.inl (List.getElem?_eq_none_iff.1 hi))) (ih _ _ _ h)
      | some i =>
        rw [hi] at h
        dsimp only at h
        cases hd : D.contains (x.at_.toNat, x.pl) with
        | true => rw [hd, if_pos rfl] at h; exact .skip (.inr (.inr hd)) (ih _ _ _ h)
        | false =>
          rw [hd, if_neg (by simp)] at h
          have ho : opn9 L (visF D) x i := ⟨by omega, hi, hd⟩
          cases hs : stp9 s i x with
          | none => rw [hs] at h; cases h; exact .win ho hs
          | some T => rw [hs] at h; exact .go ho hs (by rw [← visF_mrk]; exact ih _ _ _ h)

def exS9 : ByteArray := ⟨#[40, 97, 42, 41, 98]⟩
def exT9 : ByteArray := ⟨#[97, 97, 98]⟩
def exM9 : Nd := .mk 2 0 emp [.mk 7 1 emp [.mk 4 0 emp [.mk 1 0 (one 97) []]], .mk 1 0 (one 98) []]
def exK9 : List Int := [0, 3, 0, 2, -1, -1, -1, -1, -1, -1, -1, -1, -1, -1, -1, -1, -1, -1, -1, -1]
theorem par_exS9 : parN exS9 = (exM9, 0) := by
  have hs : exS9.size = 5 := rfl
  refine par_ok (by rw [hs]; decide) (n := exM9) ?_ (by simp [grpN, exM9, cntN, cntL])
  have h1 : sgn exS9 1 = (sgn exS9 2).map (⟨0, one 97⟩ :: ·) := sgn_lit (show 1 < exS9.size by decide) (by decide)
  have h4 : sgn exS9 4 = (sgn exS9 5).map (⟨0, one 98⟩ :: ·) := sgn_lit (show 4 < exS9.size by decide) (by decide)
  rw [fin_open (by rfl), fin_set h1]
  have hr := fin_rep (s := exS9) (i := 2) (c1 := 42) (k := 4) (by rfl) (.inl ⟨rfl, rfl⟩) [([], [], 0 + 1)] [] [] (.mk 1 0 (one 97) []) (0 + 1)
  rw [hr, fin_close (by rfl), fin_set h4, fin_end (by rw [hs]; decide)]
  rfl
theorem of_exS9 : prgT exS9 = [⟨3, 0, 0, emp⟩, ⟨3, 2, 0, emp⟩, ⟨1, 3, 5, emp⟩, ⟨0, 0, 0, one 97⟩, ⟨2, 2, 0, emp⟩, ⟨3, 3, 0, emp⟩, ⟨0, 0, 0, one 98⟩, ⟨3, 1, 0, emp⟩, ⟨6, 0, 0, emp⟩] := by
  unfold prgT
  rw [par_exS9]
  simp [exM9, toI, toL, prgN, codN, codL, lenL, lenN, ownC]
theorem run_exS9 : Run9 (prgT exS9) exT9 [⟨0, 0, noK⟩] (fun _ _ => false) (some exK9) := by
  rw [of_exS9]
  exact runF_run _ _ 40 _ [] _ (by kernel_rfl)
theorem part_exS9 : partS exT9 exK9 0 = exT9 ∧ partS exT9 exK9 1 = ⟨#[97, 97]⟩ := ⟨by kernel_rfl, by kernel_rfl⟩

set_option maxRecDepth 100000 in
set_option maxHeartbeats 2000000 in
theorem lAlive9 (A : Nat → Addr) (w : World) (hE : QEnv A w) : Calls Tryd.prog 5 #[] w fun e w' => e = .returned (.bool true) ∧ w.grownBy w' none := by
  have CP := Lib.hid (cParts A exS9 exT9 exK9 w (by decide) (by decide) (by rw [par_exS9]) (by rw [of_exS9]; decide) run_exS9 hE)
  obtain ⟨p0, p1⟩ := part_exS9
  obtain ⟨x0, e0⟩ : ∃ x, x = partS exT9 exK9 0 := ⟨_, rfl⟩
  obtain ⟨x1, e1⟩ : ∃ x, x = partS exT9 exK9 1 := ⟨_, rfl⟩
  have h0 : (x0.toList == [97, 97, 98]) = true := by rw [Lib.toList_data, e0, p0]; rfl
  have h1 : (x1.toList == [97, 97]) = true := by rw [Lib.toList_data, e1, p1]; rfl
  have E0 := Lib.hid e0; have E1 := Lib.hid e1
  clear hE p0 p1 e0 e1
  go_enter Tryd.func5, Tryd.ntmps5
  go_wp2_with fail
  refine CP.out.mono ?_
  rintro e w1 ⟨⟨b, c, rfl, hc⟩, g1⟩
  have c0 : w1.cell? ⟨b, 0, none⟩ = some (.string x0) := by rw [E0.out]; exact hc 0 (by omega)
  have c1 : w1.cell? ⟨b, 1, none⟩ = some (.string x1) := by rw [E1.out]; exact hc 1 (by omega)
  have G1 := Lib.hid g1
  clear hc g1
  go_wp2
  go_ret
  exact ⟨rfl, G1.out⟩
end Go.Proofs.YtgpmhnpacpgckaaDoor

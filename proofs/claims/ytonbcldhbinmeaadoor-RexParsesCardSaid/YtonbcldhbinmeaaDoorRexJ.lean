/- The reader: classes. -/
import Derived.Test.YtonbcldhbinmeaaDoorRexH
import Derived.Test.YtonbcldhbinmeaaDoorClsB
import Derived.Test.YtonbcldhbinmeaaDoorClsD
namespace Go.Proofs.YtonbcldhbinmeaaDoor
open Go.RowKit

theorem cMByte1 (r : Nat) (s : ByteArray) (i c b j : Nat) (f : Bool) (w : World) (h : Rd w r s i c) (hb : byteAt s i = some (b, f, j)) :
    Calls Tryd.prog 62 #[.pointer (some ⟨r, 0, none⟩)] w fun e w' => e = .returned (.tuple #[.int .u8 b, .bool true]) ∧ Rd w' r s j c ∧ w.grownBy w' (some r) := by
  have H := Lib.hid h
  have C93 := Lib.hid (fun w h => seen_93 s i ▸ cSees ⟨#[93]⟩ r s i c w h)
  clear h
  unfold byteAt at hb
  split at hb
  · rename_i hi
    split at hb
    · cases hb
    · rename_i h93
      have n93 := Lib.hid (show nxt s i 93 = false by unfold nxt; rw [dif_pos hi]; simpa using h93)
      split at hb
      · rename_i h92
        split at hb
        · rename_i hi1
          simp only [Option.some.injEq, Prod.mk.injEq] at hb; obtain ⟨rfl, -, rfl⟩ := hb
          have n92 := Lib.hid (nxt_is hi h92)
          clear h93 h92
          go_enter Tryd.func62, Tryd.ntmps62
          go_wp2_with (go_at_call 36; refine (cTake1 92 _ _ _ _ _ H.out n92.out).mono ?_; rintro e w1 ⟨rfl, r1, g1⟩; have R1 := Lib.hid r1; have G1 := Lib.hid g1; clear r1 g1)
          refine (cNext1 _ _ _ _ _ R1.out hi1).mono ?_
          rintro e w2 ⟨rfl, r2, g2⟩
          have R2 := Lib.hid r2; have G2 := Lib.hid (G1.out.trans g2)
          clear r2 g2
          go_wp2
          go_ret2
          exact ⟨rfl, R2.out, G2.out⟩
        · cases hb
      · rename_i h92
        simp only [Option.some.injEq, Prod.mk.injEq] at hb; obtain ⟨rfl, -, rfl⟩ := hb
        have n92 := Lib.hid (show nxt s i 92 = false by unfold nxt; rw [dif_pos hi]; simpa using h92)
        clear h93 h92
        rw [n93.out] at C93
        go_enter Tryd.func62, Tryd.ntmps62
        go_wp2_with (first
          | (go_at_call 36; refine (cTake0 92 _ _ _ _ _ H.out n92.out).mono ?_; rintro e w1 ⟨rfl, rfl⟩)
          | (go_at_call 47; refine (C93.out _ H.out).mono ?_; rintro e w1 ⟨rfl, rfl⟩))
        refine (cNext1 _ _ _ _ _ H.out hi).mono ?_
        rintro e w2 ⟨rfl, r2, g2⟩
        have R2 := Lib.hid r2; have G2 := Lib.hid g2
        clear r2 g2
        go_wp2
        go_ret2
        exact ⟨rfl, R2.out, G2.out⟩
  · cases hb

theorem cMByte0 (r : Nat) (s : ByteArray) (i c : Nat) (w : World) (h : Rd w r s i c) (hb : byteAt s i = none) :
    Calls Tryd.prog 62 #[.pointer (some ⟨r, 0, none⟩)] w fun e w' => e = .returned (.tuple #[.int .u8 0, .bool false]) ∧ w.grownBy w' (some r) := by
  have H := Lib.hid h
  have C93 := Lib.hid (fun w h => seen_93 s i ▸ cSees ⟨#[93]⟩ r s i c w h)
  clear h
  unfold byteAt at hb
  split at hb
  · rename_i hi
    split at hb
    · rename_i h93
      have n93 := Lib.hid (nxt_is hi h93)
      have n92 := Lib.hid (show nxt s i 92 = false by unfold nxt; rw [dif_pos hi, h93]; rfl)
      rw [n93.out] at C93
      clear hb h93
      go_enter Tryd.func62, Tryd.ntmps62
      go_wp2_with (first
        | (go_at_call 36; refine (cTake0 92 _ _ _ _ _ H.out n92.out).mono ?_; rintro e w1 ⟨rfl, rfl⟩)
        | (go_at_call 47; refine (C93.out _ H.out).mono ?_; rintro e w1 ⟨rfl, rfl⟩))
      go_ret2
      exact ⟨rfl, World.grownBy.refl _ _⟩
    · split at hb
      · rename_i h92
        split at hb
        · cases hb
        · rename_i hi1
          have n92 := Lib.hid (nxt_is hi h92)
          clear hb h92
          go_enter Tryd.func62, Tryd.ntmps62
          go_wp2_with (go_at_call 36; refine (cTake1 92 _ _ _ _ _ H.out n92.out).mono ?_; rintro e w1 ⟨rfl, r1, g1⟩; have R1 := Lib.hid r1; have G1 := Lib.hid g1; clear r1 g1)
          refine (cNext0 _ _ _ _ _ R1.out hi1).mono ?_
          rintro e w2 ⟨rfl, rfl⟩
          go_wp2
          go_ret2
          exact ⟨rfl, G1.out⟩
      · cases hb
  · rename_i hi
    have n92 := Lib.hid (nxt_end (c := 92) hi)
    have n93 := Lib.hid (nxt_end (c := 93) hi)
    rw [n93.out] at C93
    clear hb
    go_enter Tryd.func62, Tryd.ntmps62
    go_wp2_with (first
      | (go_at_call 36; refine (cTake0 92 _ _ _ _ _ H.out n92.out).mono ?_; rintro e w1 ⟨rfl, rfl⟩)
      | (go_at_call 47; refine (C93.out _ H.out).mono ?_; rintro e w1 ⟨rfl, rfl⟩))
    refine (cNext0 _ _ _ _ _ H.out hi).mono ?_
    rintro e w2 ⟨rfl, rfl⟩
    go_wp2
    go_ret2
    exact ⟨rfl, World.grownBy.refl _ _⟩
end Go.Proofs.YtonbcldhbinmeaaDoor

/- The law LinesJoin, walked. -/
import Derived.Test.YtigjmaicolgalaaDoorLnMore
namespace Go.Proofs.YtigjmaicolgalaaDoor
open Go.RowKit

/-- Split of a text that is one line -/
theorem one_line {l : List UInt8} {A : Nat → Addr} {w w' : World} {e : Ending} {x : Lb} (hz : spL l = .ok [x.q]) (h : PLns l A w e w') :
    w.grownBy w' none ∧ ∃ b off c, e = .returned (.tuple #[.slice (some ⟨b, off, none⟩) 1 c, .nilIface]) ∧ b < w'.heap.size ∧ w'.cell? ⟨b, off, none⟩ = some (.string x.t) ∧ w'.cell? ⟨b, off + 1, none⟩ = some (.int .i64 x.n) ∧ w'.cell? ⟨b, off + 2, none⟩ = some (.bool x.r) := by
  obtain ⟨g, h⟩ := h
  rw [hz] at h
  obtain ⟨v, O, rfl, hR, hO⟩ := h
  obtain rfl : O = [x] := lnQ_inj hO
  obtain ⟨a, c, rfl, -, hc⟩ := hR
  obtain ⟨b, off, rfl, hb, hc⟩ := hc (by simp)
  have h0 := hc 0 x rfl
  exact ⟨g, b, off, c, rfl, hb, by simpa using h0⟩
set_option maxRecDepth 100000 in
set_option maxHeartbeats 4000000 in
theorem lLinesJoin {A : Nat → Addr} {E : World → Prop} (C : LnC A E) (a b : ByteArray) (w : World) (hE : E w) :
    Calls Tryd.prog 5 #[.string a, .string b] w fun e w' => e = .returned (.bool true) ∧ w.grownBy w' none := by
  have CA := Lib.hid (lAlive12 C w hE)
  have HE := Lib.hid hE
  have HC := Lib.hid C
  clear hE C
  go_enter Tryd.func5, Tryd.ntmps5
  by_cases ha : 150 < a.size
  · go_wp2_with (go_at_call 7; refine CA.out.mono ?_; rintro e w1 ⟨rfl, g1⟩; have G1 := Lib.hid g1; clear g1)
    go_ret
    exact ⟨rfl, G1.out⟩
  by_cases hb : 150 < b.size
  · go_wp2_with (go_at_call 7; refine CA.out.mono ?_; rintro e w1 ⟨rfl, g1⟩; have G1 := Lib.hid g1; clear g1)
    go_ret
    exact ⟨rfl, G1.out⟩
  have CBa := Lib.hid (fun w => lBare a w (by omega))
  have CBb := Lib.hid (fun w => lBare b w (by omega))
  cases hqa : bareQ a.data.toList
  · rw [hqa] at CBa
    clear hqa
    go_wp2_with (first
      | (go_at_call 7; refine CA.out.mono ?_; rintro e w1 ⟨rfl, g1⟩; have G1 := Lib.hid g1; clear g1)
      | (go_at_call 15; (with_reducible refine (CBa.out _).mono ?_); rintro e w2 ⟨rfl, rfl⟩))
    go_ret
    exact ⟨rfl, G1.out⟩
  cases hqb : bareQ b.data.toList
  · rw [hqa] at CBa
    rw [hqb] at CBb
    clear hqa hqb
    go_wp2_with (first
      | (go_at_call 7; refine CA.out.mono ?_; rintro e w1 ⟨rfl, g1⟩; have G1 := Lib.hid g1; clear g1)
      | (go_at_call 15; (with_reducible refine (CBa.out _).mono ?_); rintro e w2 ⟨rfl, rfl⟩)
      | (go_at_call 15; (with_reducible refine (CBb.out _).mono ?_); rintro e w2 ⟨rfl, rfl⟩))
    go_ret
    exact ⟨rfl, G1.out⟩
  have la : a.data.toList.length ≤ 150 := by simp; omega
  have lb : b.data.toList.length ≤ 150 := by simp; omega
  obtain ⟨x, hx⟩ : ∃ x : Lb, x = ⟨a ++ ⟨#[32]⟩ ++ b, 1, false⟩ := ⟨_, rfl⟩
  have hxq : x.q = ⟨a.data.toList ++ 32 :: b.data.toList, 1, false⟩ := by rw [hx]; simp [Lb.q]
  have hxn : x.n = 1 := by rw [hx]
  have hq := eqlLm x x
  rw [eqLb_self, hxn] at hq
  have gG := guardLm
  have HZ1 := Lib.hid (show spL (a ++ ⟨#[92, 10]⟩ ++ b ++ ⟨#[10]⟩ : ByteArray).data.toList = .ok [x.q] by
    rw [hxq, ← spL_joined hqa hqb la lb]; simp)
  have HZ2 := Lib.hid (show spL (a ++ ⟨#[32]⟩ ++ b ++ ⟨#[10]⟩ : ByteArray).data.toList = .ok [x.q] by
    rw [hxq, ← spL_blank hqa hqb la lb]; simp)
  have hs1 : (a ++ ⟨#[92, 10]⟩ ++ b ++ ⟨#[10]⟩ : ByteArray).size ≤ 5000 := by
    simp only [ByteArray.size_append]; show a.size + 2 + b.size + 1 ≤ 5000; omega
  have hs2 : (a ++ ⟨#[32]⟩ ++ b ++ ⟨#[10]⟩ : ByteArray).size ≤ 5000 := by
    simp only [ByteArray.size_append]; show a.size + 1 + b.size + 1 ≤ 5000; omega
  have C1 := Lib.hid (fun W hW => HC.out.split (a ++ ⟨#[92, 10]⟩ ++ b ++ ⟨#[10]⟩) W hW hs1)
  have C2 := Lib.hid (fun W hW => HC.out.split (a ++ ⟨#[32]⟩ ++ b ++ ⟨#[10]⟩) W hW hs2)
  rw [hqa] at CBa
  rw [hqb] at CBb
  clear hqa hqb la lb hxq hs1 hs2 hx
  go_wp2_with (first
    | (go_at_call 7; refine CA.out.mono ?_; rintro e w1 ⟨rfl, g1⟩; have G1 := Lib.hid g1; clear g1)
    | (go_at_call 15; (with_reducible refine (CBa.out _).mono ?_); rintro e w2 ⟨rfl, rfl⟩)
    | (go_at_call 15; (with_reducible refine (CBb.out _).mono ?_); rintro e w2 ⟨rfl, rfl⟩)
    | (go_at_call 8; refine (C2.out _ (HC.out.gr _ _ HE.out G3.out)).mono ?_; rintro e w4 h4; obtain ⟨g4, b4, o4, c4, rfl, lt4, y0, y1, y2⟩ := one_line HZ2.out h4; have G4 := Lib.hid (G3.out.trans g4); obtain ⟨z0, z1, z2⟩ := X3.out _ g4; rw [hxn] at y1; clear g4 h4)
    | (go_at_call 8; refine (C1.out _ (HC.out.gr _ _ HE.out G1.out)).mono ?_; rintro e w3 h3; obtain ⟨g3, b3, o3, c3, rfl, lt3, x0, x1, x2⟩ := one_line HZ1.out h3; have G3 := Lib.hid (G1.out.trans g3); rw [hxn] at x1; have X3 := Lib.hid (fun W (g : w3.grownBy W none) => (⟨((below_of_grown g).cell (p := ⟨b3, o3, none⟩) lt3).trans x0, ((below_of_grown g).cell (p := ⟨b3, o3 + 1, none⟩) lt3).trans x1, ((below_of_grown g).cell (p := ⟨b3, o3 + 2, none⟩) lt3).trans x2⟩ : W.cell? ⟨b3, o3, none⟩ = some (.string x.t) ∧ W.cell? ⟨b3, o3 + 1, none⟩ = some (.int .i64 1) ∧ W.cell? ⟨b3, o3 + 2, none⟩ = some (.bool x.r))); clear g3 h3 x0 x1 x2))
  go_quiet (fail)
  go_wp2
  go_ret
  exact ⟨rfl, grown_drewN G4.out _⟩
end Go.Proofs.YtigjmaicolgalaaDoor

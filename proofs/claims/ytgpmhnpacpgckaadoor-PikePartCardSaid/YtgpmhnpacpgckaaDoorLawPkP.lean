/- The law PikePart, walked. -/
import Derived.Test.YtgpmhnpacpgckaaDoorPkAlive
namespace Go.Proofs.YtgpmhnpacpgckaaDoor
open Go.RowKit

set_option maxRecDepth 100000 in
set_option maxHeartbeats 4000000 in
theorem lPikePart (A : Nat → Addr) (s : ByteArray) (v : Value) (l : List Int) (i : Int) (w : World) (hE : QEnv A w) (hs : s.size ≤ maxLen) (hm : l.length ≤ maxLen) (h : IRow w v l) :
    Calls Tryd.prog 4 #[.string s, v, .int .i64 i] w fun e w' => e = .returned (.bool true) ∧ w.grownBy w' none := by
  unfold maxLen at hs hm
  have HA := Lib.hid (lAlive9 A w hE)
  have HR := Lib.hid h
  obtain ⟨a, c, rfl, -⟩ := h
  clear hE
  by_cases hbig : s.size > 60 ∨ l.length > 40
  · go_enter Tryd.func4, Tryd.ntmps4
    by_cases h1 : s.size > 60
    · have hd : decide ((s.size : Int) > 60) = true := by simp; omega
      clear hbig
      go_wp2_with (go_at_call 5; (with_reducible refine HA.out.mono ?_); rintro e w1 ⟨rfl, g1⟩; have G1 := Lib.hid g1; clear g1)
      go_ret
      exact ⟨rfl, G1.out⟩
    · have hd : decide ((s.size : Int) > 60) = false := by simp; omega
      have hd2 : decide ((l.length : Int) > 40) = true := by simp; omega
      clear hbig
      go_wp2_with (go_at_call 5; (with_reducible refine HA.out.mono ?_); rintro e w1 ⟨rfl, g1⟩; have G1 := Lib.hid g1; clear g1)
      go_ret
      exact ⟨rfl, G1.out⟩
  have hd : decide ((s.size : Int) > 60) = false := by simp; omega
  have hd2 : decide ((l.length : Int) > 40) = false := by simp; omega
  have hl : l.length ≤ 40 := by omega
  clear hbig
  have HP := Lib.hid (fun W (hW : IRow W (.slice a l.length c) l) => cPart s (.slice a l.length c) l i W hW (by omega))
  obtain ⟨x, hx⟩ : ∃ x, x = partS s l i := ⟨_, rfl⟩
  rw [← hx] at HP
  have HX := Lib.hid hx
  clear hx
  go_enter Tryd.func4, Tryd.ntmps4
  go_upto_region 6 with (first
    | (go_at_call 5; (with_reducible refine HA.out.mono ?_); rintro e w1 ⟨rfl, g1⟩; have G1 := Lib.hid g1; have R1 := Lib.hid (HR.out.grown g1); clear g1)
    | (go_at_call 10; (with_reducible refine (HP.out _ R1.out).mono ?_); rintro e w2 ⟨rfl, g2⟩; have G2 := Lib.hid (G1.out.trans g2); have R2 := Lib.hid (R1.out.grown g2); clear g2))
  by_cases h0 : i < 0
  · have hxe : (x.toList.isEmpty) = true := by rw [HX.out, part_none (.inl h0), Lib.toList_data]; rfl
    go_wp2
    go_ret
    exact ⟨rfl, G2.out⟩
  obtain ⟨j, rfl⟩ : ∃ j : Nat, i = j := ⟨i.toNat, by omega⟩
  clear h0
  by_cases h1 : l.length / 2 ≤ j
  · have hxe : (x.toList.isEmpty) = true := by rw [HX.out, part_none (.inr (by omega)), Lib.toList_data]; rfl
    have hd3 : decide ((j : Int) ≥ (l.length : Int) / 2) = true := by simp; omega
    go_wp2
    go_ret
    exact ⟨rfl, G2.out⟩
  have hd3 : decide ((j : Int) ≥ (l.length : Int) / 2) = false := by simp; omega
  have hj : 2 * j + 1 < l.length := by omega
  obtain ⟨f, hf⟩ : ∃ f, l[2 * j]? = some f := ⟨_, List.getElem?_eq_getElem (by omega)⟩
  obtain ⟨t, ht⟩ : ∃ t, l[2 * j + 1]? = some t := ⟨_, List.getElem?_eq_getElem (by omega)⟩
  obtain ⟨a', c', e', hc⟩ := R2.out
  cases e'
  obtain ⟨b, off, rfl, cf⟩ := hc _ _ hf
  obtain ⟨b', off', e', ct⟩ := hc _ _ ht
  cases e'
  have hw1 : IntKind.i64.wrap (2 * (j : Int)) = 2 * (j : Int) := by rw [IntKind.wrap_i64]; omega
  have hw2 : IntKind.i64.wrap (2 * (j : Int) + 1) = 2 * (j : Int) + 1 := by rw [IntKind.wrap_i64]; omega
  have b1 : (0 : Int) ≤ 2 * (j : Int) := by omega
  have b2 : 2 * (j : Int) < l.length := by omega
  have b3 : (0 : Int) ≤ 2 * (j : Int) + 1 := by omega
  have b4 : 2 * (j : Int) + 1 < l.length := by omega
  have n1 : (2 * (j : Int)).toNat = 2 * j := by omega
  have n2 : (2 * (j : Int) + 1).toNat = 2 * j + 1 := by omega
  have ct : w2.cell? ⟨b, off + (2 * j + 1), none⟩ = some (.int .i64 t) := ct
  have HJ := Lib.hid hj
  have HF := Lib.hid hf
  have HT := Lib.hid ht
  clear hc h1 hj hf ht
  go_wp2
  go_quiet (fail)
  clear hw1 hw2 b1 b2 b3 b4 n1 n2 cf ct
  by_cases f0 : f < 0
  · have hxe : (x.toList.isEmpty) = true := by rw [HX.out, part_off HJ.out HF.out HT.out (.inl f0), Lib.toList_data]; rfl
    go_wp2
    go_ret
    exact ⟨rfl, grown_drewN G2.out _⟩
  obtain ⟨m, rfl⟩ : ∃ m : Nat, f = m := ⟨f.toNat, by omega⟩
  clear f0
  by_cases f2 : t > s.size
  · have hxe : (x.toList.isEmpty) = true := by rw [HX.out, part_off HJ.out HF.out HT.out (.inr (.inr f2)), Lib.toList_data]; rfl
    go_wp2
    go_ret
    exact ⟨rfl, grown_drewN G2.out _⟩
  by_cases f1 : (m : Int) > t
  · have hxe : (x.toList.isEmpty) = true := by rw [HX.out, part_off HJ.out HF.out HT.out (.inr (.inl f1)), Lib.toList_data]; rfl
    go_wp2
    go_ret
    exact ⟨rfl, grown_drewN G2.out _⟩
  obtain ⟨y, rfl⟩ : ∃ y : Nat, t = y := ⟨t.toNat, by omega⟩
  have hmx : m ≤ y := by omega
  have hxs : y ≤ s.size := by omega
  have hxe := HX.out.trans (part_is HJ.out HF.out HT.out hmx hxs)
  subst hxe
  clear f1 f2 HX HP
  go_wp2
  go_ret
  exact ⟨ret_bool (by simp), grown_drewN G2.out _⟩
end Go.Proofs.YtgpmhnpacpgckaaDoor

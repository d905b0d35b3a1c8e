/- Walks of package ar: the member with which a text begins. -/
import Derived.Test.YtgicfbhhnohndaaGreatDoorArD
import Derived.Lib.SmallJoins
import Derived.StillTailTactics
import Derived.Deep.RegionHeld3
import Derived.Deep.RegionWith
namespace Go.Proofs.YtgicfbhhnohndaaGreatDoor
open Go.RowKit

/-- what is read as a time, as a length -/
def fT (s : List UInt8) : Option Int := Lib.atoi (Lib.trimRightB ((s.drop 16).take 12) 32)
def fZ (s : List UInt8) : Option Int := Lib.atoi (Lib.trimRightB ((s.drop 48).take 10) 32)
theorem first_good {m : Mb} (h : Good m) {s r : List UInt8} (hs : s = oneL m ++ r) :
    60 ≤ s.length ∧ fT s = some m.t ∧ fZ s = some (m.c.size : Int) ∧ m.c.size + 60 ≤ s.length ∧ Lib.trimRightB (s.take 16) 32 = m.n.data.toList ∧ (s.drop 60).take m.c.size = m.c.data.toList ∧ sizeM m ≤ s.length := by
  subst hs
  obtain ⟨h1, h2, -, h4, -, h6, -, -, h9⟩ := one_read h r
  have ht := (time_iff _).1 h.2.1
  have hz : 60 + m.c.size ≤ sizeM m := by unfold sizeM; omega
  refine ⟨by omega, ?_, ?_, by omega, h1, h6, h9⟩
  · unfold fT; rw [h2]; unfold padL; rw [trim_pad (itoa_last (by omega)), atoi_itoa (by omega)]
  · unfold fZ; rw [h4]; unfold padL; rw [trim_pad (itoa_last (by omega)), atoi_itoa (by omega)]
theorem first_no {s : List UInt8} (x : Mb) (h : s.length < 60 ∨ fT s = none ∨ fZ s = none ∨ (∃ z, fZ s = some z ∧ (z < 0 ∨ (s.length : Int) - 60 < z))) : FirstOf s x false := by
  refine ⟨fun e => (by cases e), fun m r hg hs => ?_⟩
  obtain ⟨h1, h2, h3, h4, -, -, -⟩ := first_good hg hs
  exfalso
  rcases h with h | h | h | ⟨z, h, hz⟩
  · omega
  · rw [h] at h2; cases h2
  · rw [h] at h3; cases h3
  · rw [h] at h3
    have := Option.some.inj h3
    omega
theorem first_yes {s : List UInt8} {x : Mb} (hn : x.n.data.toList = Lib.trimRightB (s.take 16) 32) (ht : fT s = some x.t) (hz : fZ s = some (x.c.size : Int)) (hc : x.c.data.toList = (s.drop 60).take x.c.size) : FirstOf s x (decide ((sizeM x : Int) ≤ (s.length : Int))) := by
  refine ⟨fun e => by have := of_decide_eq_true e; omega, fun m r hg hs => ?_⟩
  obtain ⟨h1, h2, h3, h4, h5, h6, h7⟩ := first_good hg hs
  have e1 : x.n = m.n := ba_ext (hn.trans h5)
  have e2 : x.t = m.t := by rw [ht] at h2; exact Option.some.inj h2
  have e3 : x.c.size = m.c.size := by rw [hz] at h3; exact_mod_cast Option.some.inj h3
  have e4 : x.c = m.c := by rw [e3] at hc; exact ba_ext (hc.trans h6)
  obtain rfl := mb_ext e1 e2 e4
  exact ⟨decide_eq_true (by omega), rfl⟩

theorem aUn {s x : ByteArray} (w : World) (hs : s.size ≤ maxLen) (hx : x.data.toList = Lib.trimRightB s.data.toList 32) :
    Calls Tryz.prog 49 #[.string s] w fun e w' => e = .returned (.string x) ∧ w = w' := by
  have hc := Tryz.strings_TrimRight_one s 32 (by decide) w (by unfold maxLen at hs; omega)
  obtain rfl : (⟨(Lib.trimRightB s.data.toList 32).toArray⟩ : ByteArray) = x := ba_ext (by rw [hx])
  generalize (⟨(Lib.trimRightB s.data.toList 32).toArray⟩ : ByteArray) = x at hc
  have HC := Lib.hid hc
  clear hc hx
  go_enter Tryz.func49, Tryz.ntmps49
  go_wp2_with (go_at_call 59; refine (HC.out).mono ?_; rintro e w' ⟨rfl, rfl⟩)
  go_ret
  exact ⟨rfl, rfl⟩

/-- an error or none -/
def IsErr (v : Value) : Prop := ∃ t a, v = .iface t (.pointer (some a))
theorem aAtoi {s : ByteArray} {A : Nat → Addr} (w : World) (hE : Env A w) (hs : s.size ≤ 18) :
    Calls Tryz.prog 48 #[.string s] w fun e w' => ∃ n v, e = .returned (.tuple #[.int .i64 n, v]) ∧ ((Lib.atoi s.data.toList = some n ∧ v = .nilIface) ∨ (Lib.atoi s.data.toList = none ∧ IsErr v)) ∧ w.grownBy w' none := by
  cases h : Lib.atoi s.data.toList with
  | none =>
    obtain ⟨te, pe, hsyn⟩ := hE.syn
    refine (Tryz.strconv_Atoi_err s hs h _ w hsyn (.inr ⟨te, pe, rfl⟩)).mono ?_
    rintro e w' ⟨N, rfl, -, -, hb⟩
    exact ⟨_, _, rfl, .inr ⟨rfl, _, _, rfl⟩, grown_of_below hb⟩
  | some n =>
    refine (Tryz.strconv_Atoi s n hs h w).mono ?_
    rintro e w' ⟨rfl, t, rfl⟩
    exact ⟨_, _, rfl, .inl ⟨rfl, rfl⟩, grown_of_below (Go.Joins.below_bytesWorld _ _ _ _ (Nat.le_refl _))⟩
end Go.Proofs.YtgicfbhhnohndaaGreatDoor

/- Walks of package ar: Parse, Is. -/
import Derived.Test.YtgicfbhhnohndaaGreatDoorArG
namespace Go.Proofs.YtgicfbhhnohndaaGreatDoor
open Go.RowKit

/-- what Parse answers -/
def ParsePost (s : ByteArray) (A : Nat → Addr) (w : World) (e : Ending) (w' : World) : Prop :=
  (archOf s = none ∧ e = .returned (.tuple #[.slice none 0 0, .iface 146 (.pointer (some (A 3)))]) ∧ w.grownBy w' none) ∨
  (∃ (l : List Mb) (v : Value), archOf s = some l ∧ e = .returned (.tuple #[v, .nilIface]) ∧ OwnM w' w.heap.size 35 v l ∧ w.grownBy w' none)
theorem ne_ba {x y : ByteArray} (h : x ≠ y) : (x.toList == y.toList) = false ∧ (x.toList != y.toList) = true := by
  have : (x.toList == y.toList) = false := by
    rw [beq_eq_false_iff_ne, Lib.toList_data, Lib.toList_data]
    exact fun e => h (ba_ext e)
  exact ⟨this, by rw [bne, this]; rfl⟩

set_option maxRecDepth 100000 in
set_option maxHeartbeats 4000000 in
theorem aParse (s : ByteArray) (A : Nat → Addr) (w : World) (hE : Env A w) (hs : s.size ≤ maxLen) :
    Calls Tryz.prog 13 #[.string s] w (ParsePost s A w) := by
  unfold maxLen at hs
  have HE := Lib.hid hE
  clear hE
  by_cases h9 : 900 < s.size
  · have HN := Lib.hid (archOf_none (s := s) (fun l hl => by have := arch_len hl; omega))
    have he := HE.out.e3
    go_enter Tryz.func13, Tryz.ntmps13
    go_wp2
    go_quiet (fail)
    go_wp2
    go_ret2
    exact .inl ⟨HN.out, rfl, grown_drewN (World.grownBy.refl _ _) _⟩
  have HS := Lib.hid (aSplit s A w HE.out (by omega))
  go_enter Tryz.func13, Tryz.ntmps13
  go_wp2_with fail
  refine HS.out.mono ?_
  rintro e w1 ⟨v, acc, ok, rfl, ho, hsum, hy, hn, hg⟩
  have G1 := Lib.hid hg
  cases ok
  · have HN := Lib.hid (archOf_none (hn rfl))
    have he := (HE.out.grown hg).e3
    clear ho hsum hy hn hg
    go_wp2
    go_quiet (fail)
    go_wp2
    go_ret2
    exact .inl ⟨HN.out, rfl, grown_drewN G1.out _⟩
  · have O1 := Lib.hid ho; have Y1 := Lib.hid (hy rfl)
    have E1 := Lib.hid (HE.out.grown hg)
    by_cases hk : makeE acc = 0
    · obtain ⟨x, hx, -⟩ := some_ba (makeL acc)
      have HM := Lib.hid (aMake_yes v acc A w1 O1.out.row E1.out hk hx)
      by_cases hxs : x = s
      · subst hxs
        have HA := Lib.hid (archOf_some (s := x) (l := acc) ⟨hk, hx⟩)
        clear ho hsum hy hn hg hk hx
        go_wp2_with fail
        refine HM.out.mono ?_
        rintro e w2 ⟨rfl, hg2⟩
        have O2 := Lib.hid (O1.out.kept hg2); have G2 := Lib.hid (G1.out.trans hg2)
        clear hg2
        go_wp2
        go_ret2
        exact .inr ⟨acc, v, HA.out, rfl, O2.out, G2.out⟩
      · have HN := Lib.hid (archOf_none (s := s) (fun l hl => by
          have := Y1.out l hl
          subst this
          exact hxs (ba_ext (hx.trans hl.2.symm))))
        obtain ⟨q1, q2⟩ := ne_ba hxs
        clear ho hsum hy hn hg hk hx hxs
        go_wp2_with fail
        refine HM.out.mono ?_
        rintro e w2 ⟨rfl, hg2⟩
        have G2 := Lib.hid (G1.out.trans hg2)
        have he := (E1.out.grown hg2).e3
        clear hg2
        go_wp2
        go_quiet (fail)
        go_wp2
        go_ret2
        exact .inl ⟨HN.out, rfl, grown_drewN G2.out _⟩
    · have HM := Lib.hid (aMake_no v acc A w1 O1.out.row E1.out (by omega) hk)
      have HN := Lib.hid (archOf_none (s := s) (fun l hl => by
        have := Y1.out l hl
        subst this
        exact hk hl.1))
      clear ho hsum hy hn hg hk
      go_wp2_with fail
      refine HM.out.mono ?_
      rintro e w2 ⟨rfl, hg2⟩
      have G2 := Lib.hid (G1.out.trans hg2)
      have he := (E1.out.grown hg2).e3
      clear hg2
      go_wp2
      go_quiet (fail)
      go_wp2
      go_ret2
      exact .inl ⟨HN.out, rfl, grown_drewN G2.out _⟩
theorem aParse_no {s : ByteArray} {A : Nat → Addr} {w : World} (hE : Env A w) (hs : s.size ≤ maxLen) (h : archOf s = none) :
    Calls Tryz.prog 13 #[.string s] w fun e w' => e = .returned (.tuple #[.slice none 0 0, .iface 146 (.pointer (some (A 3)))]) ∧ w.grownBy w' none :=
  (aParse s A w hE hs).mono fun e w' hp => by
    rcases hp with ⟨_, h1, h2⟩ | ⟨l, v, h1, _⟩
    · exact ⟨h1, h2⟩
    · rw [h] at h1; cases h1
theorem aParse_yes {s : ByteArray} {A : Nat → Addr} {w : World} (hE : Env A w) (hs : s.size ≤ maxLen) {l : List Mb} (h : archOf s = some l) :
    Calls Tryz.prog 13 #[.string s] w fun e w' => ∃ v, e = .returned (.tuple #[v, .nilIface]) ∧ OwnM w' w.heap.size 35 v l ∧ w.grownBy w' none :=
  (aParse s A w hE hs).mono fun e w' hp => by
    rcases hp with ⟨h1, _⟩ | ⟨l', v, h1, h2, h3, h4⟩
    · rw [h] at h1; cases h1
    · rw [h] at h1; obtain rfl := Option.some.inj h1; exact ⟨v, h2, h3, h4⟩

set_option maxHeartbeats 1000000 in
theorem aIs (s : ByteArray) (A : Nat → Addr) (w : World) (hE : Env A w) (hs : s.size ≤ maxLen) :
    Calls Tryz.prog 16 #[.string s] w fun e w' => e = .returned (.bool (archOf s).isSome) ∧ w.grownBy w' none := by
  cases h : archOf s with
  | none =>
    have HP := Lib.hid (aParse_no hE hs h)
    clear hE h
    go_enter Tryz.func16, Tryz.ntmps16
    go_wp2_with (go_at_call 13; refine (HP.out).mono ?_; rintro e w1 ⟨rfl, hg⟩; have G := Lib.hid hg; clear hg)
    go_ret
    exact ⟨rfl, G.out⟩
  | some l =>
    have HP := Lib.hid (aParse_yes hE hs h)
    clear hE h
    go_enter Tryz.func16, Tryz.ntmps16
    go_wp2_with (go_at_call 13; refine (HP.out).mono ?_; rintro e w1 ⟨v, rfl, -, hg⟩; have G := Lib.hid hg; clear hg)
    go_ret
    exact ⟨rfl, G.out⟩
end Go.Proofs.YtgicfbhhnohndaaGreatDoor

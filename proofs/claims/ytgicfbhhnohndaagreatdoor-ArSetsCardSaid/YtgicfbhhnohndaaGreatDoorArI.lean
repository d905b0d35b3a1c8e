/- Walks of package ar: where a list has a member of a name; Find. -/
import Derived.Test.YtgicfbhhnohndaaGreatDoorArH
namespace Go.Proofs.YtgicfbhhnohndaaGreatDoor
open Go.RowKit

/-- where a list has a member of a name -/
def findI (l : List Mb) (nm : ByteArray) : Option Nat := l.findIdx? fun m => m.n.toList == nm.toList
def idxI (l : List Mb) (nm : ByteArray) : Int := match findI l nm with | none => -1 | some i => i
theorem findI_hit {l : List Mb} {nm : ByteArray} {k : Nat} {m : Mb} (h : l[k]? = some m) (hm : (m.n.toList == nm.toList) = true) (hb : ∀ j, j < k → ∀ x, l[j]? = some x → (x.n.toList == nm.toList) = false) : findI l nm = some k := by
  unfold findI
  obtain ⟨hk, rfl⟩ := List.getElem?_eq_some_iff.1 h
  rw [List.findIdx?_eq_some_iff_getElem]
  refine ⟨hk, hm, fun j hj => ?_⟩
  have := hb j hj _ (List.getElem?_eq_getElem (by omega))
  simpa using this
theorem findI_not {l : List Mb} {nm : ByteArray} (hb : ∀ j, j < l.length → ∀ x, l[j]? = some x → (x.n.toList == nm.toList) = false) : findI l nm = none := by
  unfold findI
  rw [List.findIdx?_eq_none_iff]
  intro x hx
  obtain ⟨j, hj⟩ := List.getElem?_of_mem hx
  have := hb j (List.getElem?_eq_some_iff.1 hj).1 x hj
  exact this
theorem findI_get {l : List Mb} {nm : ByteArray} {k : Nat} (h : findI l nm = some k) : ∃ m, l[k]? = some m ∧ m.n = nm := by
  unfold findI at h
  rw [List.findIdx?_eq_some_iff_getElem] at h
  obtain ⟨hk, hm, -⟩ := h
  exact ⟨l[k], List.getElem?_eq_getElem hk, eq_of_toList.1 hm⟩
theorem findI_none {l : List Mb} {nm : ByteArray} (h : findI l nm = none) : ∀ m ∈ l, m.n ≠ nm := by
  unfold findI at h
  rw [List.findIdx?_eq_none_iff] at h
  exact fun m hm => ne_of_toList.1 (h m hm)
theorem findI_nil (nm : ByteArray) : findI [] nm = none := rfl

set_option maxHeartbeats 400000 in
theorem aEq (m : Mb) (nm : ByteArray) (p : Nat) (w : World) (hp : w.cell? ⟨p, 0, none⟩ = some (.string nm)) :
    Calls Tryz.prog 41 #[valM m, .pointer (some ⟨p, 0, none⟩)] w fun e w' => e = .returned (.bool (m.n.toList == nm.toList)) ∧ w.grownBy w' none := by
  have h0 := cell_al hp
  have hb := cell_block hp
  have HN := Lib.hid (Nat.ne_of_lt hb)
  unfold valM
  go_enter Tryz.func41, Tryz.ntmps41
  go_wp2
  go_ret
  exact ⟨rfl, World.grownBy_alloc _ _ _⟩

set_option maxRecDepth 100000 in
set_option maxHeartbeats 1000000 in
theorem aIndex (v : Value) (l : List Mb) (nm : ByteArray) (p : Nat) (w : World) (h : MRow w v l) (hp : w.cell? ⟨p, 0, none⟩ = some (.string nm)) :
    Calls Tryz.prog 40 #[v, .func (.func 41) #[] #[.pointer (some ⟨p, 0, none⟩)]] w fun e w' => e = .returned (.int .i64 (idxI l nm)) ∧ w.grownBy w' none := by
  have HR := Lib.hid h; have HP := Lib.hid hp
  obtain ⟨a, c, rfl, hn, -, -⟩ := h
  have eg : ∀ args w, (callFunc 41 args).run Tryz.prog w = .ok (.enter 41 args) w := enters_of Tryz.func41 (by kernel_rfl) rfl
  clear hp
  go_enter Tryz.func40, Tryz.ntmps40
  go_wp2
  go_loopw [5, 8] (fun _ i wr => ∃ k : Nat, k ≤ l.length ∧ i = .int .i64 k ∧ Hid (∀ j, j < k → ∀ x, l[j]? = some x → (x.n.toList == nm.toList) = false) ∧ Hid (w.grownBy wr none)) (fun _ i _ => l.length - (intOf i).toNat)
  case atStart => exact ⟨0, Nat.zero_le _, rfl, Lib.hid (fun j h => absurd h (Nat.not_lt_zero _)), Lib.hid (World.grownBy.refl _ _)⟩
  case round =>
    obtain ⟨k, hk, rfl, ha, hG⟩ := hrel
    by_cases hlt : k < l.length
    · obtain ⟨b, off, c', m, e, hm, sn, sc, hb, c0, c1, c2⟩ := (HR.out.grown hG.out).at k hlt
      cases e
      have Hm := Lib.hid hm
      have hcon := aEq m nm p wr (hG.out.cell HP.out (by simp))
      unfold valM at hcon
      clear hm sn sc
      cases hq : (m.n.toList == nm.toList)
      · rw [hq] at hcon
        have HC := Lib.hid hcon
        have HA := Lib.hid (show ∀ j, j < k + 1 → ∀ x, l[j]? = some x → (x.n.toList == nm.toList) = false by
          intro j hj x hx
          rcases Nat.lt_succ_iff_lt_or_eq.1 hj with h | rfl
          · exact ha.out j h x hx
          · rw [Hm.out] at hx; cases hx; exact hq)
        clear hcon hq ha
        go_wp2_with (go_at_call 41; refine (HC.out).mono ?_; rintro e w1 ⟨rfl, hg⟩; have G := Lib.hid (hG.out.trans hg); clear hg)
        go_roundw
        case rel => exact ⟨k + 1, by omega, by go_num, HA, G⟩
        case measure => simp [intOf]; omega
      · have HI := Lib.hid (show idxI l nm = k by unfold idxI; rw [findI_hit Hm.out hq ha.out])
        rw [hq] at hcon
        have HC := Lib.hid hcon
        clear hcon hq ha
        go_wp2_with (go_at_call 41; refine (HC.out).mono ?_; rintro e w1 ⟨rfl, hg⟩; have G := Lib.hid (hG.out.trans hg); clear hg)
        go_ret
        exact ⟨ret_int HI.out.symm, G.out⟩
    · obtain rfl : k = l.length := by omega
      have HI := Lib.hid (show idxI l nm = -1 by unfold idxI; rw [findI_not ha.out])
      go_wp2
      go_ret
      exact ⟨ret_int HI.out.symm, hG.out⟩

set_option maxHeartbeats 1000000 in
theorem aAt (v : Value) (l : List Mb) (nm : ByteArray) (w : World) (h : MRow w v l) :
    Calls Tryz.prog 29 #[v, .string nm] w fun e w' => e = .returned (.int .i64 (idxI l nm)) ∧ w.grownBy w' none := by
  have HI := Lib.hid (aIndex v l nm w.heap.size (w.alloc (.cells #[.string nm] 9)) (h.grown (World.grownBy_alloc _ _ _)) (by simp))
  have G := Lib.hid (World.grownBy_alloc w (.cells #[.string nm] 9) none)
  clear h
  go_enter Tryz.func29, Tryz.ntmps29
  go_wp2_with (go_at_call 40; refine (HI.out).mono ?_; rintro e w1 ⟨rfl, hg⟩; have G2 := Lib.hid (G.out.trans hg); clear hg)
  go_ret
  exact ⟨rfl, G2.out⟩
end Go.Proofs.YtgicfbhhnohndaaGreatDoor

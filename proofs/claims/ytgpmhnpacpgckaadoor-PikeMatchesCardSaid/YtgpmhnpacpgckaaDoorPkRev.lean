/- slices.Reverse at ways. -/
import Derived.Test.YtgpmhnpacpgckaaDoorPkMem
import Derived.BigRegion
namespace Go.Proofs.YtgpmhnpacpgckaaDoor
open Go.RowKit

theorem flatW_set : ∀ (L : List Wx) (k : Nat) (c : Wx), k < L.length → ((flatW L).set (k * 2) (.int .i64 c.a)).set (k * 2 + 1) (.pointer (some ⟨c.b, 0, none⟩)) = flatW (L.set k c) := by
  intro L
  induction L with
  | nil => intro k c hx; simp at hx
  | cons y L ih =>
    intro k c hx
    cases k with
    | zero => rw [List.set_cons_zero, flatW_cons, flatW_cons]; rfl
    | succ k =>
      rw [List.set_cons_succ, flatW_cons, flatW_cons, ← ih k c (by simpa using hx)]
      show ((_ :: _ :: flatW L).set _ _).set _ _ = _ :: _ :: _
      rw [show (k + 1) * 2 = k * 2 + 1 + 1 by omega, List.set_cons_succ, List.set_cons_succ, List.set_cons_succ, List.set_cons_succ]; rfl
/-- as far as turned: k from each end -/
def RevTo (N : List Wx) (k : Nat) (D : List Wx) : Prop := D.length = N.length ∧ ∀ x, x < N.length → D[x]? = if x < k ∨ N.length ≤ x + k then N[N.length - 1 - x]? else N[x]?
theorem rev_start (N : List Wx) : RevTo N 0 N := ⟨rfl, fun x hx => by rw [if_neg (by omega)]⟩
theorem rev_end {N D : List Wx} {k : Nat} (h : RevTo N k D) (hk : N.length ≤ 2 * k + 1) : D = N.reverse := by
  apply List.ext_getElem?
  intro x
  by_cases hx : x < N.length
  · rw [h.2 x hx, List.getElem?_reverse hx]
    split
    · rfl
    · rw [show N.length - 1 - x = x by omega]
  · rw [List.getElem?_eq_none (by rw [h.1]; omega), List.getElem?_eq_none (by simp; omega)]
theorem rev_step {N D : List Wx} {k : Nat} {a b : Wx} (h : RevTo N k D) (hk : 2 * k + 1 < N.length) (ha : D[k]? = some a) (hb : D[N.length - 1 - k]? = some b) : RevTo N (k + 1) ((D.set k b).set (N.length - 1 - k) a) := by
  refine ⟨by simp [h.1], fun x hx => ?_⟩
  have h1 := h.2 k (by omega)
  have h2 := h.2 (N.length - 1 - k) (by omega)
  rw [if_neg (by omega), ha] at h1
  rw [if_neg (by omega), hb] at h2
  rw [List.getElem?_set, List.getElem?_set]
  by_cases e1 : N.length - 1 - k = x
  · rw [if_pos e1, if_pos (by simp [h.1]; omega), if_pos (by omega), ← e1, show N.length - 1 - (N.length - 1 - k) = k by omega]; exact h1
  · rw [if_neg e1]
    by_cases e2 : k = x
    · subst e2; rw [if_pos rfl, if_pos (by rw [h.1]; omega), if_pos (by omega)]; exact h2
    · rw [if_neg e2, h.2 x hx]
      by_cases e3 : x < k ∨ N.length ≤ x + k
      · rw [if_pos e3, if_pos (by omega)]
      · rw [if_neg e3, if_neg (by omega)]

set_option maxRecDepth 100000 in
set_option maxHeartbeats 4000000 in
theorem cRev (base g n cap : Nat) (N : List Wx) (w : World) (hn : N.length = n) (hmax : n ≤ 1000000) (h : w.ownsRow base 45 2 (.slice (some ⟨g, 0, none⟩) n cap) n (flatW N)) :
    Calls Tryd.prog 18 #[.slice (some ⟨g, 0, none⟩) n cap] w fun e w' => e = .returned (.tuple #[]) ∧ w'.ownsRow base 45 2 (.slice (some ⟨g, 0, none⟩) n cap) n (flatW N.reverse) ∧ w.grownBy w' (some g) := by
  have H := Lib.hid h
  have HN := Lib.hid hn
  clear h hn
  go_enter Tryd.func18, Tryd.ntmps18
  go_wp2
  go_loopw [2, 3] (fun i j wr => ∃ k : Nat, 2 * k ≤ n + 1 ∧ i = .int .i64 k ∧ j = .int .i64 ((n : Int) - 1 - k) ∧ ∃ D, Hid (RevTo N k D) ∧ Hid (wr.ownsRow base 45 2 (.slice (some ⟨g, 0, none⟩) n cap) n (flatW D)) ∧ Hid (w.grownBy wr (some g))) (fun i _ _ => n - (intOf i).toNat)
  case atStart => exact ⟨0, by omega, rfl, by simp, N, Lib.hid (rev_start N), H, Lib.hid (World.grownBy.refl _ _)⟩
  case round =>
    obtain ⟨k, hk, rfl, rfl, D, hD, hR, hG⟩ := hrel
    by_cases hlt : 2 * k + 1 < n
    · obtain ⟨m, hm⟩ : ∃ m : Nat, m = n - 1 - k := ⟨_, rfl⟩
      have hmi : (n : Int) - 1 - k = m := by omega
      have HMI := Lib.hid hmi
      have hmk : k < m := by omega
      have hmn : m < n := by omega
      obtain ⟨a, ha⟩ : ∃ a, D[k]? = some a := ⟨_, List.getElem?_eq_getElem (by rw [hD.out.1, HN.out]; omega)⟩
      obtain ⟨b, hb⟩ : ∃ b, D[m]? = some b := ⟨_, List.getElem?_eq_getElem (by rw [hD.out.1, HN.out]; omega)⟩
      have HNX := Lib.hid (show RevTo N (k + 1) ((D.set k b).set m a) by
        have := rev_step hD.out (by rw [HN.out]; omega) ha (by rw [HN.out, ← hm]; exact hb)
        rw [HN.out, ← hm] at this; exact this)
      have c0 := hR.out.cells (g := g) rfl _ _ (flatW_get _ _ _ ha).1
      have c1 := hR.out.cells (g := g) rfl _ _ (flatW_get _ _ _ ha).2
      have c2 := hR.out.cells (g := g) rfl _ _ (flatW_get _ _ _ hb).1
      have c3 := hR.out.cells (g := g) rfl _ _ (flatW_get _ _ _ hb).2
      rw [Addr.add_lit, Nat.zero_add] at c0 c1 c2 c3
      have fr := fun j => hR.out.frozenAt j
      rw [hmi]
      obtain ⟨o1, g1⟩ := hR.out.stored (k * 2) (.int .i64 b.a)
      obtain ⟨o2, g2⟩ := o1.stored (k * 2 + 1) (.pointer (some ⟨b.b, 0, none⟩))
      obtain ⟨o3, g3⟩ := o2.stored (m * 2) (.int .i64 a.a)
      obtain ⟨o4, g4⟩ := o3.stored (m * 2 + 1) (.pointer (some ⟨a.b, 0, none⟩))
      have hl : D.length = n := hD.out.1.trans HN.out
      rw [flatW_set D k b (by rw [hl]; omega), flatW_set _ m a (by simp [hl]; omega)] at o4
      have O4 := Lib.hid o4
      have G4 := Lib.hid ((((hG.out.trans g1).trans g2).trans g3).trans g4)
      clear ha hb o1 o2 o3 o4 g1 g2 g3 g4 hl hm hmi
      go_wp2
      go_region
      all_goals
        go_wp2
        go_roundw
        case rel => exact ⟨k + 1, by omega, by go_num, by have := HMI.out; first | (congr 1; omega) | (simp; omega), _, HNX, Lib.hid (O4.out.kept (grown_drew (World.grownBy.refl _ none)) (.inr (by simp [Value.ownBlock]))), Lib.hid (grown_drew G4.out)⟩
        case measure => simp [intOf]; omega
    · have HE := Lib.hid (rev_end hD.out (by rw [HN.out]; omega))
      go_wp2
      go_end0
      exact ⟨rfl, by rw [← HE.out]; exact hR.out, hG.out⟩
end Go.Proofs.YtgpmhnpacpgckaaDoor

/- Walks of package tree: Remove. -/
import Derived.Test.YtbcemenfklgnkaaGreatDoorTreeC
namespace Go.Proofs.YtbcemenfklgnkaaGreatDoor
open Go.RowKit Go.Maps

theorem MapIs.of_del {w' : World} {b n : Nat} {l : List Fl} {s : ByteArray} (h : w'.ownsMap Tryz.prog 9 fileElem b n ((toD l).del (keyS s))) : MapIs w' b (delL l s) := by
  rw [toD_del] at h; exact mapIs_of h

set_option maxRecDepth 100000 in
set_option maxHeartbeats 1000000 in
theorem tRemove (p b : Nat) (l : List Fl) (s : ByteArray) (A : Nat → Addr) (w : World) (h : IsTree w p b l) (hS : Sents L6 A w) (hs : s.size ≤ maxLen) :
    Calls Tryz.prog 54 #[.pointer (some ⟨p, 0, none⟩), .string s] w fun e w' => e = .returned (errV A (remE l s)) ∧ IsTree w' p b (delL l s) ∧ w.grownBy w' (some b) := by
  unfold remE
  have h8 := hS (8, 9) (by simp [L6])
  simp only at h8
  have hcp := h.1
  have hm := h.2.1
  have hl := hm.look_ok hs
  have HT := Lib.hid h
  have HK := Lib.hid (keyIs hs)
  obtain ⟨g, hg⟩ : ∃ g, g = getL l s := ⟨_, rfl⟩
  rw [← hg] at hl
  have h8a := cell_al h8
  have hca := cell_al hcp
  clear h hS hg
  by_cases hq : hasL l s = true
  · rw [if_pos hq]
    rw [hq] at hl
    have hm1 := hm.alloc (.cells #[.string g.n, .string g.c, .int .i64 g.t] 61)
    go_enter Tryz.func54, Tryz.ntmps54
    go_wp2_with (first | (go_at_call 50; refine (tAll p b _ hcp).mono ?_; rintro e w' ⟨rfl, rfl⟩) | (at_delete; refine wpList_delete_own _ rfl _ _ 70 9 rfl 61 lawS Tryz.underlying70 fileElem b l.length (toD l) rfl hm1 _ _ rfl HK.out ?_; intro w1 hown1 hturn1))
    go_ret
    have hgr := hturn1.grown
    have hg0 := World.grownBy_alloc w (.cells #[.string g.n, .string g.c, .int .i64 g.t] 61) (some b)
    have hne : some p ≠ some b := fun e => HT.out.ne (Option.some.inj e)
    exact ⟨rfl, ⟨(hg0.trans hgr).cell HT.out.1 hne, MapIs.of_del hown1, Nat.le_trans (delL_len l s) HT.out.2.2⟩, hg0.trans hgr⟩
  · have hq' : hasL l s = false := by simpa using hq
    rw [if_neg hq, delL_not hq']
    rw [hq'] at hl
    go_enter Tryz.func54, Tryz.ntmps54
    go_wp2_with (go_at_call 50; refine (tAll p b _ hcp).mono ?_; rintro e w' ⟨rfl, rfl⟩)
    go_ret
    have hg0 := World.grownBy_alloc w (.cells #[.string g.n, .string g.c, .int .i64 g.t] 61) (some b)
    exact ⟨rfl, HT.out.kept (World.grownBy_alloc w _ none) (by simp) (by simp), hg0⟩
end Go.Proofs.YtbcemenfklgnkaaGreatDoor

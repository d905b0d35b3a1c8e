/- The document's tree: Put. -/
import Derived.Test.YtbcemenfklgnkaaGreatDoorRefA
import Derived.Test.YtbcemenfklgnkaaGreatDoorTreeE
import Derived.Test.YtbcemenfklgnkaaGreatDoorPlain
import Derived.Test.YtbcemenfklgnkaaGreatDoorRightRef
import Derived.Test.YtbcemenfklgnkaaGreatDoorApartA
import Derived.WalkLawsBesides
namespace Go.Proofs.YtbcemenfklgnkaaGreatDoor
open Go.RowKit

theorem box_newT (w : World) (f : Fl) (t : TypeId) : Box (w.alloc (.cells #[.string f.n, .string f.c, .int .i64 f.t] t)) w.heap.size f := ⟨by go_simp, by go_simp, by go_simp⟩
theorem Box.below {w w' : World} {b B : Nat} {f : Fl} (h : Box w b f) (hb : Below B w w') (hlt : b < B) : Box w' b f :=
  ⟨(hb.cell (p := ⟨b, 0, none⟩) hlt).trans h.1, (hb.cell (p := ⟨b, 1, none⟩) hlt).trans h.2.1, (hb.cell (p := ⟨b, 2, none⟩) hlt).trans h.2.2⟩
theorem Box.kept {w w' : World} {b : Nat} {f : Fl} {row : Option Nat} (h : Box w b f) (hg : w.grownBy w' row) (hne : some b ≠ row) : Box w' b f :=
  ⟨hg.cell h.1 hne, hg.cell h.2.1 hne, hg.cell h.2.2 hne⟩
theorem Box.lt {w : World} {b : Nat} {f : Fl} (h : Box w b f) : b < w.heap.size := cell_block h.1
theorem infoFileR : (Tryz.prog.info? 76).map (fun i => (i.zero, i.size, i.bytes)) = some (some (.agg #[.string ByteArray.empty, .string ByteArray.empty, .int .i64 0]), 3, 40) := by kernel_rfl
theorem own_newF (w : World) (base : Nat) (hb : base ≤ w.heap.size) : (w.alloc (.cells #[] 76)).ownsRow base 76 3 (.slice (some ⟨w.heap.size, 0, none⟩) 0 0) 0 (cellsF []) :=
  ⟨rfl, .inr ⟨w.heap.size, 0, #[], rfl, hb, heap_alloc_new w _, Nat.le_refl _, Nat.zero_le _, rfl, rfl⟩⟩

theorem putE_cases (l : List Fl) (f : Fl) : (putE l f = 4 ∧ rightB f.n = false) ∨ (putE l f = 2 ∧ rightB f.n = true ∧ 900 < f.c.size) ∨ (putE l f = 1 ∧ rightB f.n = true ∧ f.c.size ≤ 900 ∧ (f.t < 1 ∨ 549755813888 < f.t)) ∨
    (putE l f = 10 ∧ rightB f.n = true ∧ f.c.size ≤ 900 ∧ 1 ≤ f.t ∧ f.t ≤ 549755813888 ∧ hasL l f.n = false ∧ 40 ≤ l.length) ∨
    (putE l f = 0 ∧ rightB f.n = true ∧ f.c.size ≤ 900 ∧ 1 ≤ f.t ∧ f.t ≤ 549755813888 ∧ (hasL l f.n = true ∨ (hasL l f.n = false ∧ l.length < 40))) := by
  unfold putE
  by_cases h1 : rightB f.n = false
  · exact .inl ⟨if_pos h1, h1⟩
  · have h1' : rightB f.n = true := by simpa using h1
    rw [if_neg h1]
    by_cases h2 : 900 < f.c.size
    · exact .inr (.inl ⟨if_pos h2, h1', h2⟩)
    · rw [if_neg h2]
      rcases setE_cases l f with ⟨e, h⟩ | ⟨e, h3, h4, h5, h6⟩ | ⟨e, h3, h4, h5⟩
      · exact .inr (.inr (.inl ⟨e, h1', by omega, h⟩))
      · exact .inr (.inr (.inr (.inl ⟨e, h1', by omega, h3, h4, h5, h6⟩)))
      · exact .inr (.inr (.inr (.inr ⟨e, h1', by omega, h3, h4, h5⟩)))
theorem RTree.len40 {w : World} {p : Nat} {l : List Fl} (h : RTree w p l) : l.length ≤ 40 := by
  obtain ⟨a, c, _, _, _, _, _, _, h40⟩ := h; exact h40
theorem RTree.sizes {w : World} {p : Nat} {l : List Fl} (h : RTree w p l) : ∀ f ∈ l, f.n.size ≤ maxLen ∧ f.c.size ≤ maxLen := by
  obtain ⟨a, c, _, _, ⟨_, _, _, _, hs, _⟩, _⟩ := h; exact hs

set_option maxRecDepth 100000 in
set_option maxHeartbeats 1000000 in
theorem rPut_bad (p : Nat) (l : List Fl) (f : Fl) (w : World) (h : RTree w p l) (hn : f.n.size ≤ maxLen) (hc : f.c.size ≤ maxLen) (hk : putE l f ≠ 0) :
    Calls Tryz.prog 33 #[.pointer (some ⟨p, 0, none⟩), valF f] w fun e w' => e = .returned (.int .i64 (putE l f)) ∧ w.grownBy w' none := by
  unfold maxLen at hc
  have HT := Lib.hid h
  have h40 := h.len40
  have hga := World.grownBy_alloc w (.cells #[.string f.n, .string f.c, .int .i64 f.t] 76) none
  have HGA := Lib.hid hga
  clear hga
  rcases putE_cases l f with ⟨e, h1⟩ | ⟨e, h1, h2⟩ | ⟨e, h1, h2, h3⟩ | ⟨e, h1, h2, h3, h4, h5, h6⟩ | ⟨e, _⟩
  · rw [e]
    clear e hk h
    unfold valF
    go_enter Tryz.func33, Tryz.ntmps33
    go_wp2_with (go_at_call 48; refine (rRightT _ _ hn).mono ?_; rintro e w' ⟨rfl, rfl⟩)
    go_ret
    exact ⟨rfl, HGA.out⟩
  · rw [e]
    clear e hk h
    unfold valF
    go_enter Tryz.func33, Tryz.ntmps33
    go_wp2_with (go_at_call 48; refine (rRightT _ _ hn).mono ?_; rintro e w' ⟨rfl, rfl⟩)
    go_ret
    exact ⟨rfl, HGA.out⟩
  · rw [e]
    clear e hk h
    unfold valF
    rcases h3 with h3 | h3
    all_goals
      go_enter Tryz.func33, Tryz.ntmps33
      go_wp2_with (go_at_call 48; refine (rRightT _ _ hn).mono ?_; rintro e w' ⟨rfl, rfl⟩)
      go_ret
      exact ⟨rfl, HGA.out⟩
  · rw [e]
    clear e hk h
    have hat : atI l f.n = -1 := by
      rcases at_cases l f.n with ⟨_, h⟩ | ⟨_, _, _, _, _, _, _, h⟩
      · exact h
      · rw [h5] at h; cases h
    have hcon := fun (W : World) (hW : RTree W p l) => rAt p l f.n W hW
    rw [hat] at hcon
    have HCON := Lib.hid hcon
    clear hcon hat h5
    unfold valF
    go_enter Tryz.func33, Tryz.ntmps33
    go_wp2_with (first
      | (go_at_call 48; refine (rRightT _ _ hn).mono ?_; rintro e w' ⟨rfl, rfl⟩)
      | (go_at_call 32; refine (HCON.out _ (HT.out.grown HGA.out)).mono ?_; rintro e w2 ⟨rfl, g2⟩; have G2 := Lib.hid g2; obtain ⟨a2, c2, hc2, -⟩ := (HT.out.grown HGA.out).grown g2; clear g2))
    go_ret
    exact ⟨rfl, HGA.out.trans G2.out⟩
  · exact absurd e hk
end Go.Proofs.YtbcemenfklgnkaaGreatDoor

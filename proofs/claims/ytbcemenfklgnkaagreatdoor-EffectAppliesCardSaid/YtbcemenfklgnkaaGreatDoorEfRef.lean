/- Walks of the document's layer 5: Check, Do, Apply. -/
import Derived.Test.YtbcemenfklgnkaaGreatDoorEfDo
import Derived.Test.YtbcemenfklgnkaaGreatDoorStatC
import Derived.Test.YtbcemenfklgnkaaGreatDoorRefRm
namespace Go.Proofs.YtbcemenfklgnkaaGreatDoor
open Go.RowKit Go.Maps

theorem rMemV {s : ByteArray} (w : World) (hs : s.size ≤ maxLen) :
    Calls Tryz.prog 25 #[.string s] w fun e w' => ∃ x y, e = .returned (.tuple #[.string x, .string y, .bool (memB s)]) ∧ w.grownBy w' none := by
  cases hm : memB s
  · exact (rMember_no s w hs hm).mono fun e w' ⟨he, hw⟩ => ⟨_, _, he, by rw [← hw]; exact World.grownBy.refl _ _⟩
  · exact (rmem_call w hs hm).mono fun e w' ⟨he, hg⟩ => ⟨_, _, he, hg⟩
theorem bne_of {k j : Int} (h : (k == j) = false) : (k != j) = true := by unfold bne; rw [h]; rfl
theorem rRemove (p : Nat) (l : List Fl) (s : ByteArray) (w : World) (h : RTree w p l) (hri : Rising l) :
    Calls Tryz.prog 58 #[.pointer (some ⟨p, 0, none⟩), .string s] w fun e w' => e = .returned (.int .i64 (remE l s : Nat)) ∧ RTree w' p (delL l s) ∧ w.grownBy w' (some p) := by
  unfold remE
  by_cases hq : hasL l s = true
  · rw [if_pos hq]
    exact rRemove_ok p l s w h hq hri
  · have hq' : hasL l s = false := by simpa using hq
    rw [if_neg hq, delL_not hq']
    exact (rRemove_none p l s w h hq').mono fun e w' ⟨he, hg⟩ => ⟨he, h.grown hg, hg.but _⟩

set_option maxRecDepth 100000 in
set_option maxHeartbeats 4000000 in
theorem rCheck (f : Ef) (w : World) (hn : f.n.size ≤ maxLen) (hc : f.c.size ≤ maxLen) :
    Calls Tryz.prog 18 #[.agg #[.int .i64 f.k, .string f.n, .string f.c]] w fun e w' => e = .returned (.int .i64 (chkE f : Nat)) ∧ w.grownBy w' none := by
  obtain ⟨k, n, c⟩ := f
  simp only at hn hc ⊢
  unfold maxLen at hc
  have HM := Lib.hid (fun W => rMemV (s := n) W hn)
  have GX := Lib.hid (World.grownBy_alloc w (.cells #[.int .i64 k, .string n, .string c] 49) none)
  have BX := Lib.hid (boxE_new w ⟨k, n, c⟩ 49)
  have a0 := BX.out.1; have a1 := BX.out.2.1; have a2 := BX.out.2.2
  simp only at a0 a1 a2
  obtain ⟨V, hV⟩ : ∃ V, V = chkE ⟨k, n, c⟩ := ⟨_, rfl⟩
  rw [← hV]
  unfold chkE at hV
  simp only at hV
  clear hn
  generalize memB n = mb at *
  have hcc : (c.size = 0 ∧ decide ((0 : Int) < (c.size : Int)) = false) ∨ (0 < c.size ∧ decide ((0 : Int) < (c.size : Int)) = true) := by
    rcases Nat.eq_zero_or_pos c.size with h | h
    · exact .inl ⟨h, decide_eq_false (by omega)⟩
    · exact .inr ⟨h, decide_eq_true (by omega)⟩
  obtain ⟨z, hz⟩ | ⟨z, hz⟩ := hcc
  all_goals
    rcases kinds4 k with rfl | rfl | rfl | ⟨k1, k2, k3, k4⟩ | ⟨k1, k2, k3, k4⟩
  all_goals
    cases mb
  all_goals
    simp [*] at hV
    subst hV
    try (have m1 : (k != 1) = true := bne_of k1; have m2 : (k != 2) = true := bne_of k2; have m3 : (k != 3) = true := bne_of k3)
    go_enter Tryz.func18, Tryz.ntmps18
    go_wp2_with (go_at_call 25; refine (HM.out _).mono ?_; rintro e w1 ⟨x, y, rfl, g1⟩; have G1 := Lib.hid (GX.out.trans g1); obtain ⟨b0, b1, b2⟩ := BX.out.kept g1 (by simp); simp only at b0 b1 b2; clear g1)
    go_ret
    first | exact ⟨rfl, G1.out⟩ | exact ⟨rfl, GX.out⟩

set_option maxRecDepth 100000 in
set_option maxHeartbeats 4000000 in
theorem rDo (q : Nat) (l : List Fl) (t : Int) (f : Ef) (w : World) (h : RTree w q l) (hn : f.n.size ≤ maxLen) (hc : f.c.size ≤ maxLen) (hl : ∀ x ∈ l, x.c.size ≤ 900) (hri : Rising l) :
    Calls Tryz.prog 34 #[.pointer (some ⟨q, 0, none⟩), .int .i64 t, .agg #[.int .i64 f.k, .string f.n, .string f.c]] w fun e w' =>
      e = .returned (.int .i64 ((doE t l f).1 : Nat)) ∧ RTree w' q (doE t l f).2 ∧ w.grownBy w' (some q) := by
  have HT := Lib.hid h
  have HC := Lib.hid (fun W => rCheck f W hn hc)
  have GX := Lib.hid (World.grownBy_alloc w (.cells #[.int .i64 f.k, .string f.n, .string f.c] 49) none)
  have BX := Lib.hid (boxE_new w f 49)
  have a0 := BX.out.1; have a1 := BX.out.2.1; have a2 := BX.out.2.2
  clear h
  rcases doE_cases t l f with ⟨h0, e⟩ | ⟨h0, hk, e⟩ | ⟨h0, hk, e⟩ | ⟨h0, hk, e⟩
  all_goals
    rw [e]
    clear e
    try simp only
  · have hz : (((chkE f : Nat) : Int) == 0) = false := by rw [beq_eq_false_iff_ne]; omega
    generalize chkE f = k at *
    obtain ⟨fk, fn, fc⟩ := f
    simp only at *
    go_enter Tryz.func34, Tryz.ntmps34
    go_wp2_with (go_at_call 18; refine (HC.out _).mono ?_; rintro e w1 ⟨rfl, g1⟩; have G1 := Lib.hid (GX.out.trans g1); clear g1)
    go_ret
    exact ⟨rfl, HT.out.grown G1.out, G1.out.but _⟩
  · rw [h0] at HC
    have hp := fun (W : World) (hW : RTree W q l) => rPut q l ⟨f.n, f.c, t⟩ W hW hn hc hri
    unfold valF at hp
    have HP := Lib.hid hp
    clear hp
    obtain ⟨fk, fn, fc⟩ := f
    simp only at *
    subst hk
    clear h0
    generalize putE l ⟨fn, fc, t⟩ = k at *
    generalize setL k l ⟨fn, fc, t⟩ = l2 at *
    go_enter Tryz.func34, Tryz.ntmps34
    go_wp2_with (first
      | (go_at_call 18; refine (HC.out _).mono ?_; rintro e w1 ⟨rfl, g1⟩; have G1 := Lib.hid (GX.out.trans g1); obtain ⟨b0, b1, b2⟩ := BX.out.kept g1 (by simp); simp only at b0 b1 b2; clear g1)
      | (go_at_call 33; refine (HP.out _ (HT.out.grown G1.out)).mono ?_; rintro e w2 ⟨rfl, t2, g2⟩; have T2 := Lib.hid t2; have G2 := Lib.hid g2; clear t2 g2))
    go_ret
    exact ⟨rfl, T2.out, (G1.out.but _).trans G2.out⟩
  · rw [h0] at HC
    have HP := Lib.hid (fun W (hW : RTree W q l) => rSet q l f.n t W hW hn hl hri)
    obtain ⟨fk, fn, fc⟩ := f
    simp only at *
    subst hk
    clear h0
    generalize statR l fn t = r at *
    obtain ⟨k, l2⟩ := r
    simp only at *
    go_enter Tryz.func34, Tryz.ntmps34
    go_wp2_with (first
      | (go_at_call 18; refine (HC.out _).mono ?_; rintro e w1 ⟨rfl, g1⟩; have G1 := Lib.hid (GX.out.trans g1); obtain ⟨b0, b1, b2⟩ := BX.out.kept g1 (by simp); simp only at b0 b1 b2; clear g1)
      | (go_at_call 57; refine (HP.out _ (HT.out.grown G1.out)).mono ?_; rintro e w2 ⟨rfl, t2, g2⟩; have T2 := Lib.hid t2; have G2 := Lib.hid g2; clear t2 g2))
    go_ret
    exact ⟨rfl, T2.out, (G1.out.but _).trans G2.out⟩
  · rw [h0] at HC
    have HP := Lib.hid (fun W (hW : RTree W q l) => rRemove q l f.n W hW hri)
    obtain ⟨fk, fn, fc⟩ := f
    simp only at *
    subst hk
    clear h0
    generalize remE l fn = k at *
    generalize delL l fn = l2 at *
    go_enter Tryz.func34, Tryz.ntmps34
    go_wp2_with (first
      | (go_at_call 18; refine (HC.out _).mono ?_; rintro e w1 ⟨rfl, g1⟩; have G1 := Lib.hid (GX.out.trans g1); obtain ⟨b0, b1, b2⟩ := BX.out.kept g1 (by simp); simp only at b0 b1 b2; clear g1)
      | (go_at_call 58; refine (HP.out _ (HT.out.grown G1.out)).mono ?_; rintro e w2 ⟨rfl, t2, g2⟩; have T2 := Lib.hid t2; have G2 := Lib.hid g2; clear t2 g2))
    go_ret
    exact ⟨rfl, T2.out, (G1.out.but _).trans G2.out⟩
end Go.Proofs.YtbcemenfklgnkaaGreatDoor

/- Walks of package effect: Check, Do. -/
import Derived.Test.YtbcemenfklgnkaaGreatDoorEfPlain
import Derived.Test.YtbcemenfklgnkaaGreatDoorTreeK
namespace Go.Proofs.YtbcemenfklgnkaaGreatDoor
open Go.RowKit Go.Maps

theorem nMemV {s : ByteArray} (w : World) (hs : s.size ≤ maxLen) :
    Calls Tryz.prog 41 #[.string s] w fun e w' => ∃ x y, e = .returned (.tuple #[.string x, .string y, .bool (memB s)]) ∧ w.grownBy w' none := by
  cases hm : memB s
  · exact (nMember_no s w hs hm).mono fun e w' ⟨he, hw⟩ => ⟨_, _, he, by rw [← hw]; exact World.grownBy.refl _ _⟩
  · exact (mem_call w hs hm).mono fun e w' ⟨he, hg⟩ => ⟨_, _, he, hg⟩
theorem kinds4 (k : Int) : k = 1 ∨ k = 2 ∨ k = 3 ∨ ((k == 1) = false ∧ (k == 2) = false ∧ (k == 3) = false ∧ k < 1) ∨ ((k == 1) = false ∧ (k == 2) = false ∧ (k == 3) = false ∧ 3 < k) := by
  have h : k = 1 ∨ k = 2 ∨ k = 3 ∨ k < 1 ∨ 3 < k := by omega
  rcases h with h | h | h | h | h
  · exact .inl h
  · exact .inr (.inl h)
  · exact .inr (.inr (.inl h))
  · refine .inr (.inr (.inr (.inl ⟨?_, ?_, ?_, h⟩))) <;> rw [beq_eq_false_iff_ne] <;> omega
  · refine .inr (.inr (.inr (.inr ⟨?_, ?_, ?_, h⟩))) <;> rw [beq_eq_false_iff_ne] <;> omega
/-- a block that holds an effect -/
def BoxE (w : World) (b : Nat) (f : Ef) : Prop := w.cell? ⟨b, 0, none⟩ = some (.int .i64 f.k) ∧ w.cell? ⟨b, 1, none⟩ = some (.string f.n) ∧ w.cell? ⟨b, 2, none⟩ = some (.string f.c)
theorem boxE_new (w : World) (f : Ef) (t : TypeId) : BoxE (w.alloc (.cells #[.int .i64 f.k, .string f.n, .string f.c] t)) w.heap.size f := ⟨by go_simp, by go_simp, by go_simp⟩
theorem BoxE.kept {w w' : World} {b : Nat} {f : Ef} {row : Option Nat} (h : BoxE w b f) (hg : w.grownBy w' row) (hb : some b ≠ row) : BoxE w' b f := ⟨hg.cell h.1 hb, hg.cell h.2.1 hb, hg.cell h.2.2 hb⟩
theorem empty_text (c : ByteArray) : (c.size = 0 ∧ c.toList.isEmpty = true) ∨ (0 < c.size ∧ c.toList.isEmpty = false) := by
  rw [Lib.toList_data]
  cases hq : c.data.toList with
  | nil => exact .inl ⟨by rw [← bytes_len, hq]; rfl, rfl⟩
  | cons a r => exact .inr ⟨by rw [← bytes_len, hq]; simp, rfl⟩

set_option maxRecDepth 100000 in
set_option maxHeartbeats 4000000 in
theorem eCheck (f : Ef) (A : Nat → Addr) (w : World) (hE : EnvE A w) (hn : f.n.size ≤ maxLen) :
    Calls Tryz.prog 17 #[.agg #[.int .i64 f.k, .string f.n, .string f.c]] w fun e w' => e = .returned (errV A (chkE f)) ∧ w.grownBy w' none := by
  obtain ⟨k, n, c⟩ := f
  simp only at hn ⊢
  have HM := Lib.hid (fun W => nMemV (s := n) W hn)
  have HE := Lib.hid hE
  have GX := Lib.hid (World.grownBy_alloc w (.cells #[.int .i64 k, .string n, .string c] 46) none)
  have BX := Lib.hid (boxE_new w ⟨k, n, c⟩ 46)
  obtain ⟨V, hV⟩ : ∃ V, V = chkE ⟨k, n, c⟩ := ⟨_, rfl⟩
  rw [← hV]
  unfold chkE at hV
  simp only at hV
  clear hE hn
  generalize memB n = mb at *
  obtain ⟨z, hz⟩ | ⟨z, hz⟩ := empty_text c
  all_goals
    rcases kinds4 k with rfl | rfl | rfl | ⟨k1, k2, k3, k4⟩ | ⟨k1, k2, k3, k4⟩
  all_goals
    cases mb
  all_goals
    simp [*] at hV
    subst hV
    first | rw [errV_zero] | rw [errV_ne (by decide)]
    go_enter Tryz.func17, Tryz.ntmps17
    go_wp2_with fail
    refine (HM.out _).mono ?_
    rintro e w1 ⟨x, y, rfl, g1⟩
    have G1 := Lib.hid (GX.out.trans g1)
    obtain ⟨b0, b1, b2⟩ := BX.out.kept g1 (by simp)
    simp only at b0 b1 b2
    have e17 := (HE.out.grown G1.out).e17; have e3 := (HE.out.grown G1.out).env.e3
    clear g1
    go_wp2
    go_ret
    exact ⟨rfl, G1.out⟩

set_option maxRecDepth 100000 in
set_option maxHeartbeats 4000000 in
theorem eDo (p b : Nat) (l : List Fl) (t : Int) (f : Ef) (A : Nat → Addr) (w : World) (h : IsTree w p b l) (hE : EnvE A w) (hn : f.n.size ≤ maxLen) (hc : f.c.size ≤ maxLen) (hl : ∀ x ∈ l, x.c.size ≤ 900) :
    Calls Tryz.prog 30 #[.pointer (some ⟨p, 0, none⟩), .int .i64 t, .agg #[.int .i64 f.k, .string f.n, .string f.c]] w fun e w' =>
      e = .returned (errV A (doE t l f).1) ∧ IsTree w' p b (doE t l f).2 ∧ w.grownBy w' (some b) := by
  have HT := Lib.hid h; have HE := Lib.hid hE
  have HC := Lib.hid (fun W hW => eCheck f A W hW hn)
  have GX := Lib.hid (World.grownBy_alloc w (.cells #[.int .i64 f.k, .string f.n, .string f.c] 46) none)
  have BX := Lib.hid (boxE_new w f 46)
  have a0 := BX.out.1; have a1 := BX.out.2.1; have a2 := BX.out.2.2
  clear h hE
  rcases doE_cases t l f with ⟨h0, e⟩ | ⟨h0, hk, e⟩ | ⟨h0, hk, e⟩ | ⟨h0, hk, e⟩
  all_goals
    rw [e]
    clear e
    try simp only
  · rw [errV_ne h0] at HC ⊢
    generalize chkE f = k at *
    obtain ⟨fk, fn, fc⟩ := f
    simp only at *
    go_enter Tryz.func30, Tryz.ntmps30
    go_wp2_with (go_at_call 17; refine (HC.out _ (HE.out.grown GX.out)).mono ?_; rintro e w1 ⟨rfl, g1⟩; have G1 := Lib.hid (GX.out.trans g1); clear g1)
    go_ret
    exact ⟨rfl, HT.out.grown G1.out, G1.out.but _⟩
  · rw [h0, errV_zero] at HC
    have HP := Lib.hid (fun W (hW : IsTree W p b l) (hE : EnvE A W) => tPut p b l ⟨f.n, f.c, t⟩ A W hW hE.env.five hn hc)
    obtain ⟨fk, fn, fc⟩ := f
    simp only at *
    subst hk
    clear h0
    generalize putE l ⟨fn, fc, t⟩ = k at *
    generalize setL k l ⟨fn, fc, t⟩ = l2 at *
    go_enter Tryz.func30, Tryz.ntmps30
    go_wp2_with (first
      | (go_at_call 17; refine (HC.out _ (HE.out.grown GX.out)).mono ?_; rintro e w1 ⟨rfl, g1⟩; have G1 := Lib.hid (GX.out.trans g1); obtain ⟨b0, b1, b2⟩ := BX.out.kept g1 (by simp); simp only at b0 b1 b2; clear g1)
      | (go_at_call 31; refine (HP.out _ (HT.out.grown G1.out) (HE.out.grown G1.out)).mono ?_; rintro e w2 ⟨rfl, t2, g2⟩; have T2 := Lib.hid t2; have G2 := Lib.hid g2; clear t2 g2))
    go_ret
    exact ⟨rfl, T2.out, (G1.out.but _).trans G2.out⟩
  · rw [h0, errV_zero] at HC
    have HP := Lib.hid (fun W (hW : IsTree W p b l) (hE : EnvE A W) => sSet p b l f.n t A W hW hE.env hn hl)
    unfold SetOut at HP
    obtain ⟨fk, fn, fc⟩ := f
    simp only at *
    subst hk
    clear h0
    generalize statR l fn t = r at *
    obtain ⟨k, l2⟩ := r
    simp only at *
    go_enter Tryz.func30, Tryz.ntmps30
    go_wp2_with (first
      | (go_at_call 17; refine (HC.out _ (HE.out.grown GX.out)).mono ?_; rintro e w1 ⟨rfl, g1⟩; have G1 := Lib.hid (GX.out.trans g1); obtain ⟨b0, b1, b2⟩ := BX.out.kept g1 (by simp); simp only at b0 b1 b2; clear g1)
      | (go_at_call 53; refine (HP.out _ (HT.out.grown G1.out) (HE.out.grown G1.out)).mono ?_; rintro e w2 ⟨rfl, t2, g2⟩; have T2 := Lib.hid t2; have G2 := Lib.hid g2; clear t2 g2))
    go_ret
    exact ⟨rfl, T2.out, (G1.out.but _).trans G2.out⟩
  · rw [h0, errV_zero] at HC
    have HP := Lib.hid (fun W (hW : IsTree W p b l) (hE : EnvE A W) => tRemove p b l f.n A W hW hE.six hn)
    obtain ⟨fk, fn, fc⟩ := f
    simp only at *
    subst hk
    clear h0
    generalize remE l fn = k at *
    generalize delL l fn = l2 at *
    go_enter Tryz.func30, Tryz.ntmps30
    go_wp2_with (first
      | (go_at_call 17; refine (HC.out _ (HE.out.grown GX.out)).mono ?_; rintro e w1 ⟨rfl, g1⟩; have G1 := Lib.hid (GX.out.trans g1); obtain ⟨b0, b1, b2⟩ := BX.out.kept g1 (by simp); simp only at b0 b1 b2; clear g1)
      | (go_at_call 54; refine (HP.out _ (HT.out.grown G1.out) (HE.out.grown G1.out)).mono ?_; rintro e w2 ⟨rfl, t2, g2⟩; have T2 := Lib.hid t2; have G2 := Lib.hid g2; clear t2 g2))
    go_ret
    exact ⟨rfl, T2.out, (G1.out.but _).trans G2.out⟩
end Go.Proofs.YtbcemenfklgnkaaGreatDoor

/- Walks of package tree: Put, Touch, Remove. -/
import Derived.Test.YtbcemenfklgnkaaGreatDoorTreeB
import Derived.Test.YtbcemenfklgnkaaGreatDoorWalkA
namespace Go.Proofs.YtbcemenfklgnkaaGreatDoor
open Go.RowKit Go.Maps

theorem setE_cases (l : List Fl) (f : Fl) : (setE l f = 1 ∧ (f.t < 1 ∨ 549755813888 < f.t)) ∨ (setE l f = 10 ∧ 1 ≤ f.t ∧ f.t ≤ 549755813888 ∧ hasL l f.n = false ∧ 40 ≤ l.length) ∨
    (setE l f = 0 ∧ 1 ≤ f.t ∧ f.t ≤ 549755813888 ∧ (hasL l f.n = true ∨ (hasL l f.n = false ∧ l.length < 40))) := by
  unfold setE
  by_cases h1 : f.t < 1 ∨ 549755813888 < f.t
  · exact .inl ⟨if_pos h1, h1⟩
  · rw [if_neg h1]
    by_cases h2 : hasL l f.n = false ∧ 40 ≤ l.length
    · exact .inr (.inl ⟨if_pos h2, by omega, by omega, h2⟩)
    · refine .inr (.inr ⟨if_neg h2, by omega, by omega, ?_⟩)
      cases h : hasL l f.n
      · exact .inr ⟨rfl, by rcases Nat.lt_or_ge l.length 40 with h3 | h3; exact h3; exact absurd ⟨h, h3⟩ h2⟩
      · exact .inl rfl

theorem tSet (p b : Nat) (l : List Fl) (f : Fl) (A : Nat → Addr) (w : World) (h : IsTree w p b l) (hS : Sents L5 A w) (hn : f.n.size ≤ maxLen) :
    Calls Tryz.prog 56 #[.pointer (some ⟨p, 0, none⟩), valF f] w fun e w' => e = .returned (errV A (setE l f)) ∧ IsTree w' p b (setL (setE l f) l f) ∧ w.grownBy w' (some b) := by
  rcases setE_cases l f with ⟨e, ht⟩ | ⟨e, t1, t2, h1, h2⟩ | ⟨e, t1, t2, hq⟩
  · rw [e]
    refine (tSet_range p f A w hS ht).mono ?_
    rintro e w' ⟨rfl, hg⟩
    exact ⟨rfl, h.kept hg (by simp) (by simp), hg.but _⟩
  · rw [e]
    refine (tSet_full p b l f A w h hS hn t1 t2 h1 h2).mono ?_
    rintro e w' ⟨rfl, hg⟩
    exact ⟨rfl, h.kept hg (by simp) (by simp), hg.but _⟩
  · rw [e]
    rcases hq with hq | ⟨hq, hr⟩
    · exact tSet_old p b l f w h hn t1 t2 hq
    · exact tSet_new p b l f w h hn t1 t2 hq hr

/-- the number of Put's error -/
def putE (l : List Fl) (f : Fl) : Nat := if rightB f.n = false then 4 else if 900 < f.c.size then 2 else setE l f
/-- the file that Touch sets -/
def touF (l : List Fl) (n : ByteArray) (t : Int) : Fl := ⟨n, (getL l n).c, t⟩
/-- the number of Touch's error -/
def touE (l : List Fl) (n : ByteArray) (t : Int) : Nat := if rightB n = false then 4 else setE l (touF l n t)
/-- the number of Remove's error -/
def remE (l : List Fl) (n : ByteArray) : Nat := if hasL l n = true then 0 else 8

set_option maxRecDepth 100000 in
set_option maxHeartbeats 1000000 in
theorem tPut (p b : Nat) (l : List Fl) (f : Fl) (A : Nat → Addr) (w : World) (h : IsTree w p b l) (hS : Sents L5 A w) (hn : f.n.size ≤ maxLen) (hc : f.c.size ≤ maxLen) :
    Calls Tryz.prog 31 #[.pointer (some ⟨p, 0, none⟩), .string f.n, .string f.c, .int .i64 f.t] w fun e w' => e = .returned (errV A (putE l f)) ∧ IsTree w' p b (setL (putE l f) l f) ∧ w.grownBy w' (some b) := by
  unfold putE
  unfold maxLen at hc
  have h4 := hS (4, 3) (by simp [L5])
  have h2 := hS (2, 4) (by simp [L5])
  simp only at h4 h2
  have HT := Lib.hid h; have HS := Lib.hid hS
  clear h hS
  by_cases hr : rightB f.n = false
  · rw [if_pos hr]
    go_enter Tryz.func31, Tryz.ntmps31
    go_wp2_with (go_at_call 55; refine (nRight _ _ hn).mono ?_; rintro e w' ⟨rfl, rfl⟩)
    go_ret
    exact ⟨rfl, HT.out, World.grownBy.refl _ _⟩
  have hr' : rightB f.n = true := by simpa using hr
  rw [if_neg hr]
  clear hr
  by_cases hl : 900 < f.c.size
  · rw [if_pos hl]
    go_enter Tryz.func31, Tryz.ntmps31
    go_wp2_with (go_at_call 55; refine (nRight _ _ hn).mono ?_; rintro e w' ⟨rfl, rfl⟩)
    go_ret
    exact ⟨rfl, HT.out, World.grownBy.refl _ _⟩
  rw [if_neg hl]
  generalize hk : setE l f = k
  have HK := Lib.hid hk
  clear hk
  go_enter Tryz.func31, Tryz.ntmps31
  go_wp2_with (first
    | (go_at_call 55; refine (nRight _ _ hn).mono ?_; rintro e w' ⟨rfl, rfl⟩)
    | (go_at_call 56; refine (tSet p b l f A _ HT.out HS.out hn).mono ?_; rintro e w' ⟨rfl, h1, h2⟩; have H1 := Lib.hid h1; have H2 := Lib.hid h2; clear h1 h2))
  go_ret
  exact ⟨by rw [← HK.out]; rfl, by rw [← HK.out]; exact H1.out, H2.out⟩

set_option maxRecDepth 100000 in
set_option maxHeartbeats 1000000 in
theorem tTouch (p b : Nat) (l : List Fl) (n : ByteArray) (t : Int) (A : Nat → Addr) (w : World) (h : IsTree w p b l) (hS : Sents L5 A w) (hn : n.size ≤ maxLen) :
    Calls Tryz.prog 69 #[.pointer (some ⟨p, 0, none⟩), .string n, .int .i64 t] w fun e w' => e = .returned (errV A (touE l n t)) ∧ IsTree w' p b (setL (touE l n t) l (touF l n t)) ∧ w.grownBy w' (some b) := by
  unfold touE
  have h4 := hS (4, 3) (by simp [L5])
  simp only at h4
  have hcp := h.1
  have hl := h.2.1.look hn
  have HT := Lib.hid h; have HS := Lib.hid hS
  clear h hS
  by_cases hr : rightB n = false
  · rw [if_pos hr]
    go_enter Tryz.func69, Tryz.ntmps69
    go_wp2_with (go_at_call 55; refine (nRight _ _ hn).mono ?_; rintro e w' ⟨rfl, rfl⟩)
    go_ret
    exact ⟨rfl, HT.out, World.grownBy.refl _ _⟩
  have hr' : rightB n = true := by simpa using hr
  rw [if_neg hr]
  clear hr
  have hfl := fldC
  have hcon := tSet p b l (touF l n t) A
  unfold touF valF at hcon
  unfold touF
  obtain ⟨g, hg⟩ : ∃ g, g = getL l n := ⟨_, rfl⟩
  rw [← hg] at hl hcon ⊢
  simp only at hcon
  have HC := Lib.hid hcon
  generalize hk : setE l ⟨n, g.c, t⟩ = k
  have HK := Lib.hid hk
  clear hk hcon hg
  go_enter Tryz.func69, Tryz.ntmps69
  go_wp2_with (first
    | (go_at_call 55; refine (nRight _ _ hn).mono ?_; rintro e w' ⟨rfl, rfl⟩)
    | (go_at_call 50; refine (tAll p b _ hcp).mono ?_; rintro e w' ⟨rfl, rfl⟩)
    | (go_at_call 56; refine (HC.out _ HT.out HS.out hn).mono ?_; rintro e w' ⟨rfl, h1, h2⟩; have H1 := Lib.hid h1; have H2 := Lib.hid h2; clear h1 h2))
  go_ret
  exact ⟨by rw [← HK.out]; rfl, by rw [← HK.out]; exact H1.out, H2.out⟩
end Go.Proofs.YtbcemenfklgnkaaGreatDoor

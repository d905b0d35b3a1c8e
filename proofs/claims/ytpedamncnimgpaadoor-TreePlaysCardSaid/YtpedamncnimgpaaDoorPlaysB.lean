/- How memory stands inside a round of the law of Plays. -/
import Derived.Test.YtpedamncnimgpaaDoorTreeK
import Derived.Test.YtpedamncnimgpaaDoorPlaysA
import Derived.Test.YtpedamncnimgpaaDoorActRow
namespace Go.Proofs.YtpedamncnimgpaaDoor
open Go.RowKit Go.Maps

/-- the box of what is done -/
def BoxA (w : World) (x : Nat) (q : Int) (f : Fl) : Prop :=
  w.cell? ⟨x, 0, none⟩ = some (.int .i64 q) ∧ w.cell? ⟨x, 1, none⟩ = some (.string f.n) ∧ w.cell? ⟨x, 2, none⟩ = some (.string f.c) ∧ w.cell? ⟨x, 3, none⟩ = some (.int .i64 f.t)
theorem BoxA.kept {w w' : World} {x : Nat} {q : Int} {f : Fl} {row : Option Nat} (h : BoxA w x q f) (hg : w.grownBy w' row) (hne : some x ≠ row) : BoxA w' x q f :=
  ⟨hg.cell h.1 hne, hg.cell h.2.1 hne, hg.cell h.2.2.1 hne, hg.cell h.2.2.2 hne⟩
theorem boxA_new (w : World) (q : Int) (f : Fl) (t : TypeId) : BoxA (w.alloc (.cells #[.int .i64 q, .string f.n, .string f.c, .int .i64 f.t] t)) w.heap.size q f := ⟨by go_simp, by go_simp, by go_simp, by go_simp⟩

/-- the numbers of the blocks -/
structure Spots where
  (p b q p2 b2 q2 x : Nat)
/-- the tree holds lt, the document's holds lr, the copies hold ts -/
def Sit (s : Spots) (k : Int) (f : Fl) (base : World) (ts : List Fl) (w : World) (lt lr : List Fl) : Prop :=
  IsTree w s.p s.b lt ∧ RTree w s.q lr ∧ Beside w s.b s.q s.p2 s.b2 s.q2 ts ∧ BoxA w s.x k f ∧ base.grownBy w none ∧ base.heap.size ≤ s.b ∧ base.heap.size ≤ s.q ∧ s.x ≠ s.b ∧ s.x ≠ s.q ∧ s.p ≠ s.q ∧ s.b ≠ s.q
section
variable {s : Spots} {k : Int} {f : Fl} {base w w' : World} {ts lt lr l' : List Fl}
theorem Sit.grown (h : Sit s k f base ts w lt lr) (hg : w.grownBy w' none) : Sit s k f base ts w' lt lr := by
  obtain ⟨h1, h2, h3, h4, h5, r⟩ := h
  exact ⟨h1.kept hg (by simp) (by simp), h2.grown hg, h3.grown hg, h4.kept hg (by simp), h5.trans hg, r⟩
theorem Sit.tree (h : Sit s k f base ts w lt lr) (hg : w.grownBy w' (some s.b)) (ht : IsTree w' s.p s.b l') : Sit s k f base ts w' l' lr := by
  obtain ⟨h1, h2, h3, h4, h5, h6, h7, h8, r⟩ := h
  exact ⟨ht, h2.kept_map hg h1.2.1, h3.kept_b hg h1.2.1, h4.kept hg (fun e => h8 (Option.some.inj e)), grown_none h5 hg h6, h6, h7, h8, r⟩
theorem Sit.ref (h : Sit s k f base ts w lt lr) (hg : w.grownBy w' (some s.q)) (ht : RTree w' s.q l') : Sit s k f base ts w' lt l' := by
  obtain ⟨h1, h2, h3, h4, h5, h6, h7, h8, h9, h10, h11⟩ := h
  exact ⟨h1.kept hg (fun e => h10 (Option.some.inj e)) (fun e => h11 (Option.some.inj e)), ht, h3.kept_q hg, h4.kept hg (fun e => h9 (Option.some.inj e)), grown_none h5 hg h7, h6, h7, h8, h9, h10, h11⟩
theorem Sit.err {A : Nat → Addr} (hE : ErrEnv A base) (h : Sit s k f base ts w lt lr) : ErrEnv A w := hE.later (below_of_grown h.2.2.2.2.1)
end
theorem num_le (A : Nat → Addr) (k : Nat) (h : k ≤ 18) (w : World) (hE : ErrEnv A w) :
    Calls Tryd.prog 9 #[errV A k] w fun e w' => e = .returned (.int .i64 k) ∧ w.grownBy w' none := by
  by_cases hk : k = 0
  · subst hk
    exact lNum0 w
  · rw [errV_ne hk]
    exact lNum A k (by omega) h w hE
section
variable {A : Nat → Addr} {s : Spots} {k : Int} {f : Fl} {base w : World} {ts lt lr : List Fl}
theorem Sit.bx (h : Sit s k f base ts w lt lr) : BoxA w s.x k f := h.2.2.2.1
theorem sPutT (h : Sit s k f base ts w lt lr) (hE : ErrEnv A base) (g : Fl) (hn : g.n.size ≤ maxLen) (hc : g.c.size ≤ maxLen) :
    Calls Tryd.prog 10 #[.pointer (some ⟨s.p, 0, none⟩), .string g.n, .string g.c, .int .i64 g.t] w fun e w' => e = .returned (errV A (putE lt g)) ∧ Sit s k f base ts w' (setL (putE lt g) lt g) lr :=
  (tPut s.p s.b lt g A w h.1 (h.err hE).six.five hn hc).mono fun _ _ ⟨e, t, g⟩ => ⟨e, h.tree g t⟩
theorem sTouchT (h : Sit s k f base ts w lt lr) (hE : ErrEnv A base) (n : ByteArray) (t : Int) (hn : n.size ≤ maxLen) (hs : ∀ f ∈ lt, f.c.size ≤ 900) :
    Calls Tryd.prog 12 #[.pointer (some ⟨s.p, 0, none⟩), .string n, .int .i64 t] w fun e w' => e = .returned (errV A (putE lt (touF lt n t))) ∧ Sit s k f base ts w' (setL (putE lt (touF lt n t)) lt (touF lt n t)) lr :=
  (tTouch s.p s.b lt n t A w h.1 (h.err hE).six.five hn).mono fun _ _ ⟨e, t, g⟩ => by
    rw [touE_putE hs] at e t
    exact ⟨e, h.tree g t⟩
theorem sRemoveT (h : Sit s k f base ts w lt lr) (hE : ErrEnv A base) (n : ByteArray) (hn : n.size ≤ maxLen) :
    Calls Tryd.prog 14 #[.pointer (some ⟨s.p, 0, none⟩), .string n] w fun e w' => e = .returned (errV A (remE lt n)) ∧ Sit s k f base ts w' (delL lt n) lr :=
  (tRemove s.p s.b lt n A w h.1 (h.err hE).six hn).mono fun _ _ ⟨e, t, g⟩ => ⟨e, h.tree g t⟩
theorem sNum (h : Sit s k f base ts w lt lr) (hE : ErrEnv A base) (n : Nat) (hn : n ≤ 18) :
    Calls Tryd.prog 9 #[errV A n] w fun e w' => e = .returned (.int .i64 n) ∧ Sit s k f base ts w' lt lr :=
  (num_le A n hn w (h.err hE)).mono fun _ _ ⟨e, g⟩ => ⟨e, h.grown g⟩
theorem sPutR (h : Sit s k f base ts w lt lr) (g : Fl) (hn : g.n.size ≤ maxLen) (hc : g.c.size ≤ maxLen) (hr : Rising lr) :
    Calls Tryd.prog 11 #[.pointer (some ⟨s.q, 0, none⟩), valF g] w fun e w' => e = .returned (.int .i64 (putE lr g)) ∧ Sit s k f base ts w' lt (setL (putE lr g) lr g) :=
  (rPut s.q lr g w h.2.1 hn hc hr).mono fun _ _ ⟨e, t, g⟩ => ⟨e, h.ref g t⟩
theorem sTouchR (h : Sit s k f base ts w lt lr) (n : ByteArray) (t : Int) (hn : n.size ≤ maxLen) (hr : Rising lr) :
    Calls Tryd.prog 13 #[.pointer (some ⟨s.q, 0, none⟩), .string n, .int .i64 t] w fun e w' => e = .returned (.int .i64 (putE lr (touF lr n t))) ∧ Sit s k f base ts w' lt (setL (putE lr (touF lr n t)) lr (touF lr n t)) :=
  (rTouch s.q lr n t w h.2.1 hn hr).mono fun _ _ ⟨e, t, g⟩ => ⟨e, h.ref g t⟩
theorem delL_none' {l : List Fl} {n : ByteArray} (h : hasL l n = false) : delL l n = l := by
  unfold hasL at h
  rw [List.any_eq_false] at h
  exact List.filter_eq_self.2 fun x hx => by simpa using h x hx
theorem sRemoveR (h : Sit s k f base ts w lt lr) (n : ByteArray) (hr : Rising lr) :
    Calls Tryd.prog 15 #[.pointer (some ⟨s.q, 0, none⟩), .string n] w fun e w' => e = .returned (.int .i64 (remE lr n)) ∧ Sit s k f base ts w' lt (delL lr n) := by
  unfold remE
  by_cases hq : hasL lr n = true
  · rw [if_pos hq]
    exact (rRemove_ok s.q lr n w h.2.1 hq hr).mono fun _ _ ⟨e, t, g⟩ => ⟨e, h.ref g t⟩
  · have hq' : hasL lr n = false := by simpa using hq
    rw [if_neg hq, delL_none' hq']
    exact (rRemove_none s.q lr n w h.2.1 hq').mono fun _ _ ⟨e, g⟩ => ⟨e, h.grown g⟩
end
end Go.Proofs.YtpedamncnimgpaaDoor

/- What is done to one file leaves all others: the plain part. -/
import Derived.Test.YtpedamncnimgpaaDoorTreeG
namespace Go.Proofs.YtpedamncnimgpaaDoor
open Go.RowKit Go.Maps

theorem ofG_facts : ∀ (l ts0 ts : List Fl), ofG l ts0 = (0, ts) →
    (∀ f ∈ l, ts.find? (isN f.n) = some f) ∧ (∀ s f, ts0.find? (isN s) = some f → ts.find? (isN s) = some f) ∧ ts.length = ts0.length + l.length
  | [], ts0, ts, h => by
    unfold ofG at h
    rw [Prod.mk.injEq] at h
    rw [← h.2]
    exact ⟨by simp, fun _ _ h => h, by simp⟩
  | f :: r, ts0, ts, h => by
    unfold ofG at h
    by_cases h1 : hasL ts0 f.n = true
    · rw [if_pos h1, Prod.mk.injEq] at h
      exact absurd h.1 (by decide)
    · rw [if_neg h1] at h
      by_cases h2 : putE ts0 f = 0
      · rw [if_pos h2] at h
        obtain ⟨a, b, c⟩ := ofG_facts r (putL ts0 f) ts h
        have h1' : hasL ts0 f.n = false := by simpa using h1
        refine ⟨fun g hg => ?_, fun s g hg => b s g ?_, by rw [c, putL_len_new h1']; simp; omega⟩
        · rcases List.mem_cons.1 hg with rfl | hg
          · exact b _ _ (putL_find_same _ _)
          · exact a g hg
        · have hne : s ≠ f.n := by
            rintro rfl
            rw [hasL_find.2 ⟨g, hg⟩] at h1'; cases h1'
          rw [putL_find_other _ _ hne]; exact hg
      · rw [if_neg h2, Prod.mk.injEq] at h
        exact absurd h.1 h2

theorem setL_find {k : Nat} {ts : List Fl} {f : Fl} {s : ByteArray} (h : s ≠ f.n) : (setL k ts f).find? (isN s) = ts.find? (isN s) := by
  unfold setL
  by_cases hk : k = 0
  · rw [if_pos hk, putL_find_other _ _ h]
  · rw [if_neg hk]
theorem setL_len (k : Nat) (ts : List Fl) (f : Fl) : (setL k ts f).length ≤ ts.length + 1 := by
  unfold setL
  by_cases hk : k = 0
  · rw [if_pos hk]; exact putL_len_le _ _
  · rw [if_neg hk]; omega

/-- t2 holds the files l, but for that of name n, and at most one more; t1 holds them, too -/
def Apart (l : List Fl) (n : ByteArray) (t1 t2 : List Fl) : Prop :=
  (∀ f ∈ l, f.n ≠ n → t2.find? (isN f.n) = some f) ∧ (∀ f ∈ l, t1.find? (isN f.n) = some f) ∧ t2.length ≤ l.length + 1
theorem apart_of {l ts : List Fl} (h : ofG l [] = (0, ts)) (n : ByteArray) {t2 : List Fl} (h1 : ∀ s, s ≠ n → t2.find? (isN s) = ts.find? (isN s)) (h2 : t2.length ≤ ts.length + 1) : Apart l n ts t2 := by
  obtain ⟨a, -, c⟩ := ofG_facts l [] ts h
  refine ⟨fun f hf hne => by rw [h1 _ hne]; exact a f hf, a, ?_⟩
  rw [c] at h2
  simpa using h2
theorem apart_set {l ts : List Fl} (h : ofG l [] = (0, ts)) (k : Nat) (f : Fl) : Apart l f.n ts (setL k ts f) :=
  apart_of h f.n (fun _ hs => setL_find hs) (setL_len k ts f)
theorem apart_del {l ts : List Fl} (h : ofG l [] = (0, ts)) (n : ByteArray) : Apart l n ts (delL ts n) :=
  apart_of h n (fun _ hs => delL_find hs ts) (by have := delL_len ts n; omega)
theorem apart_same {l ts : List Fl} (h : ofG l [] = (0, ts)) (n : ByteArray) : Apart l n ts ts :=
  apart_of h n (fun _ _ => rfl) (by omega)

/-- how memory stands once the one file has been done -/
def ApSt (l : List Fl) (v : Value) (n : ByteArray) (p1 b1 p2 b2 : Nat) (w1 W : World) : Prop :=
  ∃ t1 t2, IsTree W p1 b1 t2 ∧ IsTree W p2 b2 t1 ∧ FRow W v l ∧ w1.grownBy W none ∧ Apart l n t1 t2
theorem ApSt.grown {l : List Fl} {v : Value} {n : ByteArray} {p1 b1 p2 b2 : Nat} {w1 W W' : World} (h : ApSt l v n p1 b1 p2 b2 w1 W) (hg : W.grownBy W' none) : ApSt l v n p1 b1 p2 b2 w1 W' := by
  obtain ⟨t1, t2, a, b, c, d, e⟩ := h
  exact ⟨t1, t2, a.kept hg (by simp) (by simp), b.kept hg (by simp) (by simp), c.later (below_of_grown hg), d.trans hg, e⟩
theorem getL_some {ts : List Fl} {f : Fl} (h : ts.find? (isN f.n) = some f) : getL ts f.n = f ∧ hasL ts f.n = true := ⟨getL_find h, hasL_find.2 ⟨f, h⟩⟩
theorem ApSt.get1 {l : List Fl} {v : Value} {n : ByteArray} {p1 b1 p2 b2 : Nat} {w1 W : World} (h : ApSt l v n p1 b1 p2 b2 w1 W) {k : Nat} {f : Fl} (hf : l[k]? = some f) (hne : f.n ≠ n) (hs : f.n.size ≤ maxLen) :
    Calls Tryd.prog 16 #[.pointer (some ⟨p1, 0, none⟩), .string f.n] W fun e w' => e = .returned (.tuple #[.agg #[.string f.n, .string f.c, .int .i64 f.t], .bool true]) ∧ W.grownBy w' none := by
  obtain ⟨t1, t2, a, b, c, d, e⟩ := h
  have := tGet p1 b1 t2 f.n W a hs
  rw [(getL_some (e.1 f (List.mem_of_getElem? hf) hne)).1, (getL_some (e.1 f (List.mem_of_getElem? hf) hne)).2] at this
  exact this
theorem ApSt.get2 {l : List Fl} {v : Value} {n : ByteArray} {p1 b1 p2 b2 : Nat} {w1 W : World} (h : ApSt l v n p1 b1 p2 b2 w1 W) {k : Nat} {f : Fl} (hf : l[k]? = some f) (hs : f.n.size ≤ maxLen) :
    Calls Tryd.prog 16 #[.pointer (some ⟨p2, 0, none⟩), .string f.n] W fun e w' => e = .returned (.tuple #[.agg #[.string f.n, .string f.c, .int .i64 f.t], .bool true]) ∧ W.grownBy w' none := by
  obtain ⟨t1, t2, a, b, c, d, e⟩ := h
  have := tGet p2 b2 t1 f.n W b hs
  rw [(getL_some (e.2.1 f (List.mem_of_getElem? hf))).1, (getL_some (e.2.1 f (List.mem_of_getElem? hf))).2] at this
  exact this
theorem kinds (q : Int) : q = 0 ∨ q = 1 ∨ q = 2 ∨ ((q == 0) = false ∧ (q == 1) = false ∧ (q == 2) = false) := by
  by_cases h0 : q = 0
  · exact .inl h0
  by_cases h1 : q = 1
  · exact .inr (.inl h1)
  by_cases h2 : q = 2
  · exact .inr (.inr (.inl h2))
  exact .inr (.inr (.inr ⟨by simpa using h0, by simpa using h1, by simpa using h2⟩))
theorem ApSt.grown1 {l : List Fl} {v : Value} {n : ByteArray} {p1 b1 p2 b2 : Nat} {w1 W : World} (h : ApSt l v n p1 b1 p2 b2 w1 W) : w1.grownBy W none := by
  obtain ⟨t1, t2, a, b, c, d, e⟩ := h; exact d
theorem ApSt.row {l : List Fl} {v : Value} {n : ByteArray} {p1 b1 p2 b2 : Nat} {w1 W : World} (h : ApSt l v n p1 b1 p2 b2 w1 W) : FRow W v l := by
  obtain ⟨t1, t2, a, b, c, d, e⟩ := h; exact c
/-- a block of three cells that holds a file -/
def Box (w : World) (b : Nat) (f : Fl) : Prop := w.cell? ⟨b, 0, none⟩ = some (.string f.n) ∧ w.cell? ⟨b, 1, none⟩ = some (.string f.c) ∧ w.cell? ⟨b, 2, none⟩ = some (.int .i64 f.t)
theorem box_newF (w : World) (f : Fl) : Box (w.alloc (.cells #[.string f.n, .string f.c, .int .i64 f.t] 31)) w.heap.size f := ⟨by go_simp, by go_simp, by go_simp⟩
theorem box_later {w w' : World} {b : Nat} {f : Fl} (h : Box w b f) (hg : w.grownBy w' none) : Box w' b f := ⟨hg.cell h.1 (by simp), hg.cell h.2.1 (by simp), hg.cell h.2.2 (by simp)⟩
theorem box_kept {w w' : World} {f : Fl} (hg : (w.alloc (.cells #[.string f.n, .string f.c, .int .i64 f.t] 31)).grownBy w' none) : Box w' w.heap.size f := box_later (box_newF w f) hg
theorem box_al {w : World} {b : Nat} {f : Fl} (h : Box w b f) : ∀ o, (w.alloc o).cell? ⟨b, 0, none⟩ = some (.string f.n) ∧ (w.alloc o).cell? ⟨b, 1, none⟩ = some (.string f.c) ∧ (w.alloc o).cell? ⟨b, 2, none⟩ = some (.int .i64 f.t) :=
  fun o => ⟨cell_al h.1 o, cell_al h.2.1 o, cell_al h.2.2 o⟩
end Go.Proofs.YtpedamncnimgpaaDoor

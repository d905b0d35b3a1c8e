/- What effects do, in plain words; the errors that they answer with. -/
import Derived.Test.YtbcemenfklgnkaaGreatDoorEfRow
import Derived.Test.YtbcemenfklgnkaaGreatDoorStatB
namespace Go.Proofs.YtbcemenfklgnkaaGreatDoor
open Go.RowKit Go.Maps

/-- the number of Check's error -/
def chkE (e : Ef) : Nat :=
  if e.k < 1 ∨ 3 < e.k then 17 else if memB e.n = true ∧ e.k ≠ 2 then 17 else if 0 < e.c.size ∧ e.k ≠ 1 then 3 else 0
/-- an effect is done: its error's number, the files -/
noncomputable def doE (t : Int) (l : List Fl) (e : Ef) : Nat × List Fl :=
  if chkE e ≠ 0 then (chkE e, l)
  else if e.k = 1 then (putE l ⟨e.n, e.c, t⟩, setL (putE l ⟨e.n, e.c, t⟩) l ⟨e.n, e.c, t⟩)
  else if e.k = 2 then statR l e.n t
  else (remE l e.n, delL l e.n)
/-- effects are done, the i-th first: how many, the first error's number, the files -/
noncomputable def appE (t : Int) : List Ef → Nat → List Fl → Nat × Nat × List Fl
  | [], i, l => (i, 0, l)
  | e :: r, i, l => if (doE t l e).1 = 0 then appE t r (i + 1) (doE t l e).2 else (i, (doE t l e).1, (doE t l e).2)
theorem appE_next {t : Int} {es : List Ef} {k : Nat} {e : Ef} {l : List Fl} (h : es[k]? = some e) (h0 : (doE t l e).1 = 0) : appE t (es.drop k) k l = appE t (es.drop (k + 1)) (k + 1) (doE t l e).2 := by
  rw [drop_atE h, appE, if_pos h0]
theorem appE_stop {t : Int} {es : List Ef} {k : Nat} {e : Ef} {l : List Fl} (h : es[k]? = some e) (h0 : (doE t l e).1 ≠ 0) : appE t (es.drop k) k l = (k, (doE t l e).1, (doE t l e).2) := by
  rw [drop_atE h, appE, if_neg h0]
theorem appE_done {t : Int} {es : List Ef} {k : Nat} {l : List Fl} (h : es.length ≤ k) : appE t (es.drop k) k l = (k, 0, l) := by
  rw [List.drop_eq_nil_of_le h]; rfl
theorem chkE_le (e : Ef) : chkE e ≤ 18 := by
  unfold chkE; split
  · decide
  · split
    · decide
    · split <;> decide
theorem chk_zero {e : Ef} (h : chkE e = 0) : (e.k = 1 ∧ memB e.n = false) ∨ (e.k = 2 ∧ e.c.size = 0) ∨ (e.k = 3 ∧ memB e.n = false ∧ e.c.size = 0) := by
  unfold chkE at h
  split at h
  · cases h
  · split at h
    · cases h
    · split at h
      · cases h
      · rename_i h1 h2 h3
        have hm : e.k ≠ 2 → memB e.n = false := fun hk => by
          cases hq : memB e.n
          · rfl
          · exact absurd ⟨hq, hk⟩ h2
        have hc : e.k ≠ 1 → e.c.size = 0 := fun hk => by
          rcases Nat.eq_zero_or_pos e.c.size with h | h
          · exact h
          · exact absurd ⟨h, hk⟩ h3
        have h4 : e.k = 1 ∨ e.k = 2 ∨ e.k = 3 := by omega
        rcases h4 with h4 | h4 | h4
        · exact .inl ⟨h4, hm (by omega)⟩
        · exact .inr (.inl ⟨h4, hc (by omega)⟩)
        · exact .inr (.inr ⟨h4, hm (by omega), hc (by omega)⟩)
theorem doE_no {t : Int} {l : List Fl} {e : Ef} (h : chkE e ≠ 0) : doE t l e = (chkE e, l) := by unfold doE; rw [if_pos h]
theorem doE_1 {t : Int} {l : List Fl} {e : Ef} (h : chkE e = 0) (hk : e.k = 1) : doE t l e = (putE l ⟨e.n, e.c, t⟩, setL (putE l ⟨e.n, e.c, t⟩) l ⟨e.n, e.c, t⟩) := by
  unfold doE; rw [if_neg (by omega), if_pos hk]
theorem doE_2 {t : Int} {l : List Fl} {e : Ef} (h : chkE e = 0) (hk : e.k = 2) : doE t l e = statR l e.n t := by
  unfold doE; rw [if_neg (by omega), if_neg (by omega), if_pos hk]
theorem doE_3 {t : Int} {l : List Fl} {e : Ef} (h : chkE e = 0) (hk : e.k = 3) : doE t l e = (remE l e.n, delL l e.n) := by
  unfold doE; rw [if_neg (by omega), if_neg (by omega), if_neg (by omega)]
/-- what an effect is, case by case -/
theorem doE_cases (t : Int) (l : List Fl) (e : Ef) :
    (chkE e ≠ 0 ∧ doE t l e = (chkE e, l)) ∨
    (chkE e = 0 ∧ e.k = 1 ∧ doE t l e = (putE l ⟨e.n, e.c, t⟩, setL (putE l ⟨e.n, e.c, t⟩) l ⟨e.n, e.c, t⟩)) ∨
    (chkE e = 0 ∧ e.k = 2 ∧ doE t l e = statR l e.n t) ∨
    (chkE e = 0 ∧ e.k = 3 ∧ doE t l e = (remE l e.n, delL l e.n)) := by
  by_cases h : chkE e = 0
  · rcases chk_zero h with ⟨hk, _⟩ | ⟨hk, _⟩ | ⟨hk, _⟩
    · exact .inr (.inl ⟨h, hk, doE_1 h hk⟩)
    · exact .inr (.inr (.inl ⟨h, hk, doE_2 h hk⟩))
    · exact .inr (.inr (.inr ⟨h, hk, doE_3 h hk⟩))
  · exact .inl ⟨h, doE_no h⟩
theorem doE_le (t : Int) (l : List Fl) (e : Ef) : (doE t l e).1 ≤ 18 := by
  rcases doE_cases t l e with ⟨_, h⟩ | ⟨_, _, h⟩ | ⟨_, _, h⟩ | ⟨_, _, h⟩ <;> rw [h]
  · exact chkE_le e
  · exact putE_le _ _
  · exact statR_le _ _ _
  · show remE l e.n ≤ 18
    unfold remE; split <;> decide
theorem doE_small {t : Int} {l : List Fl} {e : Ef} (h : ∀ f ∈ l, f.c.size ≤ 900) : ∀ f ∈ (doE t l e).2, f.c.size ≤ 900 := by
  rcases doE_cases t l e with ⟨_, g⟩ | ⟨_, _, g⟩ | ⟨_, _, g⟩ | ⟨_, _, g⟩ <;> rw [g]
  · exact h
  · exact setL_small h putE_small
  · exact statR_small h
  · exact fun x hx => h x (List.mem_filter.1 hx).1
theorem doE_rising {t : Int} {l : List Fl} {e : Ef} (h : Rising l) : Rising (doE t l e).2 := by
  rcases doE_cases t l e with ⟨_, g⟩ | ⟨_, _, g⟩ | ⟨_, _, g⟩ | ⟨_, _, g⟩ <;> rw [g]
  · exact h
  · exact setL_rising _ _ h
  · exact statR_rising h
  · exact delL_rising _ h
theorem appE_le (t : Int) : ∀ (es : List Ef) (i : Nat) (l : List Fl), (appE t es i l).2.1 ≤ 18
  | [], _, _ => by unfold appE; exact Nat.zero_le _
  | e :: r, i, l => by
    unfold appE; split
    · exact appE_le t r _ _
    · exact doE_le t l e

/-- two more errors -/
def LE2 : List (Nat × Nat) := [(8, 9), (17, 1)]
/-- what the library's variables and the listed errors hold -/
structure EnvE (A : Nat → Addr) (w : World) : Prop where
  env : Env A w
  two : Sents LE2 A w
theorem EnvE.later {A : Nat → Addr} {w w' : World} (h : EnvE A w) (hb : Below w.heap.size w w') : EnvE A w' := ⟨h.env.later hb, h.two.later hb⟩
theorem EnvE.grown {A : Nat → Addr} {w w' : World} (h : EnvE A w) (hg : w.grownBy w' none) : EnvE A w' := h.later (below_of_grown hg)
theorem EnvE.e8 {A : Nat → Addr} {w : World} (h : EnvE A w) : w.cell? ⟨9, 0, none⟩ = some (.iface 236 (.pointer (some (A 8)))) := h.two (8, 9) (by simp [LE2])
theorem EnvE.e17 {A : Nat → Addr} {w : World} (h : EnvE A w) : w.cell? ⟨1, 0, none⟩ = some (.iface 236 (.pointer (some (A 17)))) := h.two (17, 1) (by simp [LE2])
theorem EnvE.six {A : Nat → Addr} {w : World} (h : EnvE A w) : Sents L6 A w := by
  have h' : Sents (LA ++ LE2) A w := fun q hq => (List.mem_append.1 hq).elim (h.env.err q) (h.two q)
  exact h'.sub (by decide)
end Go.Proofs.YtbcemenfklgnkaaGreatDoor

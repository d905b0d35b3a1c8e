/- What package lines' functions answer, as the laws are told of it. -/
import Derived.Test.YtigjmaicolgalaaDoorLnSplit
import Derived.Test.YtigjmaicolgalaaDoorFltAs
import Derived.Lib.ItoaNum
namespace Go.Proofs.YtigjmaicolgalaaDoor
open Go.RowKit

/-- lines, or none and a fault -/
def PLns (l : List UInt8) (A : Nat → Addr) (w : World) (e : Ending) (w' : World) : Prop :=
  w.grownBy w' none ∧ match spL l with
    | .ok L => ∃ v O, e = .returned (.tuple #[v, .nilIface]) ∧ LnRow w' v O ∧ lnQ O = L
    | .error (bad, line) => ∃ a c q, e = .returned (.tuple #[.slice a 0 c, fltV q]) ∧ FltAt w' q line (errV A bad)
/-- the errors of a text -/
theorem spA_bad : ∀ (r : List (List UInt8)) (o : Nat) (h : List UInt8) (O : List Lq) (k bad line : Nat), spA o h O k r = .error (bad, line) → (bad = 2 ∨ bad = 5)
  | [], o, h, O, k, bad, line, e => by rw [spA] at e; cases e
  | s :: r, o, h, O, k, bad, line, e => by
    rw [spA] at e
    split at e
    · split at e
      · cases e; exact .inl rfl
      · exact spA_bad r _ _ _ _ _ _ e
    · split at e
      · cases e; exact .inr rfl
      · exact spA_bad r _ _ _ _ _ _ e
      · split at e
        · cases e; exact .inl rfl
        · exact spA_bad r _ _ _ _ _ _ e
theorem spL_bad {l : List UInt8} {bad line : Nat} (h : spL l = .error (bad, line)) : bad = 2 ∨ bad = 5 := by
  unfold spL at h
  split at h
  · cases h; exact .inl rfl
  · exact spA_bad _ _ _ _ _ _ _ h
/-- the text of a fault of that line -/
def ftxQ (line : Int) : List UInt8 := [108, 105, 110, 101, 32] ++ Lib.itoa line
theorem ErrEnv.grown12 {A : Nat → Addr} {w w' : World} (h : ErrEnv A w) (hg : w.grownBy w' none) : ErrEnv A w' := h.later (below_of_grown hg)
/-- the library's error type, the errors of the list -/
def LEnv (A : Nat → Addr) (w : World) : Prop := ErrEnv A w ∧ ErrTy w
theorem LEnv.err {A : Nat → Addr} {w : World} (h : LEnv A w) : ErrEnv A w := h.1
theorem LEnv.ty {A : Nat → Addr} {w : World} (h : LEnv A w) : ErrTy w := h.2
theorem LEnv.grown {A : Nat → Addr} {w w' : World} (h : LEnv A w) (hg : w.grownBy w' none) : LEnv A w' := ⟨h.1.grown12 hg, h.2.grown hg⟩
/-- what the laws are told of package lines, where E holds: what the listed variables hold -/
structure LnC (A : Nat → Addr) (E : World → Prop) : Prop where
  gr : ∀ w w' : World, E w → w.grownBy w' none → E w'
  count : ∀ (s : ByteArray) (w : World), E w → s.size ≤ 5000 → Calls Tryd.prog 11 #[.string s] w fun e w' => e = .returned (.int .i64 (linQ s.data.toList).length) ∧ w.grownBy w' none
  comment : ∀ (s : ByteArray) (w : World), E w → s.size ≤ 5000 → Calls Tryd.prog 13 #[.string s] w fun e w' => e = .returned (.int .i64 (cmA s.data.toList 0)) ∧ w.grownBy w' none
  split : ∀ (s : ByteArray) (w : World), E w → s.size ≤ 5000 → Calls Tryd.prog 8 #[.string s] w (PLns s.data.toList A w)
end Go.Proofs.YtigjmaicolgalaaDoor

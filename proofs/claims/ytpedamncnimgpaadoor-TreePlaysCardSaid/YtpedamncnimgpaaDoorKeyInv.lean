/- Keys of maps of files. -/
import Derived.Test.YtpedamncnimgpaaDoorTreeA
import Derived.Maps.Ext
namespace Go.Proofs.YtpedamncnimgpaaDoor
open Go.RowKit Go.Maps

theorem blk_ne {a b : Nat} (h : a ≠ b) : some a ≠ some b := fun e => h (Option.some.inj e)
theorem keyOf_inv {key : Value} {kl : Lit} (h : keyOf Tryd.prog 9 key = some kl) : ∃ s : ByteArray, key = .string s ∧ kl = keyS s := by
  cases key <;> simp [keyOf, Tryd.underlying9, mapKey] at h
  exact ⟨_, rfl, by first | exact h.symm | exact h.2.symm⟩
end Go.Proofs.YtpedamncnimgpaaDoor

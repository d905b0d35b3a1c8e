/- What an attempt to set a file does to a row of files. -/
import Derived.Test.YtpedamncnimgpaaDoorRefOf
import Derived.Test.YtpedamncnimgpaaDoorTreeC
namespace Go.Proofs.YtpedamncnimgpaaDoor
open Go.RowKit Go.Maps

theorem touE_putE {l : List Fl} {n : ByteArray} {t : Int} (h : ∀ f ∈ l, f.c.size ≤ 900) : touE l n t = putE l (touF l n t) := by
  have hc : (touF l n t).c.size ≤ 900 := by
    unfold touF
    rcases at_cases l n with ⟨h7, _⟩ | ⟨k, f, _, hf, _, _, hg, _⟩
    · rw [getL_not h7]; exact (by decide : (0 : Nat) ≤ 900)
    · rw [hg]; exact h f (List.mem_of_getElem? hf)
  unfold touE putE
  have hn : (touF l n t).n = n := rfl
  rw [hn, if_neg (show ¬ 900 < (touF l n t).c.size by omega)]
theorem putE_le (l : List Fl) (f : Fl) : putE l f ≤ 18 := by
  rcases putE_cases l f with ⟨e, _⟩ | ⟨e, _⟩ | ⟨e, _⟩ | ⟨e, _⟩ | ⟨e, _⟩ <;> rw [e] <;> decide
theorem setL_rising {l : List Fl} (k : Nat) (f : Fl) (h : Rising l) : Rising (setL k l f) := by
  unfold setL; split
  · exact putL_rising f h
  · exact h
theorem setL_small {l : List Fl} {k : Nat} {f : Fl} (h : ∀ x ∈ l, x.c.size ≤ 900) (hk : k = 0 → f.c.size ≤ 900) : ∀ x ∈ setL k l f, x.c.size ≤ 900 := by
  unfold setL; split
  · intro x hx
    rcases insL_mem.1 hx with rfl | hx
    · exact hk ‹_›
    · exact h x (List.mem_filter.1 hx).1
  · exact h
theorem putE_small {l : List Fl} {f : Fl} (h : putE l f = 0) : f.c.size ≤ 900 := by
  rcases putE_cases l f with ⟨e, _⟩ | ⟨e, _⟩ | ⟨e, _⟩ | ⟨e, _⟩ | ⟨_, _, h1, _⟩
  · rw [h] at e; cases e
  · rw [h] at e; cases e
  · rw [h] at e; cases e
  · rw [h] at e; cases e
  · exact h1
end Go.Proofs.YtpedamncnimgpaaDoor

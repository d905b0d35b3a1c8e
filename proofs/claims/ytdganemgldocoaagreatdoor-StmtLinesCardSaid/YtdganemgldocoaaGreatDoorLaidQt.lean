/- What layer 11's laws list; a list of texts and a byte that came in. -/
import Derived.Test.YtdganemgldocoaaGreatDoorLaidErr
import Derived.Test.YtdganemgldocoaaGreatDoorQtBeh
import Derived.Test.YtdganemgldocoaaGreatDoorQtRow
import Derived.Test.YtdganemgldocoaaGreatDoorLaidMax
import Derived.ProofKit
import Derived.OpenShut
import Derived.ShutString
import Derived.ChangeOld
import Derived.Handed
import Derived.Shelf.Vars
namespace Go.Proofs.YtdganemgldocoaaGreatDoor
open Go.RowKit Go.Maps Go.ChangeShapes Go.WideShapes Go.Deep

/-- the one error of a quote that has no end -/
def oneQ : List Sn := allSn.filter fun q => q.num == 5
theorem oneQ_ok : ∀ q ∈ oneQ, q.ok := fun q hq => allSn_ok q (List.mem_filter.1 hq).1
theorem oneQ_err {A : Nat → Addr} {W : World} (h : ∀ q ∈ oneQ, SentAt A W q) (hM : MaxI W) : QErr A W :=
  ⟨(h ⟨5, "millwright/api.ErrQuote", 5, [97, 32, 113, 117, 111, 116, 101, 32, 104, 97, 115, 32, 110, 111, 32, 101, 110, 100]⟩ (by simp [oneQ, allSn])).1, hM⟩
theorem byte_of {i : Int} (h : (Lit.int .u8 i).wf = true) : ∃ b : UInt8, i = b.toNat := by
  have h : 0 ≤ i ∧ i ≤ 255 := by
    unfold Lit.wf at h
    rw [Bool.and_eq_true, decide_eq_true_eq, decide_eq_true_eq] at h
    exact ⟨h.1, h.2⟩
  exact ⟨UInt8.ofNat i.toNat, by rw [UInt8.toNat_ofNat']; omega⟩
end Go.Proofs.YtdganemgldocoaaGreatDoor

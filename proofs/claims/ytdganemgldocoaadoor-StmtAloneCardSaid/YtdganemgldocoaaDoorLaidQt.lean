/- What layer 11's laws list; a list of texts and a byte that came in. -/
import Derived.Test.YtdganemgldocoaaDoorLaidErr
import Derived.Test.YtdganemgldocoaaDoorQtBeh
import Derived.Test.YtdganemgldocoaaDoorQtRow
import Derived.Test.YtdganemgldocoaaDoorLaidMax
import Derived.ProofKit
import Derived.OpenShut
import Derived.ShutString
import Derived.ChangeOld
import Derived.Handed
import Derived.Shelf.Vars
namespace Go.Proofs.YtdganemgldocoaaDoor
open Go.RowKit Go.Maps Go.ChangeShapes Go.WideShapes Go.Deep

theorem byte_of {i : Int} (h : (Lit.int .u8 i).wf = true) : ∃ b : UInt8, i = b.toNat := by
  have h : 0 ≤ i ∧ i ≤ 255 := by
    unfold Lit.wf at h
    rw [Bool.and_eq_true, decide_eq_true_eq, decide_eq_true_eq] at h
    exact ⟨h.1, h.2⟩
  exact ⟨UInt8.ofNat i.toNat, by rw [UInt8.toNat_ofNat']; omega⟩
end Go.Proofs.YtdganemgldocoaaDoor

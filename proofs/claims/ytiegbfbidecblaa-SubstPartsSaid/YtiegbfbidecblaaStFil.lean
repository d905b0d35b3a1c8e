/- The document's own answers of layer 15: a pattern with a stem. -/
import Derived.Test.YtiegbfbidecblaaStMat
namespace Go.Proofs.Ytiegbfbidecblaa
open Go.RowKit

theorem app_st (a b : ByteArray) : (a ++ b).data.toList = a.data.toList ++ b.data.toList := by simp
theorem ba_st {x : ByteArray} {l : List UInt8} (h : x.data.toList = l) : x = ⟨l.toArray⟩ := by subst h; simp
end Go.Proofs.Ytiegbfbidecblaa

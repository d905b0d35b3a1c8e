/- Walks of package quote: blanks, what stands behind them, the parts between blanks, where a quoted part ends. -/
import Derived.Test.YtaihpgjimhifcaaDoorQtOut
import Derived.Test.YtaihpgjimhifcaaDoorQtWay
namespace Go.Proofs.YtaihpgjimhifcaaDoor
open Go.RowKit

theorem toList_cut {s : ByteArray} (j e : Nat) : (s.extract j e).data.toList = (s.data.toList.take e).drop j := by
  have e1 : (s.extract j e).data.toList = (s.data.toList.drop j).take (e - j) := by simp
  rw [e1, List.drop_take]
theorem tx_nil (w : World) (base : Nat) (T : TypeId) : w.ownsRow base T 1 (.slice none 0 0) 0 (([] : List ByteArray).map Value.string) := ⟨rfl, .inl ⟨rfl, rfl⟩⟩
end Go.Proofs.YtaihpgjimhifcaaDoor

/- The document's own set of a row of bools, bit by bit. -/
import Derived.Test.YtgpmhnpacpgckaaDoorClsPlainB
namespace Go.Proofs.YtgpmhnpacpgckaaDoor
open Go.RowKit

end Go.Proofs.YtgpmhnpacpgckaaDoor

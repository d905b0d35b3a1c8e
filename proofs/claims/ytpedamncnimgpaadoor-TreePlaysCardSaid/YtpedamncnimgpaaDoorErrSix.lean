/- The six errors that trees answer with, out of all. -/
import Derived.Test.YtpedamncnimgpaaDoorErrNum
import Derived.Test.YtpedamncnimgpaaDoorLaid
namespace Go.Proofs.YtpedamncnimgpaaDoor
theorem ErrEnv.six {A : Nat → Addr} {w : World} (h : ErrEnv A w) : Sents L6 A w := sents6 (L := allSn) h.1 (by decide)
theorem ErrEnv.five {A : Nat → Addr} {w : World} (h : ErrEnv A w) : Sents L5 A w := h.six.five
end Go.Proofs.YtpedamncnimgpaaDoor

/- Layer 20: the document's own Deceives, Betrays, Clash. -/
import Derived.Test.YtpokecijongkpaaDoorMC13
namespace Go.Proofs.YtpokecijongkpaaDoor
set_option maxRecDepth 100000
open Go.RowKit
attribute [local go_sem ↓] Go.wp_at_zero Go.wp_at_succ

end Go.Proofs.YtpokecijongkpaaDoor

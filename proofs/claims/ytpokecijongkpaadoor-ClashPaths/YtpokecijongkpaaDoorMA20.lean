/- Layer 19: the program's own rise: to two roots, by the sides. -/
import Derived.Test.YtpokecijongkpaaDoorMA19
import Derived.Test.YtpokecijongkpaaDoorMA12
namespace Go.Proofs.YtpokecijongkpaaDoor
set_option maxRecDepth 100000
open Go.RowKit
attribute [local go_sem ↓] Go.wp_at_zero Go.wp_at_succ

end Go.Proofs.YtpokecijongkpaaDoor

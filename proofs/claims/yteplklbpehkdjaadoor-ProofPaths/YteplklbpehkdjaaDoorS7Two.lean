/- What the document's own Two answers. -/
import Derived.Test.YteplklbpehkdjaaDoorS5Own
namespace Go.Proofs.YteplklbpehkdjaaDoor
set_option maxRecDepth 100000
open Go.RowKit
attribute [local go_sem ↓] Go.wp_at_zero Go.wp_at_succ

end Go.Proofs.YteplklbpehkdjaaDoor

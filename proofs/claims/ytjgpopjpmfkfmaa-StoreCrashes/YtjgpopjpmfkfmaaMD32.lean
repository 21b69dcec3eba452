/- Steps of states for bytes that came in: how many, one's address, a part of them. -/
import Derived.Test.YtjgpopjpmfkfmaaMD09
import Derived.Test.YtjgpopjpmfkfmaaMD07
namespace Go.Proofs.Ytjgpopjpmfkfmaa
set_option maxRecDepth 100000
open Go.RowKit

section
variable {P : Program} {W : Bs} {n : Nat} {ops : Array Oper} {i : Nat} {o : Oper} {L : Nat → Bool} {xs : List OE} {σ : SS}
end
end Go.Proofs.Ytjgpopjpmfkfmaa

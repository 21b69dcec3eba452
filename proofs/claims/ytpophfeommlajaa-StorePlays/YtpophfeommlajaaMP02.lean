/- Plain facts on numbers written in words of 64 bits: no program in sight. -/
import Derived.Below
namespace Go.Proofs.Ytpophfeommlajaa
set_option maxRecDepth 100000

/-- A word's number of values. -/
def B : Int := 18446744073709551616
/-- The word of a number that stands for its power k (of a number below nothing: that of what goes round). -/
def L (k : Nat) (a : Int) : Int := a / B ^ k % B
/-- The carry into word k of a sum. -/
def C (a b : Int) (k : Nat) : Int := (a % B ^ k + b % B ^ k) / B ^ k
/-- The borrow out of word k of a difference. -/
def D (a b : Int) (k : Nat) : Int := -((a % B ^ k - b % B ^ k) / B ^ k)
/-- 2^256. -/
def M : Int := 115792089237316195423570985008687907853269984665640564039457584007913129639936
/-- The sum is 2^256 or more. -/
def over (a b : Int) : Bool := decide (M ≤ a + b)
end Go.Proofs.Ytpophfeommlajaa

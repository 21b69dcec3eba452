/- Layer 13: the document's Crash. Layer 13: both disks side by side; a call on both. -/
import Derived.Test.YtjgpopjpmfkfmaaMC09
namespace Go.Proofs.Ytjgpopjpmfkfmaa
set_option maxRecDepth 100000
open Go.RowKit Go.Maps
attribute [local go_sem ↓] Go.wp_at_zero Go.wp_at_succ

end Go.Proofs.Ytjgpopjpmfkfmaa
namespace Go.Proofs.Ytjgpopjpmfkfmaa
set_option maxRecDepth 100000
open Go.RowKit Go.Maps
attribute [local go_sem ↓] Go.wp_at_zero Go.wp_at_succ

structure TwR (w wr : World) (b lb mb r la na cl cn : Nat) (zl zn : Option Addr) (D E : DM) (G : Nat → Bool) : Prop where
  f : FzR w wr b lb mb D
  g : RDk wr r la na cl cn zl zn E G
  q : ∀ k, G k = true → w.heap.size ≤ k ∧ X3 b lb mb k = false
section
variable {w wr w' : World} {b lb mb r la na cl cn : Nat} {zl zn : Option Addr} {D E D' E' : DM} {G G' : Nat → Bool}
theorem TwR.ap (h : TwR w wr b lb mb r la na cl cn zl zn D E G) {k : Nat} (hk : X3 b lb mb k = true) : X3 r la na k = false := by
  cases hx : X3 r la na k with
  | false => rfl
  | true =>
    have := (h.q k (h.g.gx k hx)).2
    rw [hk] at this
    cases this
theorem TwR.grow (h : TwR w wr b lb mb r la na cl cn zl zn D E G) (hB : Below wr.heap.size wr w') : TwR w w' b lb mb r la na cl cn zl zn D E G :=
  ⟨h.f.grow hB, h.g.same hB.size (fun k hk => hB.block k (h.g.gl k hk)), h.q⟩
theorem TwR.old (h : TwR w wr b lb mb r la na cl cn zl zn D E G) {k : Nat} (hk : k < w.heap.size) : X3 r la na k = false := by
  cases hx : X3 r la na k with
  | false => rfl
  | true => have := (h.q k (h.g.gx k hx)).1; omega
end
end Go.Proofs.Ytjgpopjpmfkfmaa

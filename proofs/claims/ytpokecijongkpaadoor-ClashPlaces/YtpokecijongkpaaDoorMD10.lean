/- Layer 19: the document's own Leads. -/
import Derived.Test.YtpokecijongkpaaDoorMD09
namespace Go.Proofs.YtpokecijongkpaaDoor
set_option maxRecDepth 100000
open Go.RowKit
attribute [local go_sem ↓] Go.wp_at_zero Go.wp_at_succ

/-- What is known of what Leads answers. -/
structure LdA (o : Option (Nat → Nat)) (f : Nat → Nat) (b : Bool) : Prop where
  lt : ∀ j, f j < 256
  b_ : b = o.isSome
  o_ : ∀ y, o = some y → f = y
theorem LdA.one {f : Nat → Nat} (hf : ∀ j, f j < 256) : LdA (some f) f true := ⟨hf, rfl, fun y e => by cases e; rfl⟩
theorem LdA.no {f : Nat → Nat} (hf : ∀ j, f j < 256) : LdA none f false := ⟨hf, rfl, fun y e => by cases e⟩
theorem LdA.map {o : Option (Nat → Nat)} {f : Nat → Nat} {b : Bool} (h : LdA o f b) (g : (Nat → Nat) → Nat → Nat) (hg : ∀ j, g f j < 256) : LdA (o.map g) (g f) b :=
  ⟨hg, by rw [h.b_]; cases o <;> rfl, fun y e => by
    cases o with
    | none => cases e
    | some x => cases e; rw [h.o_ x rfl]⟩
end Go.Proofs.YtpokecijongkpaaDoor

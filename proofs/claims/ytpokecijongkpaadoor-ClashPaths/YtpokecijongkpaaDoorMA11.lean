/- Layer 19: the document's own Two. -/
import Derived.Test.YtpokecijongkpaaDoorMA10
namespace Go.Proofs.YtpokecijongkpaaDoor
set_option maxRecDepth 100000
open Go.RowKit
attribute [local go_sem ↓] Go.wp_at_zero Go.wp_at_succ

/-- What is known of what Two answers. -/
structure TwA (o : Option ((Nat → Nat) × (Nat → Nat))) (f g : Nat → Nat) (b : Bool) : Prop where
  lt : ∀ j, f j < 256
  lt2 : ∀ j, g j < 256
  b_ : b = o.isSome
  o_ : ∀ q, o = some q → q = (f, g)
theorem TwA.one {f g : Nat → Nat} (hf : ∀ j, f j < 256) (hg : ∀ j, g j < 256) : TwA (some (f, g)) f g true := ⟨hf, hg, rfl, fun q e => by cases e; rfl⟩
theorem TwA.no {f g : Nat → Nat} (hf : ∀ j, f j < 256) (hg : ∀ j, g j < 256) : TwA none f g false := ⟨hf, hg, rfl, fun q e => by cases e⟩
theorem TwA.map {o : Option ((Nat → Nat) × (Nat → Nat))} {f g f' g' : Nat → Nat} {b : Bool} (h : TwA o f g b) (F : (Nat → Nat) × (Nat → Nat) → (Nat → Nat) × (Nat → Nat)) (e : F (f, g) = (f', g')) (hf : ∀ j, f' j < 256) (hg : ∀ j, g' j < 256) : TwA (o.map F) f' g' b :=
  ⟨hf, hg, by rw [h.b_]; cases o <;> rfl, fun q e' => by
    cases o with
    | none => cases e'
    | some x => cases e'; rw [h.o_ x rfl, e]⟩
end Go.Proofs.YtpokecijongkpaaDoor

/- Layer 19: the document's own Two. -/
import Derived.Test.YtpokecijongkpaaDoorMC10
namespace Go.Proofs.YtpokecijongkpaaDoor
set_option maxRecDepth 100000
open Go.RowKit
attribute [local go_sem ↓] Go.wp_at_zero Go.wp_at_succ

/-- What is known of what Two answers. -/
structure TwA (o : Option ((Nat → Nat) × (Nat → Nat))) (f g : Nat → Nat) (b : Bool) : Prop where
  lt : ∀ j, f j < 256
  lt2 : ∀ j, g j < 256
  b_ : b = o.isSome
  o_ : ∀ q, o = some q → q = (f, g)
theorem TwA.one {f g : Nat → Nat} (hf : ∀ j, f j < 256) (hg : ∀ j, g j < 256) : TwA (some (f, g)) f g true := ⟨hf, hg, rfl, fun q e => by cases e; rfl⟩
theorem TwA.no {f g : Nat → Nat} (hf : ∀ j, f j < 256) (hg : ∀ j, g j < 256) : TwA none f g false := ⟨hf, hg, rfl, fun q e => by cases e⟩
theorem TwA.map {o : Option ((Nat → Nat) × (Nat → Nat))} {f g f' g' : Nat → Nat} {b : Bool} (h : TwA o f g b) (F : (Nat → Nat) × (Nat → Nat) → (Nat → Nat) × (Nat → Nat)) (e : F (f, g) = (f', g')) (hf : ∀ j, f' j < 256) (hg : ∀ j, g' j < 256) : TwA (o.map F) f' g' b :=
  ⟨hf, hg, by rw [h.b_]; cases o <;> rfl, fun q e' => by
    cases o with
    | none => cases e'
    | some x => cases e'; rw [h.o_ x rfl, e]⟩
def TwP (w : World) (o : Option ((Nat → Nat) × (Nat → Nat))) (e : Ending) (w' : World) : Prop := ∃ f g b, e = .returned (.tuple #[hv f, hv g, .bool b]) ∧ TwA o f g b ∧ Below w.heap.size w w'
theorem Vs.perm {w0 W : World} {L L' : List (Nat × (Nat → Nat))} (h : Vs w0 W L) (p : L.Perm L') : Vs w0 W L' := ⟨h.k, (fun q hq => h.at_ q (p.mem_iff.2 hq)), (p.map Prod.fst).nodup_iff.1 h.dn⟩
theorem Vs.boxed2 {w X : World} {f : Nat → Nat} (hX : X = ((w.alloc (.cells (ab f 32).toArray 24)).alloc (.cells (ab (fun _ => 0) 32).toArray 24)).alloc (.cells (ab (fun _ => 0) 32).toArray 24)) : Vs w X [(w.heap.size + 2, fun _ => 0), (w.heap.size + 1, fun _ => 0), (w.heap.size, f)] := by
  rw [hX]
  have h := (((Vs.nil w).made f).made (fun _ => 0)).made (fun _ => 0)
  have e : ∀ o, (w.alloc o).heap.size = w.heap.size + 1 := fun o => by simp
  have e2 : ∀ o o', ((w.alloc o).alloc o').heap.size = w.heap.size + 2 := fun o o' => by simp
  rw [e, e2] at h
  exact h
end Go.Proofs.YtpokecijongkpaaDoor

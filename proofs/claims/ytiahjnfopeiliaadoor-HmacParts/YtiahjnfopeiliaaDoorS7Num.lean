/- The document's own stream of numbers (what it is). -/
import Derived.Test.YtiahjnfopeiliaaDoorS7With
namespace Go.Proofs.YtiahjnfopeiliaaDoor

/-- A key and a value of 32 bytes each. -/
structure KV where
  k : Nat → Nat
  v : Nat → Nat
def macB (f : Nat → Nat) (n : Nat) (g : Nat → Nat) (m : Nat) : Nat → Nat := hByte (macS f n g m)
/-- K becomes the hash of V, a byte and some more with K; V that of V with K. -/
def kvStep (s : KV) (b : Nat) (g : Nat → Nat) (m : Nat) : KV :=
  let k := macB s.k 32 (withF s.v b g) (33 + m)
  ⟨k, macB k 32 s.v 32⟩
def kv0 : KV := ⟨fun _ => 0, fun _ => 1⟩
def kvSeed (g : Nat → Nat) (m : Nat) : KV := kvStep (kvStep kv0 0 g m) 1 g m
/-- The next number: V becomes the hash of V with K. -/
def kvNext (s : KV) : KV := ⟨s.k, macB s.k 32 s.v 32⟩
/-- The state behind i numbers. -/
def kvAt (g : Nat → Nat) (m : Nat) : Nat → KV
  | 0 => kvSeed g m
  | 1 => kvNext (kvSeed g m)
  | i + 2 => kvNext (kvStep (kvAt g m (i + 1)) 0 (fun _ => 0) 0)
end Go.Proofs.YtiahjnfopeiliaaDoor

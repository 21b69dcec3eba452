/- Hashes with a key. -/
import Derived.Test.YtiahjnfopeiliaaDoorS5Cat
namespace Go.Proofs.YtiahjnfopeiliaaDoor

/-- A key's 64 bytes. -/
def kpad (f : Nat → Nat) (n i : Nat) : Nat := if n ≤ 64 then (if i < n then f i else 0) else (if i < 32 then hByte (hashS f n) i else 0)
/-- The hash of m bytes g with n bytes f as the key. -/
def macS (f : Nat → Nat) (n : Nat) (g : Nat → Nat) (m : Nat) : St := hashS (cat (fun i => kpad f n i ^^^ 92) 64 (hByte (hashS (cat (fun i => kpad f n i ^^^ 54) 64 g) (64 + m)))) 96
theorem kpad_lt {f : Nat → Nat} (hf : ∀ i, f i < 256) (n i : Nat) : kpad f n i < 256 := by
  unfold kpad
  (repeat' split)
  · exact hf i
  · omega
  · exact Nat.mod_lt _ (by omega)
  · omega
def mA (f : Nat → Nat) (n : Nat) (g : Nat → Nat) (m : Nat) : Array Value := (ab (hByte (macS f n g m)) 32).toArray
end Go.Proofs.YtiahjnfopeiliaaDoor

/- What the program's own fewest, integer and Encode of layer 10 answer. What the program's own readers of layer 10 answer, and where they panic. What the program's own value of layer 10, and slices.Equal, answer. What the program's own number of layer 10 answers, and where it panics. -/
import Derived.Test.YtmigakanbeckpaaGreatDoorKm26
import Derived.Test.YtmigakanbeckpaaGreatDoorKm03
namespace Go.Proofs.YtmigakanbeckpaaGreatDoor.De
set_option maxRecDepth 100000
open Go.RowKit
end Go.Proofs.YtmigakanbeckpaaGreatDoor.De
namespace Go.Proofs.YtmigakanbeckpaaGreatDoor.De
set_option maxRecDepth 100000
open Go.RowKit
structure Tab (w:World):Prop where
 c:∃ t v,w.cell? ⟨3,0,none⟩=some (.iface t v)
end Go.Proofs.YtmigakanbeckpaaGreatDoor.De
namespace Go.Proofs.YtmigakanbeckpaaGreatDoor.De
set_option maxRecDepth 100000
open Go.RowKit
theorem cells_ba {w:World} {b n:Nat} {l:List Nat} (hl:∀ x ∈ l,x<256) (hn:l.length=n) (h:w.rangeAt b 0 (cells8 l)):BA w (some ⟨b,0,none⟩) n (fun i=>l.getD i 0):=by
 refine ⟨fun i=>?_,Or.inr ⟨b,0,rfl,⟨fun i hi=>?_⟩⟩⟩
 ·show l.getD i 0<256
  rw [List.getD_eq_getElem?_getD]
  cases hi:l[i]? with
  | none=>simp
  | some x=>simpa using hl x (List.mem_of_getElem? hi)
 ·exact h i _ (cells8_at l i (by omega))
end Go.Proofs.YtmigakanbeckpaaGreatDoor.De
namespace Go.Proofs.YtmigakanbeckpaaGreatDoor.De
set_option maxRecDepth 100000
open Go.RowKit
end Go.Proofs.YtmigakanbeckpaaGreatDoor.De

/- The program's own Sum of one part, of two, of none. Single operations, as steps of a region that draws its order. Hashes with a key. A call of a function of the program, as a step of a region that draws its order. One byte that is appended to a row of one's own, and where the row then lies. Keys of 64 bytes; bytes that are copied (no function of layer 7 is named). What the program's own fill answers. What the program's own hash of a key's bytes and of parts answers. What the program's own Mac answers. What the document's own Two answers. What the document's own Mac answers. What the document's own with answers. The document's own stream of numbers (what it is). Rows of hashes of one's own. -/
import Derived.Test.YtmigakanbeckpaaGreatDoorV30
import Derived.Test.YtmigakanbeckpaaGreatDoorV24
import Derived.Test.YtmigakanbeckpaaGreatDoorV23
import Derived.Deep.AppendLies
import Derived.Great.BuildSlice
namespace Go.Proofs.YtmigakanbeckpaaGreatDoor.Sh
set_option maxRecDepth 100000
open Go.RowKit
attribute [local go_sem ↓] Go.wp_at_zero Go.wp_at_succ
end Go.Proofs.YtmigakanbeckpaaGreatDoor.Sh
namespace Go.Proofs.YtmigakanbeckpaaGreatDoor.Sh
set_option maxRecDepth 100000
open Go.RowKit
def cutA (a:Option Addr) (c k:Nat):Option Addr:=if c=k then a else a.map (·.add k)
end Go.Proofs.YtmigakanbeckpaaGreatDoor.Sh
namespace Go.Proofs.YtmigakanbeckpaaGreatDoor.Sh
set_option maxRecDepth 100000
def kpad (f:Nat→Nat) (n i:Nat):Nat:=if n≤64 then (if i<n then f i else 0) else (if i<32 then hByte (hashS f n) i else 0)
def macS (f:Nat→Nat) (n:Nat) (g:Nat→Nat) (m:Nat):St:=hashS (cat (fun i=>kpad f n i ^^^ 92) 64 (hByte (hashS (cat (fun i=>kpad f n i ^^^ 54) 64 g) (64+m)))) 96
end Go.Proofs.YtmigakanbeckpaaGreatDoor.Sh
namespace Go.Proofs.YtmigakanbeckpaaGreatDoor.Sh
set_option maxRecDepth 100000
open Go.RowKit
end Go.Proofs.YtmigakanbeckpaaGreatDoor.Sh
namespace Go.Proofs.YtmigakanbeckpaaGreatDoor.Sh
set_option maxRecDepth 100000
open Go.RowKit
end Go.Proofs.YtmigakanbeckpaaGreatDoor.Sh
namespace Go.Proofs.YtmigakanbeckpaaGreatDoor.Sh
set_option maxRecDepth 100000
open Go.RowKit
end Go.Proofs.YtmigakanbeckpaaGreatDoor.Sh
namespace Go.Proofs.YtmigakanbeckpaaGreatDoor.Sh
set_option maxRecDepth 100000
open Go.RowKit
attribute [local go_sem ↓] Go.wp_at_zero Go.wp_at_succ
end Go.Proofs.YtmigakanbeckpaaGreatDoor.Sh
namespace Go.Proofs.YtmigakanbeckpaaGreatDoor.Sh
set_option maxRecDepth 100000
open Go.RowKit
attribute [local go_sem ↓] Go.wp_at_zero Go.wp_at_succ
end Go.Proofs.YtmigakanbeckpaaGreatDoor.Sh
namespace Go.Proofs.YtmigakanbeckpaaGreatDoor.Sh
set_option maxRecDepth 100000
open Go.RowKit
attribute [local go_sem ↓] Go.wp_at_zero Go.wp_at_succ
end Go.Proofs.YtmigakanbeckpaaGreatDoor.Sh
namespace Go.Proofs.YtmigakanbeckpaaGreatDoor.Sh
set_option maxRecDepth 100000
open Go.RowKit
attribute [local go_sem ↓] Go.wp_at_zero Go.wp_at_succ
end Go.Proofs.YtmigakanbeckpaaGreatDoor.Sh
namespace Go.Proofs.YtmigakanbeckpaaGreatDoor.Sh
set_option maxRecDepth 100000
open Go.RowKit
attribute [local go_sem ↓] Go.wp_at_zero Go.wp_at_succ
end Go.Proofs.YtmigakanbeckpaaGreatDoor.Sh
namespace Go.Proofs.YtmigakanbeckpaaGreatDoor.Sh
set_option maxRecDepth 100000
open Go.RowKit
attribute [local go_sem ↓] Go.wp_at_zero Go.wp_at_succ
def withF (v:Nat→Nat) (b:Nat) (g:Nat→Nat):Nat→Nat:=cat (cat v 32 (fun _=>b)) 33 g
end Go.Proofs.YtmigakanbeckpaaGreatDoor.Sh
namespace Go.Proofs.YtmigakanbeckpaaGreatDoor.Sh
set_option maxRecDepth 100000
structure KV where
 k:Nat→Nat
 v:Nat→Nat
def macB (f:Nat→Nat) (n:Nat) (g:Nat→Nat) (m:Nat):Nat→Nat:=hByte (macS f n g m)
def kvStep (s:KV) (b:Nat) (g:Nat→Nat) (m:Nat):KV :=
 let k:=macB s.k 32 (withF s.v b g) (33+m)
 ⟨k,macB k 32 s.v 32⟩
def kv0:KV:=⟨fun _=>0,fun _=>1⟩
def kvSeed (g:Nat→Nat) (m:Nat):KV:=kvStep (kvStep kv0 0 g m) 1 g m
def kvNext (s:KV):KV:=⟨s.k,macB s.k 32 s.v 32⟩
def kvAt (g:Nat→Nat) (m:Nat):Nat→KV
 | 0=>kvSeed g m
 | 1=>kvNext (kvSeed g m)
 | i+2=>kvNext (kvStep (kvAt g m (i+1)) 0 (fun _=>0) 0)
end Go.Proofs.YtmigakanbeckpaaGreatDoor.Sh
namespace Go.Proofs.YtmigakanbeckpaaGreatDoor.Sh
set_option maxRecDepth 100000
open Go.RowKit
structure HL (w:World) (x:Option Addr) (n:Nat) (F:Nat→Nat→Nat):Prop where
 at_:n=0∨∃ b,x=some ⟨b,0,none⟩∧∀ i,i<n→∀ j,j<32→w.cell? ⟨b,32*i+j,none⟩=some (.int .u8 ((F i j:Nat):Int))
end Go.Proofs.YtmigakanbeckpaaGreatDoor.Sh

/- Points of three numbers: what double, plus and drop of the document answer. -/
import Derived.Test.YtmigakanbeckpaaGreatDoorRm20
namespace Go.Proofs.YtmigakanbeckpaaGreatDoor
set_option maxRecDepth 100000
open Go.RowKit
def px (a:Wp m0):Fin m0:=match a with
 | none=>0
 | some q=>q.1
def py (a:Wp m0):Fin m0:=match a with
 | none=>0
 | some q=>q.2
def pc (a:Wp m0):List Value:=fc (px a)++fc (py a)++[Value.bool a.isNone]
end Go.Proofs.YtmigakanbeckpaaGreatDoor

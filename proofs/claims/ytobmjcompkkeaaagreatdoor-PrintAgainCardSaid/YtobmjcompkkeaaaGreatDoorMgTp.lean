import Derived.Test.YtobmjcompkkeaaaGreatDoorMgS
namespace Go.Proofs.YtobmjcompkkeaaaGreatDoor
open Go.RowKit Wb
end Go.Proofs.YtobmjcompkkeaaaGreatDoor
namespace Wb
open Go.Proofs.YtobmjcompkkeaaaGreatDoor
def sgB (s : ByteArray) : Bool := (chk s.data.toList == -1) && (badU s.size s.data.toList 0).isNone
def nmB (n : Pr) : Bool := nameB n.2.data.toList && (sgB n.1 && !(eqT n.1 sXMLNS))
def atB (seen : List Pr) (a : Tr) : Bool := !(seen.any (fun y => eqP y a.1)) && (!(eqP a.1 (sE, sXmlns)) && (nmB a.1 && sgB a.2))
def atsB : List Pr → List Tr → Bool
  | _, [] => true
  | seen, a :: l => atB seen a && atsB (seen ++ [a.1]) l
def attrsB (l : List Tr) : Bool := decide (l.length ≤ 32) && atsB [] l
def txB (n : Nd) : Bool := decide (n.kind = 2) && (!(eqT n.text sE) && (sgB n.text && (eqP n.name (sE, sE) && (n.attrs.isEmpty && n.kids.isEmpty))))
def elB (nm : Pr) (al : List Tr) (t : ByteArray) (d : Nat) : Bool := decide (d ≤ 24) && (eqT t sE && (nmB nm && attrsB al))
mutual
/-- Is a node al it must be that stands so deep, where so many were met? And how many were, behind it. -/
def rgN : Nd → Nat → Nat → Bool × Nat
  | .mk k nm al ks t, d, c => if 2000 < c + 1 then (false, c + 1) else if k ≠ 1 then (txB (.mk k nm al ks t), c + 1) else if elB nm al t d = false then (false, c + 1) else rgKs ks 0 (d + 1) (c + 1)
def rgKs : List Nd → Int → Nat → Nat → Bool × Nat
  | [], _, _, c => (true, c)
  | k :: ks, a, d, c => if a = 2 ∧ k.kind = 2 then (false, c) else if (rgN k d c).1 = true then rgKs ks k.kind d (rgN k d c).2 else (false, (rgN k d c).2)
end
end Wb
namespace Go.Proofs.YtobmjcompkkeaaaGreatDoor
open Go.RowKit Wb Go.Lib
end Go.Proofs.YtobmjcompkkeaaaGreatDoor
namespace Wb
end Wb
namespace Go.Proofs.YtobmjcompkkeaaaGreatDoor
open Go.RowKit Wb Go.Maps
end Go.Proofs.YtobmjcompkkeaaaGreatDoor
namespace Go.Proofs.YtobmjcompkkeaaaGreatDoor
open Go.RowKit Wb
end Go.Proofs.YtobmjcompkkeaaaGreatDoor

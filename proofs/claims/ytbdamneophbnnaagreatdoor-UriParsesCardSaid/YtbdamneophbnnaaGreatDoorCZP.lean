/- Proves the tied card of UriParses (package watchbilllaw11) at the commit named in COMMIT: for every input the Go function UriParses returns true and each argument reads afterwards as it read before, where the listed package-level variables of Go's library read as the program's text lays them (the card ties them). No other condition. -/
import Derived.Test.YtbdamneophbnnaaGreatDoorCZ0
import Derived.Test.YtbdamneophbnnaaGreatDoorCZ36
namespace Go.Proofs.YtbdamneophbnnaaGreatDoor.uriParses
theorem proved : Rows.UriParsesCardSaid := proved_of uriparses_walk
#print axioms proved
end Go.Proofs.YtbdamneophbnnaaGreatDoor.uriParses

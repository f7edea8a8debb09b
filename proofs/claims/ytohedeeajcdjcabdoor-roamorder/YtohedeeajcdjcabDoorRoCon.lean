/- Package roam: its calls, by the names that the laws' texts lean on. -/
import Derived.Test.YtohedeeajcdjcabDoorRoK6
namespace Go.Proofs.YtohedeeajcdjcabDoor
end Go.Proofs.YtohedeeajcdjcabDoor

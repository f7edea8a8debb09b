/- Package roam: its calls, by the names that the laws' texts lean on. -/
import Derived.Test.YtohedeeajcdjcaaDoorRoK6
namespace Go.Proofs.YtohedeeajcdjcaaDoor
end Go.Proofs.YtohedeeajcdjcaaDoor

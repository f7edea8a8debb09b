/- Package rs's calls, by the names that the laws' texts lean on: rmay_any, rpad_any, rweights_any, rencode_any, rdecode_any. -/
import Derived.Test.YtebjkbhidpdpfaaRsK1P
import Derived.Test.YtebjkbhidpdpfaaRsK7

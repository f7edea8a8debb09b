/- Package sender's calls, by the names that the laws' texts lean on: nmay, nnew, npush, ntick, nhear, nhello, nroom, nlost. -/
import Derived.Test.YteacdckfnmjojabDoorMSnB
import Derived.Test.YteacdckfnmjojabDoorSnKb
import Derived.Test.YteacdckfnmjojabDoorMSnE

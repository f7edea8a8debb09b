/- Package sender's calls, by the names that the laws' texts lean on: nmay, nnew, npush, ntick, nhear, nhello, nroom, nlost. -/
import Derived.Test.YteacdckfnmjojaaDoorMSnB
import Derived.Test.YteacdckfnmjojaaDoorSnKb
import Derived.Test.YteacdckfnmjojaaDoorMSnE

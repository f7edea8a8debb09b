/- Package record: its calls, all of them. -/
import Derived.Test.YthbfdfkkacmbhaaDoorRcK5
import Derived.Test.YthbfdfkkacmbhaaDoorRcK7

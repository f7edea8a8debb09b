/- Package record: its calls, all of them. -/
import Derived.Test.YthbfdfkkacmbhabDoorRcK5
import Derived.Test.YthbfdfkkacmbhabDoorRcK7

/- Package edf's calls, Drop too. -/
import Derived.Test.YtgcpkploeobafaaEdCon
import Derived.Test.YtgcpkploeobafaaEdKb

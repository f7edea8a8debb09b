/- Package edf's calls, by the names that the laws lean on (Drop aside: EdConD). -/
import Derived.Test.YtgcpkploeobafaaEdK9

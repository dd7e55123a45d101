
/- Contracts of package pct together. -/
import Derived.Test.YtclenfdhnccalaaDoorQdJ
import Derived.Test.YtclenfdhnccalaaDoorQdK
import Derived.Test.YtclenfdhnccalaaDoorQdS

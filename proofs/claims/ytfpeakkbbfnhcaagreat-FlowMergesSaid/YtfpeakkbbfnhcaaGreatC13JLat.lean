/- Texts that the proof is made of, joined. No condition. -/
import Derived.Test.YtfpeakkbbfnhcaaGreatC1311
import Derived.Test.YtfpeakkbbfnhcaaGreatC132
import Derived.Test.YtfpeakkbbfnhcaaGreatC1310
import Derived.Test.YtfpeakkbbfnhcaaGreatC134
import Derived.Test.YtfpeakkbbfnhcaaGreatC1319
import Derived.Test.YtfpeakkbbfnhcaaGreatC13ASeatX
set_option linter.unusedVariables false
set_option linter.unusedSimpArgs false
set_option maxRecDepth 100000
set_option maxHeartbeats 16000000


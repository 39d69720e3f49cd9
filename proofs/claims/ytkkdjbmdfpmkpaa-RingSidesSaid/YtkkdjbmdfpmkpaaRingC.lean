/- The contracts of layer ring's calls Area, Check, Side and Turned, together. -/
import Derived.Test.YtkkdjbmdfpmkpaaSide
import Derived.Test.YtkkdjbmdfpmkpaaTurned
import Derived.Test.YtkkdjbmdfpmkpaaRingW

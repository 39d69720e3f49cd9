/- The contracts of layer ring's calls Area, Check, Side and Turned, together. -/
import Derived.Test.YtjpjlnijmhjoaaaSide
import Derived.Test.YtjpjlnijmhjoaaaTurned
import Derived.Test.YtjpjlnijmhjoaaaRingW

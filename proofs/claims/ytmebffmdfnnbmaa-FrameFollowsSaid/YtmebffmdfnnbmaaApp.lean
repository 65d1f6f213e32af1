/- What the statements on sealed bytes want of appending, copying and comparing. -/
import Derived.Test.YtmebffmdfnnbmaaBEqual
import Derived.Test.YtmebffmdfnnbmaaSClone
import Derived.Test.YtmebffmdfnnbmaaEqual

/-
  The law ChainParts: for every input it answers true, and its arguments read as they did. Condition: the round constants' table lies as the program's text lays it (the card ties it).
-/
import Derived.Test.YtpfhlhcnmeodbaaDoorL01
import Derived.Test.YtpfhlhcnmeodbaaDoorL02
import Derived.Test.YtpfhlhcnmeodbaaDoorL03
import Derived.Test.YtpfhlhcnmeodbaaDoorL04
import Derived.Test.YtpfhlhcnmeodbaaDoorL05
import Derived.Test.YtpfhlhcnmeodbaaDoorL06
import Derived.Test.YtpfhlhcnmeodbaaDoorL07


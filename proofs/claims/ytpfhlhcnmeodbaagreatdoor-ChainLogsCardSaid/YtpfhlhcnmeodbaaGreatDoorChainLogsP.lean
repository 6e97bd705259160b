/-
  The law ChainLogs: for every input it answers true, and its arguments read as they did. Condition: the round constants' table lies as the program's text lays it (the card ties it).
-/
import Derived.Test.YtpfhlhcnmeodbaaGreatDoorJ01
import Derived.Test.YtpfhlhcnmeodbaaGreatDoorJ02
import Derived.Test.YtpfhlhcnmeodbaaGreatDoorJ03
import Derived.Test.YtpfhlhcnmeodbaaGreatDoorJ04
import Derived.Test.YtpfhlhcnmeodbaaGreatDoorJ05
import Derived.Test.YtpfhlhcnmeodbaaGreatDoorJ06
import Derived.Test.YtpfhlhcnmeodbaaGreatDoorJ07
import Derived.Test.YtpfhlhcnmeodbaaGreatDoorJ08
import Derived.Test.YtpfhlhcnmeodbaaGreatDoorJ09
import Derived.Test.YtpfhlhcnmeodbaaGreatDoorJ10
import Derived.Test.YtpfhlhcnmeodbaaGreatDoorJ11
import Derived.Test.YtpfhlhcnmeodbaaGreatDoorJ12
import Derived.Test.YtpfhlhcnmeodbaaGreatDoorJ13
import Derived.Test.YtpfhlhcnmeodbaaGreatDoorJ14
import Derived.Test.YtpfhlhcnmeodbaaGreatDoorJ15
import Derived.Test.YtpfhlhcnmeodbaaGreatDoorJ16


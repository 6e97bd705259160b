/-
  The law EntryReads: for every input it answers true, and its arguments read as they did. No condition.
-/
import Derived.Test.YtenmkfjgjemiiaaJ01
import Derived.Test.YtenmkfjgjemiiaaJ02
import Derived.Test.YtenmkfjgjemiiaaJ03
import Derived.Test.YtenmkfjgjemiiaaJ04
import Derived.Test.YtenmkfjgjemiiaaJ05
import Derived.Test.YtenmkfjgjemiiaaJ06
import Derived.Test.YtenmkfjgjemiiaaJ07


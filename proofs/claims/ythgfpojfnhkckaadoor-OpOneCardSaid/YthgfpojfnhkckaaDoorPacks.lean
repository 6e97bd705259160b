/-
  Numbers, texts and lists, packed: the developers' and the document's.
-/
import Derived.Test.YthgfpojfnhkckaaDoorList
import Derived.Test.YthgfpojfnhkckaaDoorRefnum

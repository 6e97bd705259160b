/-
  The developers' disk: all its contracts (dev7_new, _size, _write, _read, _sync, _off, _on, _arm, _down, _acts, _waits; the nil ones).
-/
import Derived.Test.YtmkelboncapkpaaDevWr

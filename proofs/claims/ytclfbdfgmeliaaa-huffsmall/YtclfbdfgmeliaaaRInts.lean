/-
  In RInts' place, for a seat without the reference's Cost.
-/
import Derived.Test.YtclfbdfgmeliaaaRKraft

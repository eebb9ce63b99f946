/-
  Helps of table's laws.
-/
import Derived.Test.YtnffjafddbbjaaaGreatDoorTI
import Derived.Test.YtnffjafddbbjaaaGreatDoorTTabP
import Derived.Test.YtnffjafddbbjaaaGreatDoorJ3
import Derived.Test.YtnffjafddbbjaaaGreatDoorSHelp
import Derived.Test.YtnffjafddbbjaaaGreatDoorXSame

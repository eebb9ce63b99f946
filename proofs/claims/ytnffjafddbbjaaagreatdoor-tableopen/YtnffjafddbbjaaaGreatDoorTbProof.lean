/-
  The table answers as the laws' condition asks.
-/
import Derived.Test.YtnffjafddbbjaaaGreatDoorTbPr
import Derived.Test.YtnffjafddbbjaaaGreatDoorTbPa
import Derived.Test.YtnffjafddbbjaaaGreatDoorTI
namespace Go.Proofs.YtnffjafddbbjaaaGreatDoor
open Go.RowKit

theorem ti : TI KBoth where
  keep h f := h.keep f
  print n v evs w h hn hl hfit hK := tabPrint_any n v evs w h hn hl hfit hK
  parse s w hs hK := tabParse_any s w hs hK
#print axioms ti

end Go.Proofs.YtnffjafddbbjaaaGreatDoor

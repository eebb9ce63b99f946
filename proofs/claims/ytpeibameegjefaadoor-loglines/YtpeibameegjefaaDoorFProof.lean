/-
  The landed logfmt answers as the laws' condition asks.
-/
import Derived.Test.YtpeibameegjefaaDoorFPr
import Derived.Test.YtpeibameegjefaaDoorFPa
import Derived.Test.YtpeibameegjefaaDoorFI
namespace Go.Proofs.YtpeibameegjefaaDoor
open Go.RowKit

theorem fi : FI KBoth where
  keep h f := h.keep f
  print n v evs w h hn hl hfit hK := logPrint_any n v evs w h hn hl hfit hK
  parse s w hs hK := logParse_any s w hs hK
#print axioms fi

end Go.Proofs.YtpeibameegjefaaDoor

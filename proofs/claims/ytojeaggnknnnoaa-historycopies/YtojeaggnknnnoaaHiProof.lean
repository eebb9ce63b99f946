/-
  history's five contracts together.
-/
import Derived.Test.YtojeaggnknnnoaaXHI
import Derived.Test.YtojeaggnknnnoaaHCheck
import Derived.Test.YtojeaggnknnnoaaHSame
import Derived.Test.YtojeaggnknnnoaaHSearch
import Derived.Test.YtojeaggnknnnoaaHCopy
namespace Go.Proofs.Ytojeaggnknnnoaa
open Go.RowKit

theorem hi : HI where
  check n v evs w h hn hl hf := check_any n v evs w h hn hl hf
  same n m v u la lb w h hu _ _ hl hl2 _ _ := same_any n m v u la lb w h hu hl hl2
  upto n v evs t w h hs _ hl _ _ _ := upto_any n v evs t w h hs hl
  last n v evs w h _ hl _ := last_any n v evs w h hl
  copy n v evs w h _ hl _ := copy_any n v evs w h hl

end Go.Proofs.Ytojeaggnknnnoaa

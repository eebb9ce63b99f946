/-
  snap's functions answer as the statements ask.
-/
import Derived.Test.YthdlhdeaeaahoaaSPAt
import Derived.Test.YthdlhdeaeaahoaaSPTurn
import Derived.Test.YthdlhdeaeaahoaaSPIndex
import Derived.Test.YthdlhdeaeaahoaaSPDeg
import Derived.Test.YthdlhdeaeaahoaaSI
namespace Go.Proofs.Ythdlhdeaeaahoaa
open Go.RowKit

theorem si : SI :=
  ⟨fun n v evs t w h hn hl hf _ _ => at_any n v evs t w h hn hl hf,
   fun n v evs k w h hn hl hf h1 h2 => after_any n v evs k w h hn hl hf h1 h2,
   fun v es x w h hl _ _ => turnE_any v es x w h hl,
   fun v es x w h hl _ _ => degree_any v es x w h (by omega),
   fun v es e w h hl _ _ => has_any v es e w h (by omega)⟩

end Go.Proofs.Ythdlhdeaeaahoaa

/-
  Package code meets the condition KC.
-/
import Derived.Test.YtdbbngppdcpcgaaKC
import Derived.Test.YtdbbngppdcpcgaaTNew
namespace Go.Proofs.Ytdbbngppdcpcgaa
open Go.RowKit

def kc : KC where
  tb := Tab
  lt := fun h => h.lt
  frame := fun h hf hs => h.frame hf hs
  right := fun v zs w h _ => (rightC_any v zs w h).mono fun _ _ ⟨he, hw⟩ => ⟨he, by rw [hw]; exact Fr.refl _ _⟩
  codes := fun v zs w h _ => (codesC_any v zs w h).mono fun _ _ ⟨sv, he, hr, hf, _⟩ => ⟨sv, he, hr, hf⟩
  newY := fun v zs w h _ hr => newC_yes v zs w h hr
  newN := fun v zs w h _ hr => newC_no v zs w h hr
  put := fun p q sv bl zs F s w ht hr hw hn hap _ _ => putC_any p q sv bl zs F s w ht hr hw hn hap
  take := fun p q sv bs i zs F w ht hr h hap => takeC_any p q sv bs i zs F w ht hr h hap

end Go.Proofs.Ytdbbngppdcpcgaa

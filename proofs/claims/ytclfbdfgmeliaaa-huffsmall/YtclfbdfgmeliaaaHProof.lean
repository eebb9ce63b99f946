/-
  Package huff meets the condition HC.
-/
import Derived.Test.YtclfbdfgmeliaaaHC
import Derived.Test.YtclfbdfgmeliaaaHReadP
namespace Go.Proofs.Ytclfbdfgmeliaaa
open Go.RowKit

theorem hc : HC where
  cnt := fun v bs w h hb hl => (hcounts_any v bs w h hb (by omega)).mono fun _ _ ⟨sv, he, hr, hf, _⟩ => ⟨sv, he, hr, hf⟩
  put := fun v bs w h hb hl => (hputP_any v bs w h hb (by omega)).mono fun _ _ ⟨sv, he, ho, hf, _⟩ => ⟨sv, he, ho.reads, hf⟩
  read := fun v bs w h hb hl => (hreadP_any v bs w h hb hl).mono fun _ _ ⟨hf, hcase⟩ => ⟨hf, hcase.imp id fun ⟨x, hx, sv, he, ho⟩ => ⟨x, hx, sv, he, ho.reads⟩⟩

end Go.Proofs.Ytclfbdfgmeliaaa

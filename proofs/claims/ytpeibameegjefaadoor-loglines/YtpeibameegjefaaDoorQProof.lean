/-
  The program's scanner answers as its contracts say.
-/
import Derived.Test.YtpeibameegjefaaDoorQWord
import Derived.Test.YtpeibameegjefaaDoorJ5
namespace Go.Proofs.YtpeibameegjefaaDoor
open Go.RowKit

/-- The program's scanner, on a block of its own. -/
def PSc (F : Nat → Prop) (w : World) (v : Value) (s : ByteArray) (c : Sc) : Prop := ∃ p, v = .pointer (some ⟨p, 0, none⟩) ∧ (∀ k, F k ↔ k = p) ∧ LSc w p s c
theorem psc_mk {w w' : World} {F : Nat → Prop} {p : Nat} {s : ByteArray} {d : Sc} (hF : ∀ k, F k ↔ k = p) (h : LSc w' p s d) (f : Fr w w' (fun k => k = p)) : ∃ F', PSc F' w' (.pointer (some ⟨p, 0, none⟩)) s d ∧ Fr w w' F ∧ ∀ k, F' k → F k ∨ w.heap.size ≤ k :=
  ⟨F, ⟨p, rfl, hF, h⟩, f.mono (fun k _ e => (hF k).2 e), fun _ hk => .inl hk⟩

theorem ci : CI KVar PSc where
  keep h f := h.keep f
  ptr := fun ⟨p, hv, _, _⟩ => ⟨_, hv⟩
  frame := fun ⟨p, hv, hF, h⟩ f hS => ⟨p, hv, hF, f.kept h (hS p ((hF p).2 rfl))⟩
  below := fun ⟨p, _, hF, h⟩ k hk => by rw [(hF k).1 hk]; exact lt_of_block h
  new s w _ := (scanNew_any s w).mono (fun r w' ⟨p, hr, hp, h, f⟩ => ⟨⟨_, fun k => k = p, hr, ⟨p, rfl, fun _ => Iff.rfl, h⟩, fun k hk => by rw [hk]; exact hp⟩, f⟩)
  number := by
    rintro F v s c most w ⟨p, rfl, hF, h⟩ hok hs hm hK
    exact (scanNumber_any p most s c w h hok hs hm hK).mono (fun r w' ⟨hr, hl, f⟩ => ⟨hr, psc_mk hF hl f⟩)
  word := by
    rintro F v s u c w ⟨p, rfl, hF, h⟩ hok hs _
    exact (scanWord_any p s u c w h hok hs).mono (fun r w' ⟨hr, hl, f⟩ => ⟨hr, psc_mk hF hl f⟩)
  byte := by
    rintro F v s b c w ⟨p, rfl, hF, h⟩ hok hs _
    exact (scanByte_any p b s c w h hok hs).mono (fun r w' ⟨hr, hl, f⟩ => ⟨hr, psc_mk hF hl f⟩)
  next := by
    rintro F v s c w ⟨p, rfl, hF, h⟩ _ _
    exact scanNext_any p s c w h
  place := by
    rintro F v s c w ⟨p, rfl, hF, h⟩ _ _
    exact scanPlace_any p s c w h
  err := by
    rintro F v s c w ⟨p, rfl, hF, h⟩ _ _
    exact scanErr_any p s c w h
  fail := by
    rintro F v s c e w ⟨p, rfl, hF, h⟩ _ _ _
    exact (scanFail_any p e s c w h).mono (fun r w' ⟨hr, hl, f⟩ => ⟨hr, psc_mk hF hl f⟩)

end Go.Proofs.YtpeibameegjefaaDoor

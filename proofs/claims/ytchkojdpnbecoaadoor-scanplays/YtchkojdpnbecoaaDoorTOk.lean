/-
  The numbers of a scanner's state stay within the text's length: plain mathematics.
-/
import Derived.Test.YtchkojdpnbecoaaDoorTNum
import Derived.Test.YtchkojdpnbecoaaDoorTNext
namespace Go.Proofs.YtchkojdpnbecoaaDoor
open Go.RowKit

/-- A place, as a value. -/
def placeV (c : Sc) : Value := .agg #[.int .i64 (c.line : Int), .int .i64 (c.col : Int)]

theorem scMove_ok (s : ByteArray) : ∀ (n : Nat) (c : Sc), ScOk s c → c.pos + n ≤ s.size → ScOk s (scMove s c n)
  | 0, c, h, _ => h
  | n + 1, c, h, hn => by
    rw [scMove]
    refine scMove_ok s n _ ?_ (by rw [scStep_pos]; omega)
    unfold ScOk at h ⊢
    unfold scStep
    split <;> dsimp only <;> omega
theorem scFail_ok {s : ByteArray} {c : Sc} (h : ScOk s c) (e : Nat) : ScOk s (scFail c e) := by
  unfold scFail
  split
  · exact h
  · exact h
theorem scWord_ok {s : ByteArray} {c : Sc} (h : ScOk s c) (v : ByteArray) : ScOk s (scWord s v c) := by
  unfold scWord
  split
  · split
    case isTrue hw => exact scMove_ok s _ c h (by have := wordErr_fits s v c.pos v.size 0 (by have := h.1; omega) hw; omega)
    case isFalse => exact h
  · exact h
theorem scNum_ok {s : ByteArray} {c : Sc} (h : ScOk s c) (most : Nat) : ScOk s (scNum s most c) := by
  unfold scNum
  split
  · split
    · exact h
    · split
      · exact h
      · cases numVal s c.pos most 0 0 (scDigs s c) with
        | none => exact h
        | some x => exact scMove_ok s _ c h (by have := digN_le s (s.size - c.pos) c.pos; have := h.1; unfold scDigs; omega)
  · exact h
theorem scNew_ok (s : ByteArray) : ScOk s ⟨0, 1, 1, 0⟩ := ⟨Nat.zero_le _, Nat.le_refl _, Nat.le_refl _⟩

end Go.Proofs.YtchkojdpnbecoaaDoor

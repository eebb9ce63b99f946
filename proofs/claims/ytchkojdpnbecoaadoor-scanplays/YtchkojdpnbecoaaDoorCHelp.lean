/-
  Helps for the laws of scanners.
-/
import Derived.Test.YtchkojdpnbecoaaDoorTNum
import Derived.Test.YtchkojdpnbecoaaDoorTNext
import Derived.Test.YtchkojdpnbecoaaDoorTDec
import Derived.OpenShut
namespace Go.Proofs.YtchkojdpnbecoaaDoor
open Go.RowKit Go.ChangeShapes Go.WideShapes

theorem cu8 (n : Int) (h : (Lit.int .u8 n).wf = true) : 0 ≤ n ∧ n < (256 : Nat) := by have := bounds_u8 h; omega
theorem cbelow {w w' : World} (h : Fr w w' (fun _ => False)) : Below w.heap.size w w' := h.below (Nat.le_refl _) (fun _ h => h.elim)
/-- Bytes that came in. -/
theorem cbytes_arg {w : World} {a : Option Addr} {len cap : Nat} {z : List Int} (h : IsRow .u8 w a len cap z) : ∃ bs : List Nat, bs.length = len ∧ (∀ x ∈ bs, x < 256) ∧ Reads .u8 w (.slice a len cap) bs := by
  obtain ⟨bs, h1, h2, h3, -⟩ := reads_isRow cu8 (by decide) h
  refine ⟨bs, h1, fun x hx => ?_, h3⟩
  obtain ⟨i, hi⟩ := List.getElem?_of_mem hx
  have := h2 i
  rw [List.getD_eq_getElem?_getD, hi] at this
  exact this
theorem chAt_strOf (bs : List Nat) (i : Nat) (h : i < bs.length) (hb : ∀ x ∈ bs, x < 256) : chAt (strOf bs) i = bs.getD i 0 := by
  have hx := hb (bs.getD i 0) (by rw [List.getD_eq_getElem?_getD, List.getElem?_eq_getElem h]; exact List.getElem_mem h)
  have : (strOf bs)[i]? = some (UInt8.ofNat (bs.getD i 0)) := by
    rw [ByteArray.getElem?_lt' _ i (by rw [strOf_length]; exact h)]
    simp [strOf, strOfNums, List.getD_eq_getElem?_getD, h]
    show (List.map ((fun n : Int => UInt8.ofNat n.toNat) ∘ fun b : Nat => (b : Int)) bs).toArray[i]'(by simpa using h) = UInt8.ofNat bs[i]
    simp
  unfold chAt
  rw [this]
  generalize bs.getD i 0 = y at hx
  simp
  omega
theorem scByte_hit {s : ByteArray} {c : Sc} {b : Nat} (he : c.err = 0) (hp : c.pos < s.size) (hb : b < 256) (h : chAt s c.pos = b) : scByteOk s b c = true ∧ scByte s b c = scStep s c := by
  have hw : wordErr s (strOf [b]) c.pos 0 (strOf [b]).size = 0 := by
    rw [strOf_length]
    show (if s.size ≤ c.pos + 0 then 20 else if chAt s (c.pos + 0) = chAt (strOf [b]) 0 then 0 else 21) = 0
    rw [Nat.add_zero, if_neg (by omega), strOf_one b hb, if_pos h]
  unfold scByteOk scByte scWordOk scWord
  rw [hw, he, if_pos rfl, if_pos rfl, strOf_length]
  exact ⟨rfl, rfl⟩
theorem scByte_miss {s : ByteArray} {c : Sc} {b : Nat} (he : c.err = 0) (hp : c.pos < s.size) (hb : b < 256) (h : chAt s c.pos ≠ b) : scByteOk s b c = false ∧ scByte s b c = { c with err := 21 } := by
  have hw : wordErr s (strOf [b]) c.pos 0 (strOf [b]).size = 21 := by
    rw [strOf_length]
    show (if s.size ≤ c.pos + 0 then 20 else if chAt s (c.pos + 0) = chAt (strOf [b]) 0 then 0 else 21) = 21
    rw [Nat.add_zero, if_neg (by omega), strOf_one b hb, if_neg h]
  unfold scByteOk scByte scWordOk scWord
  rw [hw, he, if_pos rfl, if_neg (by decide)]
  exact ⟨rfl, rfl⟩
theorem scByte_end {s : ByteArray} {c : Sc} {b : Nat} (he : c.err = 0) (hp : s.size ≤ c.pos) : scByteOk s b c = false ∧ scByte s b c = { c with err := 20 } := by
  have hw : wordErr s (strOf [b]) c.pos 0 (strOf [b]).size = 20 := by
    rw [strOf_length]
    show (if s.size ≤ c.pos + 0 then 20 else if chAt s (c.pos + 0) = chAt (strOf [b]) 0 then 0 else 21) = 20
    rw [if_pos (by omega)]
  unfold scByteOk scByte scWordOk scWord
  rw [hw, he, if_pos rfl, if_neg (by decide)]
  exact ⟨rfl, rfl⟩
theorem scByte_stop {s : ByteArray} {c : Sc} {b : Nat} (he : c.err ≠ 0) : scByteOk s b c = false ∧ scByte s b c = c := by
  unfold scByteOk scByte scWordOk scWord
  rw [beq_eq_false_iff_ne.mpr he, if_neg he]
  exact ⟨rfl, rfl⟩
theorem scNext_in {s : ByteArray} {c : Sc} (he : c.err = 0) (hp : c.pos < s.size) : scNext s c = (chAt s c.pos, true) := if_pos ⟨he, hp⟩
theorem scNext_end {s : ByteArray} {c : Sc} (hp : s.size ≤ c.pos) : scNext s c = (0, false) := if_neg (fun h => by omega)
theorem scNext_stop {s : ByteArray} {c : Sc} (he : c.err ≠ 0) : scNext s c = (0, false) := if_neg (fun h => he h.1)

end Go.Proofs.YtchkojdpnbecoaaDoor

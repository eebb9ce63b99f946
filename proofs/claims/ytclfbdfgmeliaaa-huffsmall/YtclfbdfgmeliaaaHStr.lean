/-
  Bytes below 256 as a string: unlike bytes are unlike strings.
-/
import Derived.Test.YtclfbdfgmeliaaaStr
import Derived.WalkKit
namespace Go.Proofs.Ytclfbdfgmeliaaa

theorem strOf_inj {a b : List Nat} (ha : ∀ x ∈ a, x < 256) (hb : ∀ x ∈ b, x < 256) (h : strOf a = strOf b) : a = b := by
  unfold strOf strOfNums at h
  simp only [ByteArray.mk.injEq] at h
  have h1 := congrArg Array.toList h
  simp only [List.map_map] at h1
  have hl : a.length = b.length := by have := congrArg List.length h1; simpa using this
  apply List.ext_getElem hl
  intro i h2 h3
  have h4 := congrArg (fun l => l[i]?) h1
  simp only [List.getElem?_map, List.getElem?_eq_getElem h2, List.getElem?_eq_getElem h3, Option.map_some, Option.some.injEq, Function.comp] at h4
  have h5 := ha _ (List.getElem_mem h2)
  have h6 := hb _ (List.getElem_mem h3)
  have h7 := congrArg UInt8.toNat h4
  simp at h7
  omega
theorem str_ne {a b : ByteArray} (h : a ≠ b) : (a.toList == b.toList) = false := by
  rw [beq_eq_false_iff_ne]
  intro e
  rw [Go.ByteArray.toList_eq, Go.ByteArray.toList_eq] at e
  apply h
  cases a
  cases b
  simp only [ByteArray.mk.injEq]
  exact Array.toList_inj.1 e

end Go.Proofs.Ytclfbdfgmeliaaa

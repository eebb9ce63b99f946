/-
  A slice that the call owns, whatever its elements (of k cells each), as the row that the library's sorts speak of.
-/
import Derived.Test.YthdlhdeaeaahoaaJ1
import Derived.Test.YthdlhdeaeaahoaaRows
import Derived.Shelf.GgSortFunc.RowK
namespace Go.Proofs.Ythdlhdeaeaahoaa
open Go.RowKit
open Go.Sort (flatK get_flatK size_flatK HoldsK putRowK putRow putCells mapBlock onCells grow SWO PermIn SortedIn heap_grow_old)

theorem flatMap_len {α : Type} {enc : α → List Value} {k : Nat} (hk : ∀ x, (enc x).length = k) (d : List α) : (d.flatMap enc).length = d.length * k := by
  induction d with
  | nil => simp
  | cons x r ih => rw [List.flatMap_cons, List.length_append, ih, hk, List.length_cons, Nat.succ_mul]; omega
section
variable {α : Type} [Inhabited α] {enc : α → List Value} {k : Nat}
theorem flatMap_at (hk : ∀ x, (enc x).length = k) (h0 : 0 < k) : ∀ (d : List α) (t : Nat), t < d.length * k → (d.flatMap enc)[t]? = (enc (d[t / k]!))[t % k]?
  | [], t, h => by simp at h
  | x :: r, t, h => by
    rw [List.flatMap_cons]
    rcases Nat.lt_or_ge t k with ht | ht
    · rw [List.getElem?_append_left (by rw [hk]; exact ht), Nat.div_eq_of_lt ht, Nat.mod_eq_of_lt ht]
      rfl
    · obtain ⟨s, rfl⟩ : ∃ s, t = s + k := ⟨t - k, by omega⟩
      rw [List.getElem?_append_right (by rw [hk]; omega), hk, Nat.add_sub_cancel, Nat.add_div_right _ h0, Nat.add_mod_right]
      have := flatMap_at hk h0 r s (by rw [List.length_cons, Nat.succ_mul] at h; omega)
      rw [this]
      simp
theorem flat_is (hk : ∀ x, (enc x).length = k) (h0 : 0 < k) (d : List α) : (flatK enc k d.toArray).toList = d.flatMap enc := by
  apply List.ext_getElem?
  intro t
  rcases Nat.lt_or_ge t (d.length * k) with h | h
  · have e1 : (flatK enc k d.toArray).toList[t]? = some ((enc d.toArray[t / k]!)[t % k]!) := by
      have := get_flatK enc k d.toArray t (by simpa using h)
      rw [getElem!_pos _ t (by simpa using h)] at this
      rw [Array.getElem?_toList, Array.getElem?_eq_getElem (by simpa using h), this]
    have hm : t % k < k := Nat.mod_lt _ h0
    rw [e1, flatMap_at hk h0 d t h]
    have e2 : d.toArray[t / k]! = d[t / k]! := by simp
    rw [e2, List.getElem?_eq_getElem (by rw [hk]; exact hm), getElem!_pos _ _ (by rw [hk]; exact hm)]
  · rw [List.getElem?_eq_none (by simpa using h), List.getElem?_eq_none (by rw [flatMap_len hk]; exact h)]
theorem flat_at (hk : ∀ x, (enc x).length = k) (h0 : 0 < k) (d : List α) (t : Nat) (h : t < d.length * k) : (d.flatMap enc)[t]? = some ((flatK enc k d.toArray)[t]!) := by
  rw [← flat_is hk h0, Array.getElem?_toList, getElem!_pos _ t (by simpa using h), Array.getElem?_eq_getElem (by simpa using h)]
theorem own_holdsG {w : World} {T : TypeId} {g cap : Nat} {d : List α} (hk : ∀ x, (enc x).length = k) (h0 : 0 < k) (h : w.ownsRow 0 T k (.slice (some ⟨g, 0, none⟩) d.length cap) d.length (d.flatMap enc)) : HoldsK enc k w g 0 d.toArray := by
  intro j hj
  have hj' : j < d.length * k := by simpa using hj
  have h1 := World.ownsRow.cellAt h j hj'
  have h2 := World.ownsRow.frozenAt h j
  rw [flat_at hk h0 d j hj'] at h1
  rw [Nat.zero_add]
  exact ⟨h1, h2⟩
theorem own_sortedG {w : World} {T : TypeId} {g cap : Nat} {d : List α} (hk : ∀ x, (enc x).length = k) (h0 : 0 < k) (h : w.ownsRow 0 T k (.slice (some ⟨g, 0, none⟩) d.length cap) d.length (d.flatMap enc)) (d' : Array α) (hl : d'.size = d.length) (n : Nat) (os : Array Obj) :
    (grow (putRowK enc k (Go.Sort.ahead w n) g 0 d') os).ownsRow 0 T k (.slice (some ⟨g, 0, none⟩) d.length cap) d.length (d'.toList.flatMap enc) ∧ Fr w (grow (putRowK enc k (Go.Sort.ahead w n) g 0 d') os) (fun j => j = g) := by
  rcases h.2 with ⟨h', _⟩ | ⟨g', cap', cur, h', hb, hg, hnc, hcm, hcs, htake⟩
  · simp at h'
  · simp only [Value.slice.injEq, Option.some.injEq, Addr.mk.injEq, and_true, true_and] at h'
    obtain ⟨rfl, rfl⟩ := h'
    have hgs : g < w.heap.size := lt_of_block hg
    have hm : ∀ j, (putRowK enc k (Go.Sort.ahead w n) g 0 d').heap[j]? = if g = j then (w.heap[j]?).map (onCells (putCells id 0 (flatK enc k d'))) else w.heap[j]? := fun j => by
      show ((w.heap.modify g (onCells (putCells id 0 (flatK enc k d'))))[j]?) = _
      rw [Array.getElem?_modify]
    have hsz : (putRowK enc k (Go.Sort.ahead w n) g 0 d').heap.size = w.heap.size := by
      show (w.heap.modify g (onCells (putCells id 0 (flatK enc k d')))).size = _
      simp
    have hkk : ∀ j, j < w.heap.size → (grow (putRowK enc k (Go.Sort.ahead w n) g 0 d') os).heap[j]? = if g = j then (w.heap[j]?).map (onCells (putCells id 0 (flatK enc k d'))) else w.heap[j]? := fun j hj => by
      rw [heap_grow_old _ _ (by rw [hsz]; exact hj), hm]
    refine ⟨⟨by rw [flatMap_len hk]; simp [hl], .inr ⟨g, cap, putCells id 0 (flatK enc k d') cur, rfl, Nat.zero_le _, ?_, hnc, hcm, by simpa [putCells] using hcs, ?_⟩⟩, ⟨rfl, rfl, rfl, ?_, fun j hk1 hk2 => ?_⟩⟩
    · rw [hkk g hgs, if_pos rfl, hg]
      rfl
    · apply List.ext_getElem?
      intro t
      have e0 : d'.toList.toArray = d' := by simp
      rw [← flat_is hk h0 d'.toList, List.getElem?_take, e0]
      by_cases ht : t < d.length * k
      · rw [if_pos ht, Array.getElem?_toList, Array.getElem?_toList]
        have ht' : t < (flatK enc k d').size := by rw [size_flatK, hl]; exact ht
        have htc : t < cur.size := by rw [hcs]; have := Nat.mul_le_mul_right k hnc; omega
        simp only [putCells, Array.getElem?_mapIdx]
        rw [Array.getElem?_eq_getElem htc, Option.map_some, if_pos (by omega), Array.getElem?_eq_getElem ht', getElem!_pos _ _ (by simpa using ht')]
        simp
      · rw [if_neg ht, List.getElem?_eq_none (by rw [Array.length_toList, size_flatK, hl]; omega)]
    · rw [Go.Sort.size_grow, hsz]
      omega
    · rw [hkk j hk1, if_neg (fun e => hk2 e.symm)]
end

end Go.Proofs.Ythdlhdeaeaahoaa

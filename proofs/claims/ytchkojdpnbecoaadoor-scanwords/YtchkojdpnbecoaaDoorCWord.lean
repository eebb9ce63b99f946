/-
  Where a word is read, where it is bent, where it is short.
-/
import Derived.Test.YtchkojdpnbecoaaDoorCNum
namespace Go.Proofs.YtchkojdpnbecoaaDoor
open Go.RowKit

theorem wordErr_hit (s u : ByteArray) (pos : Nat) : ∀ (n i : Nat), (∀ j, j < n → pos + i + j < s.size ∧ chAt s (pos + i + j) = chAt u (i + j)) → wordErr s u pos i n = 0
  | 0, _, _ => rfl
  | n + 1, i, h => by
    have h0 := h 0 (Nat.succ_pos _)
    rw [wordErr, if_neg (by omega), if_pos (show chAt s (pos + i) = chAt u i from h0.2)]
    refine wordErr_hit s u pos n (i + 1) (fun j hj => ?_)
    have := h (j + 1) (by omega)
    rw [show pos + (i + 1) + j = pos + i + (j + 1) by omega, show i + 1 + j = i + (j + 1) by omega]
    exact this
theorem wordErr_form (s u : ByteArray) (pos : Nat) : ∀ (k n i : Nat), k < n → (∀ j, j < k → pos + i + j < s.size ∧ chAt s (pos + i + j) = chAt u (i + j)) → pos + i + k < s.size → chAt s (pos + i + k) ≠ chAt u (i + k) → wordErr s u pos i n = 21
  | 0, n + 1, i, _, _, h1, h2 => by rw [wordErr, if_neg (by omega), if_neg (show ¬ chAt s (pos + i) = chAt u i from h2)]
  | k + 1, n + 1, i, hk, h, h1, h2 => by
    have h0 := h 0 (Nat.succ_pos _)
    rw [wordErr, if_neg (by omega), if_pos (show chAt s (pos + i) = chAt u i from h0.2)]
    have e1 : pos + (i + 1) + k = pos + i + (k + 1) := by omega
    have e2 : i + 1 + k = i + (k + 1) := by omega
    refine wordErr_form s u pos k n (i + 1) (by omega) (fun j hj => ?_) (by rw [e1]; exact h1) (by rw [e1, e2]; exact h2)
    have := h (j + 1) (by omega)
    rw [show pos + (i + 1) + j = pos + i + (j + 1) by omega, show i + 1 + j = i + (j + 1) by omega]
    exact this
theorem wordErr_short (s u : ByteArray) (pos : Nat) : ∀ (k n i : Nat), k < n → (∀ j, j < k → pos + i + j < s.size ∧ chAt s (pos + i + j) = chAt u (i + j)) → s.size ≤ pos + i + k → wordErr s u pos i n = 20
  | 0, n + 1, i, _, _, h1 => by rw [wordErr, if_pos (by omega)]
  | k + 1, n + 1, i, hk, h, h1 => by
    have h0 := h 0 (Nat.succ_pos _)
    rw [wordErr, if_neg (by omega), if_pos (show chAt s (pos + i) = chAt u i from h0.2)]
    refine wordErr_short s u pos k n (i + 1) (by omega) (fun j hj => ?_) (by omega)
    have := h (j + 1) (by omega)
    rw [show pos + (i + 1) + j = pos + i + (j + 1) by omega, show i + 1 + j = i + (j + 1) by omega]
    exact this
theorem scMove_err (s : ByteArray) : ∀ (n : Nat) (c : Sc), (scMove s c n).err = c.err
  | 0, c => rfl
  | n + 1, c => by rw [scMove, scMove_err s n]; unfold scStep; split <;> rfl
/-- A word, and more behind it. -/
theorem word_hit (bs cs : List Nat) : scWordOk (strOf bs ++ strOf cs) (strOf bs) ⟨0, 1, 1, 0⟩ = true ∧ (scWord (strOf bs ++ strOf cs) (strOf bs) ⟨0, 1, 1, 0⟩).err = 0 := by
  have h : wordErr (strOf bs ++ strOf cs) (strOf bs) 0 0 (strOf bs).size = 0 := by
    refine wordErr_hit _ _ 0 _ 0 (fun j hj => ?_)
    simp only [Nat.zero_add]
    refine ⟨by rw [ByteArray.size_append]; omega, ?_⟩
    rw [chAt_append, if_pos hj]
  unfold scWordOk scWord
  rw [show (⟨0, 1, 1, 0⟩ : Sc).pos = 0 from rfl, h, if_pos rfl, if_pos rfl, scMove_err]
  exact ⟨rfl, rfl⟩
/-- A word, bent in one byte. -/
theorem word_bent (bs : List Nat) (k y : Nat) (hk : k < bs.length) (hb : ∀ x ∈ bs, x < 256) (hy : y < 256) (hne : y ≠ bs.getD k 0) : scWordOk (strOf (bs.set k y)) (strOf bs) ⟨0, 1, 1, 0⟩ = false ∧ scWord (strOf (bs.set k y)) (strOf bs) ⟨0, 1, 1, 0⟩ = ⟨0, 1, 1, 21⟩ := by
  have hb2 : ∀ x ∈ bs.set k y, x < 256 := fun x hx => by
    rcases List.mem_or_eq_of_mem_set hx with h | rfl
    · exact hb x h
    · exact hy
  have h : wordErr (strOf (bs.set k y)) (strOf bs) 0 0 (strOf bs).size = 21 := by
    refine wordErr_form _ _ 0 k _ 0 (by rw [strOf_length]; exact hk) (fun j hj => ?_) (by rw [strOf_length, List.length_set]; omega) ?_
    · simp only [Nat.zero_add]
      refine ⟨by rw [strOf_length, List.length_set]; omega, ?_⟩
      rw [chAt_strOf _ j (by rw [List.length_set]; omega) hb2, chAt_strOf bs j (by omega) hb, List.getD_eq_getElem?_getD, List.getD_eq_getElem?_getD, List.getElem?_set_ne (by omega)]
    · simp only [Nat.zero_add]
      rw [chAt_strOf _ k (by rw [List.length_set]; omega) hb2, chAt_strOf bs k hk hb, List.getD_eq_getElem?_getD, List.getElem?_set_self hk]
      exact hne
  unfold scWordOk scWord
  rw [show (⟨0, 1, 1, 0⟩ : Sc).pos = 0 from rfl, h, if_pos rfl, if_neg (by decide)]
  exact ⟨rfl, rfl⟩
/-- A word, cut short. -/
theorem word_short (bs : List Nat) (m : Nat) (hm : m < bs.length) (hb : ∀ x ∈ bs, x < 256) : scWordOk (strOf (bs.take m)) (strOf bs) ⟨0, 1, 1, 0⟩ = false ∧ scWord (strOf (bs.take m)) (strOf bs) ⟨0, 1, 1, 0⟩ = ⟨0, 1, 1, 20⟩ := by
  have hl : (bs.take m).length = m := by rw [List.length_take]; omega
  have h : wordErr (strOf (bs.take m)) (strOf bs) 0 0 (strOf bs).size = 20 := by
    refine wordErr_short _ _ 0 m _ 0 (by rw [strOf_length]; exact hm) (fun j hj => ?_) (by rw [strOf_length, hl]; omega)
    simp only [Nat.zero_add]
    refine ⟨by rw [strOf_length, hl]; exact hj, ?_⟩
    rw [chAt_strOf _ j (by rw [hl]; exact hj) (fun x hx => hb x (List.mem_of_mem_take hx)), chAt_strOf bs j (by omega) hb, List.getD_eq_getElem?_getD, List.getD_eq_getElem?_getD, List.getElem?_take_of_lt hj]
  unfold scWordOk scWord
  rw [show (⟨0, 1, 1, 0⟩ : Sc).pos = 0 from rfl, h, if_pos rfl, if_neg (by decide)]
  exact ⟨rfl, rfl⟩

end Go.Proofs.YtchkojdpnbecoaaDoor

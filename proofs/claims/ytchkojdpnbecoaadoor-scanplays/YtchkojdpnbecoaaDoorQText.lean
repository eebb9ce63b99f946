/-
  What stands in a text from a place on; words and digits by lists of bytes: plain mathematics.
-/
import Derived.Test.YtchkojdpnbecoaaDoorTOk
import Derived.Lib.Strings
import Derived.Lib.ParseIntBCases
namespace Go.Proofs.YtchkojdpnbecoaaDoor
open Go.RowKit

theorem chAt_data (s : ByteArray) (i : Nat) : chAt s i = ((s.data.toList[i]?).getD 0).toNat := by
  unfold chAt
  by_cases h : i < s.size
  · rw [ByteArray.getElem?_lt' s i h]
    have hl : i < s.data.toList.length := by rw [← Lib.size_eq]; exact h
    rw [List.getElem?_eq_getElem hl]
    rfl
  · have hl : s.data.toList.length ≤ i := by rw [← Lib.size_eq]; omega
    rw [List.getElem?_eq_none hl]
    have h2 : s[i]? = none := by
      simp only [getElem?_def, dif_neg h]
    rw [h2]
/-- What stands from the place on. -/
def scLeft (s : ByteArray) (p : Nat) : ByteArray := s.extract p s.size
theorem extract_list (s : ByteArray) (a b : Nat) : (s.extract a b).data.toList = (s.data.toList.drop a).take (b - a) := by
  rw [← Lib.toList_data, Lib.extract_toList]
theorem left_list (s : ByteArray) (p : Nat) : (scLeft s p).data.toList = s.data.toList.drop p := by
  unfold scLeft
  rw [extract_list, List.take_of_length_le]
  exact Nat.le_of_eq (by rw [List.length_drop, ← Lib.size_eq])
theorem left_size (s : ByteArray) (p : Nat) : (scLeft s p).size = s.size - p := by
  rw [Lib.size_eq, left_list, List.length_drop, ← Lib.size_eq]
theorem bytes_ext {a b : ByteArray} (h : a.data.toList = b.data.toList) : a = b := by
  obtain ⟨⟨l⟩⟩ := a
  obtain ⟨⟨r⟩⟩ := b
  cases (show l = r from h)
  rfl
theorem left_zero (s : ByteArray) : scLeft s 0 = s := bytes_ext (by rw [left_list, List.drop_zero])
theorem left_left (s : ByteArray) (p n : Nat) : (scLeft s p).extract n (scLeft s p).size = scLeft s (p + n) := bytes_ext (by
  show (scLeft (scLeft s p) n).data.toList = _
  rw [left_list, left_list, left_list, List.drop_drop])
theorem chAt_left (s : ByteArray) (p i : Nat) : chAt (scLeft s p) i = chAt s (p + i) := by
  rw [chAt_data, chAt_data, left_list, List.getElem?_drop]
theorem chAt_extract (s : ByteArray) (n i : Nat) (h : i < n) : chAt (s.extract 0 n) i = chAt s i := by
  rw [chAt_data, chAt_data, extract_list, List.drop_zero, List.getElem?_take, if_pos (by omega)]
theorem extract_size (s : ByteArray) (n : Nat) (h : n ≤ s.size) : (s.extract 0 n).size = n := by
  have := Lib.size_eq s
  rw [Lib.size_eq, extract_list, List.drop_zero, List.length_take]
  omega
theorem left_pos (s : ByteArray) (p : Nat) (h : p ≤ s.size) : (scLeft s p).size = 0 ↔ p = s.size := by rw [left_size]; omega

/-- Digits. -/
theorem digN_left (s : ByteArray) (p : Nat) : ∀ (k i : Nat), digN (scLeft s p) i k = digN s (p + i) k
  | 0, _ => rfl
  | k + 1, i => by rw [digN, digN, chAt_left, digN_left s p k (i + 1), Nat.add_assoc]
theorem scDigs_left (s : ByteArray) (c : Sc) : digN (scLeft s c.pos) 0 (scLeft s c.pos).size = scDigs s c := by
  rw [digN_left, left_size]
  rfl
theorem digN_stop (s : ByteArray) : ∀ (k i : Nat), digN s i k < k → isDig (chAt s (i + digN s i k)) = false
  | 0, i, h => by omega
  | k + 1, i, h => by
    rw [digN] at h ⊢
    split
    case isTrue hd =>
      rw [if_pos hd] at h
      rw [show i + (digN s (i + 1) k + 1) = i + 1 + digN s (i + 1) k by omega]
      exact digN_stop s k (i + 1) (by omega)
    case isFalse hd => rw [Nat.add_zero]; exact Bool.eq_false_iff.mpr hd

/-- Words, by lists. -/
def wErr : List UInt8 → List UInt8 → Nat
  | _, [] => 0
  | [], _ :: _ => 20
  | a :: l, b :: r => if a = b then wErr l r else 21
theorem wordErr_list (s v : ByteArray) (p : Nat) : ∀ (n i : Nat), i + n = v.size → wordErr s v p i n = wErr (s.data.toList.drop (p + i)) (v.data.toList.drop i)
  | 0, i, h => by
    have hl : v.data.toList.length ≤ i := by rw [← Lib.size_eq]; omega
    rw [List.drop_of_length_le hl]
    rw [wordErr]
    cases s.data.toList.drop (p + i) <;> rfl
  | n + 1, i, h => by
    have hl : i < v.data.toList.length := by rw [← Lib.size_eq]; omega
    rw [wordErr, List.drop_eq_getElem_cons hl]
    by_cases hs : s.size ≤ p + i
    · have hl2 : s.data.toList.length ≤ p + i := by rw [← Lib.size_eq]; exact hs
      rw [if_pos hs, List.drop_of_length_le hl2]
      rfl
    · have hl2 : p + i < s.data.toList.length := by rw [← Lib.size_eq]; omega
      rw [if_neg hs, List.drop_eq_getElem_cons hl2, wErr, wordErr_list s v p n (i + 1) (by omega), chAt_data, chAt_data, List.getElem?_eq_getElem hl2, List.getElem?_eq_getElem hl]
      simp only [Option.getD_some, UInt8.toNat_inj]
      rw [Nat.add_assoc]
theorem wErr_zero : ∀ (l r : List UInt8), (wErr l r = 0) ↔ Lib.hasPrefix l r = true
  | _, [] => by unfold Lib.hasPrefix; simp [wErr]
  | [], _ :: _ => by unfold Lib.hasPrefix; simp [wErr]
  | a :: l, b :: r => by
    have ih := wErr_zero l r
    unfold Lib.hasPrefix at ih ⊢
    rw [wErr, List.isPrefixOf_cons_cons, Bool.and_eq_true, beq_iff_eq]
    by_cases h : a = b
    · rw [if_pos h, ih]
      exact ⟨fun x => ⟨h.symm, x⟩, fun x => x.2⟩
    · rw [if_neg h]
      exact ⟨fun x => absurd x (by decide), fun x => absurd x.1.symm h⟩
theorem wErr_short : ∀ (l r : List UInt8), wErr l r ≠ 0 → wErr l r = if Lib.hasPrefix r l = true then 20 else 21
  | _, [], h => absurd (by simp [wErr]) h
  | [], _ :: _, _ => by unfold Lib.hasPrefix; simp [wErr]
  | a :: l, b :: r, h => by
    have ih := wErr_short l r
    rw [wErr] at h ⊢
    by_cases e : a = b
    · rw [if_pos e] at h ⊢
      rw [ih h]
      unfold Lib.hasPrefix
      rw [List.isPrefixOf_cons_cons, e, beq_self_eq_true, Bool.true_and]
    · rw [if_neg e]
      unfold Lib.hasPrefix
      rw [List.isPrefixOf_cons_cons, beq_eq_false_iff_ne.mpr e, Bool.false_and, if_neg (by decide)]
theorem scWord_zero (s v : ByteArray) (p : Nat) : wordErr s v p 0 v.size = 0 ↔ Lib.hasPrefix (scLeft s p).data.toList v.data.toList = true := by
  rw [wordErr_list s v p v.size 0 (Nat.zero_add _), Nat.add_zero, List.drop_zero, left_list]
  exact wErr_zero _ _
theorem scWord_short (s v : ByteArray) (p : Nat) (h : wordErr s v p 0 v.size ≠ 0) : wordErr s v p 0 v.size = if Lib.hasPrefix v.data.toList (scLeft s p).data.toList = true then 20 else 21 := by
  rw [wordErr_list s v p v.size 0 (Nat.zero_add _), Nat.add_zero, List.drop_zero] at h ⊢
  rw [left_list]
  exact wErr_short _ _ h

/-- The number that so many digits are, without a bound. -/
def decV (s : ByteArray) (p : Nat) : Nat → Nat → Nat → Nat
  | _, v, 0 => v
  | i, v, k + 1 => decV s p (i + 1) (10 * v + (chAt s (p + i) - 48)) k
theorem decV_ge (s : ByteArray) (p : Nat) : ∀ (k i v : Nat), v ≤ decV s p i v k
  | 0, _, _ => Nat.le_refl _
  | k + 1, i, v => by rw [decV]; have := decV_ge s p k (i + 1) (10 * v + (chAt s (p + i) - 48)); omega
theorem numVal_dec (s : ByteArray) (p most : Nat) : ∀ (k i v : Nat), v ≤ most → numVal s p most i v k = if decV s p i v k ≤ most then some (decV s p i v k) else none
  | 0, i, v, h => by rw [numVal, decV, if_pos h]
  | k + 1, i, v, h => by
    rw [numVal, decV]
    have hg := decV_ge s p k (i + 1) (10 * v + (chAt s (p + i) - 48))
    by_cases hc : most < chAt s (p + i) - 48 ∨ (most - (chAt s (p + i) - 48)) / 10 < v
    · rw [if_pos hc, if_neg (by omega)]
    · rw [if_neg hc, numVal_dec s p most k (i + 1) _ (by omega)]
theorem parse_dec (s : ByteArray) (p : Nat) : ∀ (k i v : Nat), (∀ j, j < k → isDig (chAt s (p + (i + j))) = true) → p + i + k ≤ s.size → v ≤ 18446744073709551615 →
    Lib.parseUintM 18446744073709551615 v ((s.data.toList.drop (p + i)).take k) = if decV s p i v k ≤ 18446744073709551615 then .ok (decV s p i v k) else .range
  | 0, i, v, _, _, hv => by rw [List.take_zero, Lib.parseUintM, decV, if_pos hv]
  | k + 1, i, v, hd, hl, hv => by
    have hl2 : p + i < s.data.toList.length := by rw [← Lib.size_eq]; omega
    have h0 := hd 0 (by omega)
    rw [Nat.add_zero] at h0
    have hc : chAt s (p + i) = (s.data.toList[p + i]).toNat := by rw [chAt_data, List.getElem?_eq_getElem hl2]; rfl
    have hg := decV_ge s p k (i + 1) (10 * v + (chAt s (p + i) - 48))
    have ih := parse_dec s p k (i + 1) (10 * v + (chAt s (p + i) - 48)) (fun j hj => by have := hd (j + 1) (by omega); rwa [show i + (j + 1) = i + 1 + j by omega] at this) (by omega)
    rw [List.drop_eq_getElem_cons hl2, List.take_succ_cons, Lib.parseUintM, decV, ← hc]
    have hdd : 48 ≤ chAt s (p + i) ∧ chAt s (p + i) ≤ 57 := by
      unfold isDig at h0
      rw [Bool.and_eq_true, decide_eq_true_eq, decide_eq_true_eq] at h0
      exact h0
    rw [if_pos hdd, show v * 10 + (chAt s (p + i) - 48) = 10 * v + (chAt s (p + i) - 48) by omega]
    by_cases h1 : 1844674407370955162 ≤ v
    · rw [if_pos h1, if_neg (by omega)]
    · rw [if_neg h1]
      by_cases h2 : 18446744073709551615 < 10 * v + (chAt s (p + i) - 48)
      · rw [if_pos h2, if_neg (by omega)]
      · rw [if_neg h2, show p + i + 1 = p + (i + 1) by omega]
        exact ih (by omega)

end Go.Proofs.YtchkojdpnbecoaaDoor

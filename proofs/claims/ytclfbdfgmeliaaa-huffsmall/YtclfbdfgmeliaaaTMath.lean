/-
  Canonical codes by how many there are of each length: plain mathematics, no program.
-/
import Derived.Test.YtclfbdfgmeliaaaKMath
namespace Go.Proofs.Ytclfbdfgmeliaaa

/-- How many of the symbols below s have length n. -/
def cntTo (l : List Nat) (s n : Nat) : Nat := if n = 0 then 0 else (l.take s).count n
def cntOf (l : List Nat) (n : Nat) : Nat := cntTo l l.length n
/-- The first code of each length; how many are shorter. -/
def firstF (f : Nat → Nat) : Nat → Nat
  | 0 => 0
  | n + 1 => (firstF f n + f n) * 2
def placeF (f : Nat → Nat) : Nat → Nat
  | 0 => 0
  | n + 1 => placeF f n + f n

theorem cntTo_zero (l : List Nat) (n : Nat) : cntTo l 0 n = 0 := by unfold cntTo; simp
theorem cntTo_step (l : List Nat) (s n : Nat) (hs : s < l.length) : cntTo l (s + 1) n = cntTo l s n + if ln l s = n ∧ 0 < n then 1 else 0 := by
  unfold cntTo
  have e : l.take (s + 1) = l.take s ++ [ln l s] := by
    rw [List.take_add_one, List.getElem?_eq_getElem hs]
    unfold ln
    rw [List.getD_eq_getElem?_getD, List.getElem?_eq_getElem hs]
    rfl
  by_cases h0 : n = 0
  · rw [if_pos h0, if_pos h0, if_neg (by omega)]
  · rw [if_neg h0, if_neg h0, e, List.count_append]
    by_cases h : ln l s = n
    · rw [if_pos ⟨h, by omega⟩, h]; simp
    · rw [if_neg (fun h2 => h h2.1), List.count_singleton, if_neg (by simpa using h)]
theorem cntTo_le (l : List Nat) (s n : Nat) : cntTo l s n ≤ l.length := by
  unfold cntTo
  split
  · omega
  · exact Nat.le_trans List.count_le_length (by rw [List.length_take]; omega)
theorem cntTo_mono (l : List Nat) (n : Nat) {s t : Nat} (h : s ≤ t) (ht : t ≤ l.length) : cntTo l s n ≤ cntTo l t n := by
  induction t with
  | zero => have : s = 0 := by omega
            subst this; exact Nat.le_refl _
  | succ t ih =>
    by_cases e : s = t + 1
    · subst e; exact Nat.le_refl _
    · have := ih (by omega) (by omega)
      rw [cntTo_step l t n (by omega)]
      omega
theorem cntTo_next (l : List Nat) {s t : Nat} (hs : 0 < ln l s) (h : s < t) (ht : t ≤ l.length) : cntTo l s (ln l s) < cntTo l t (ln l s) := by
  have h1 := cntTo_mono l (ln l s) (s := s + 1) (t := t) h ht
  rw [cntTo_step l s _ (by omega), if_pos ⟨rfl, hs⟩] at h1
  omega
theorem cntTo_lt (l : List Nat) {s : Nat} (hs : 0 < ln l s) : cntTo l s (ln l s) < cntOf l (ln l s) := cntTo_next l hs (ln_lt hs) (Nat.le_refl _)
theorem cntTo_find (l : List Nat) (n k : Nat) : ∀ m, m ≤ l.length → k < cntTo l m n → ∃ s, s < m ∧ ln l s = n ∧ cntTo l s n = k
  | 0, _, h => by rw [cntTo_zero] at h; omega
  | m + 1, hm, h => by
    by_cases h1 : k < cntTo l m n
    · obtain ⟨s, h2, h3⟩ := cntTo_find l n k m (by omega) h1
      exact ⟨s, by omega, h3⟩
    · rw [cntTo_step l m n (by omega)] at h
      by_cases h2 : ln l m = n ∧ 0 < n
      · rw [if_pos h2] at h
        exact ⟨m, by omega, h2.1, by omega⟩
      · rw [if_neg h2] at h
        omega
theorem ac_cnt (l : List Nat) (n : Nat) : ∀ s, s ≤ l.length → ac l n s = ac l n 0 + cntTo l s n * 2 ^ (15 - n)
  | 0, _ => by rw [cntTo_zero]; omega
  | s + 1, h => by
    rw [ac_step l n s (by omega), cntTo_step l s n (by omega), ac_cnt l n s (by omega)]
    by_cases h2 : ln l s = n ∧ 0 < n
    · rw [if_pos h2, if_pos h2, Nat.succ_mul]; omega
    · rw [if_neg h2, if_neg h2]; rfl
theorem first_ac (l : List Nat) : ∀ n, n + 1 ≤ 15 → firstF (cntOf l) (n + 1) * 2 ^ (15 - (n + 1)) = ac l (n + 1) 0
  | 0, _ => by rw [ac_zero]; simp [firstF, cntOf, cntTo]
  | n + 1, h => by
    have ih := first_ac l n (by omega)
    rw [ac_next, ac_cnt l (n + 1) l.length (Nat.le_refl _), ← ih]
    show (firstF (cntOf l) (n + 1) + cntOf l (n + 1)) * 2 * _ = _
    rw [show 15 - (n + 1) = (15 - (n + 1 + 1)) + 1 by omega, Nat.pow_succ]
    unfold cntOf
    generalize 2 ^ (15 - (n + 1 + 1)) = y
    generalize firstF (fun n => cntTo l l.length n) (n + 1) = x
    generalize cntTo l l.length (n + 1) = z
    rw [Nat.add_mul, Nat.add_mul, Nat.mul_assoc, Nat.mul_assoc, Nat.mul_comm 2 y]
theorem firstF_le (f : Nat → Nat) (hf : ∀ n, n < 16 → f n ≤ 256) : ∀ n, n ≤ 16 → firstF f n + 512 ≤ 512 * 2 ^ n
  | 0, _ => by simp [firstF]
  | n + 1, h => by
    have ih := firstF_le f hf n (by omega)
    have := hf n (by omega)
    rw [firstF, Nat.pow_succ]
    omega
theorem firstF_small (f : Nat → Nat) (hf : ∀ n, n < 16 → f n ≤ 256) (n : Nat) (h : n ≤ 16) : firstF f n ≤ 33554432 := by
  have h1 := firstF_le f hf n h
  have h2 : 2 ^ n ≤ 2 ^ 16 := Nat.pow_le_pow_right (by omega) h
  omega
theorem placeF_small (f : Nat → Nat) (hf : ∀ n, n < 16 → f n ≤ 256) : ∀ n, n ≤ 16 → placeF f n ≤ 256 * n
  | 0, _ => by simp [placeF]
  | n + 1, h => by
    have ih := placeF_small f hf n (by omega)
    have := hf n (by omega)
    rw [placeF]
    omega
theorem code_cnt {l : List Nat} (h15 : ∀ s, ln l s ≤ 15) {s : Nat} (hs : 0 < ln l s) : codeOf l s = firstF (cntOf l) (ln l s) + cntTo l s (ln l s) := by
  have h1 := code_mul hs
  have h2 := h15 s
  obtain ⟨n, hn⟩ : ∃ n, ln l s = n + 1 := ⟨ln l s - 1, by omega⟩
  rw [hn] at h1 ⊢
  rw [ac_cnt l (n + 1) s (Nat.le_of_lt (ln_lt hs)), ← first_ac l n (by omega), ← Nat.add_mul] at h1
  exact Nat.mul_right_cancel (Nat.two_pow_pos _) h1
/-- Its place among all codes. -/
def rk (l : List Nat) (s : Nat) : Nat := placeF (cntOf l) (ln l s) + cntTo l s (ln l s)
theorem placeF_mono (f : Nat → Nat) {n m : Nat} (h : n ≤ m) : placeF f n ≤ placeF f m := by
  induction m with
  | zero => have : n = 0 := by omega
            subst this; exact Nat.le_refl _
  | succ m ih =>
    by_cases e : n = m + 1
    · subst e; exact Nat.le_refl _
    · have := ih (by omega)
      rw [placeF]
      omega
theorem rk_below {l : List Nat} {s t : Nat} (hs : 0 < ln l s) (ht : 0 < ln l t) (h : Ahd l (ln l s) s t) : rk l t < rk l s := by
  unfold rk
  have h1 := cntTo_lt l ht
  rcases h.2 with h2 | ⟨h2, h3⟩
  · have h4 := placeF_mono (cntOf l) (n := ln l t + 1) (m := ln l s) h2
    rw [placeF] at h4
    omega
  · have h4 := cntTo_next l ht h3 (Nat.le_of_lt (ln_lt hs))
    rw [h2] at h4 ⊢
    omega
theorem rk_ne {l : List Nat} {s t : Nat} (hs : 0 < ln l s) (ht : 0 < ln l t) (h : t ≠ s) : rk l t ≠ rk l s := by
  rcases ahd_or ht hs h with h1 | h1
  · have := rk_below hs ht h1; omega
  · have := rk_below ht hs h1; omega
theorem place_count (l : List Nat) : ∀ m, placeF (cntOf l) m = l.countP fun x => decide (0 < x ∧ x < m)
  | 0 => by
    rw [placeF, eq_comm, List.countP_eq_zero]
    intro x _
    simp
  | m + 1 => by
    rw [placeF, place_count l m]
    unfold cntOf cntTo
    rw [List.take_of_length_le (Nat.le_refl _)]
    clear place_count
    by_cases h0 : m = 0
    · subst h0
      rw [if_pos rfl, Nat.add_zero]
      congr 1
      funext x
      exact decide_eq_decide.2 (by omega)
    · rw [if_neg h0]
      induction l with
      | nil => rfl
      | cons a l ih =>
        rw [List.countP_cons, List.countP_cons, List.count_cons, ← ih]
        by_cases h1 : a = m
        · subst h1
          rw [if_neg (by simp), if_pos (by simp), if_pos (by simp; omega)]
          omega
        · rw [if_neg (c := (a == m) = true) (by simpa using h1)]
          by_cases h2 : 0 < a ∧ a < m
          · rw [if_pos (by simpa using h2), if_pos (by simp; omega)]; omega
          · rw [if_neg (by simpa using h2), if_neg (by simp; omega)]; omega
theorem rk_lt {l : List Nat} {s : Nat} (hs : 0 < ln l s) : rk l s < l.length := by
  have h1 := cntTo_lt l hs
  have h2 := place_count l (ln l s + 1)
  rw [placeF] at h2
  have h3 : l.countP (fun x => decide (0 < x ∧ x < ln l s + 1)) ≤ l.length := List.countP_le_length
  unfold rk
  omega
theorem find_none {l : List Nat} (h15 : ∀ s, ln l s ≤ 15) {n v : Nat} (hn : 0 < n) (h : firstF (cntOf l) n + cntOf l n ≤ v) : findSym l n v = none := by
  cases hf : findSym l n v with
  | none => rfl
  | some s =>
    obtain ⟨-, h1, h2⟩ := findSym_some hf
    have h3 := code_cnt h15 (s := s) (by omega)
    have h4 := cntTo_lt l (s := s) (by omega)
    rw [h1] at h3 h4
    omega
theorem find_some {l : List Nat} (h15 : ∀ s, ln l s ≤ 15) {n k : Nat} (hn : 0 < n) (h : k < cntOf l n) : ∃ s, 0 < ln l s ∧ ln l s = n ∧ rk l s = placeF (cntOf l) n + k ∧ findSym l n (firstF (cntOf l) n + k) = some s := by
  obtain ⟨s, h1, h2, h3⟩ := cntTo_find l n k l.length (Nat.le_refl _) h
  have hs : 0 < ln l s := by omega
  refine ⟨s, hs, h2, by unfold rk; rw [h2, h3], ?_⟩
  have h4 := code_cnt h15 hs
  rw [h2, h3] at h4
  exact findSym_is h15 hn h2 h4

end Go.Proofs.Ytclfbdfgmeliaaa

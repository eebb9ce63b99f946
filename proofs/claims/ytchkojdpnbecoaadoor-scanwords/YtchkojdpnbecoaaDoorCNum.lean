/-
  What is read of a number's decimal.
-/
import Derived.Test.YtchkojdpnbecoaaDoorCHelp
namespace Go.Proofs.YtchkojdpnbecoaaDoor
open Go.RowKit

/-- The number of digits, by Horner. -/
def hL (v : Nat) (l : List Nat) : Nat := l.foldl (fun a x => 10 * a + (x - 48)) v
theorem hL_ge : ∀ (l : List Nat) (v : Nat), v ≤ hL v l
  | [], v => Nat.le_refl _
  | x :: l, v => by
    have := hL_ge l (10 * v + (x - 48))
    show v ≤ hL (10 * v + (x - 48)) l
    omega
theorem hL_dec (n : Nat) : hL 0 (decL n) = n := by
  induction n using Nat.strongRecOn with
  | ind n ih =>
  by_cases h : n < 10
  · rw [decL_small n h]
    show 10 * 0 + (48 + n - 48) = n
    omega
  · have := ih (n / 10) (by omega)
    rw [decL_big n h]
    unfold hL at this ⊢
    rw [List.foldl_append, this]
    show 10 * (n / 10) + (48 + n % 10 - 48) = n
    omega
theorem decL_dig (n : Nat) : ∀ x ∈ decL n, isDig x = true := by
  induction n using Nat.strongRecOn with
  | ind n ih =>
  intro x hx
  by_cases h : n < 10
  · rw [decL_small n h] at hx
    simp only [List.mem_cons, List.not_mem_nil, or_false] at hx
    subst hx
    unfold isDig
    rw [decide_eq_true (by omega), decide_eq_true (by omega)]
    rfl
  · rw [decL_big n h, List.mem_append] at hx
    rcases hx with hx | hx
    · exact ih (n / 10) (by omega) x hx
    · simp only [List.mem_cons, List.not_mem_nil, or_false] at hx
      subst hx
      unfold isDig
      rw [decide_eq_true (by omega), decide_eq_true (by omega)]
      rfl
theorem decL_pos (n : Nat) : 0 < (decL n).length := by
  by_cases h : n < 10
  · rw [decL_small n h]; exact Nat.one_pos
  · rw [decL_big n h, List.length_append]; exact Nat.lt_of_lt_of_le Nat.one_pos (Nat.le_add_left _ _)
theorem decL_head (n : Nat) : 1 < (decL n).length → (decL n).getD 0 0 ≠ 48 := by
  induction n using Nat.strongRecOn with
  | ind n ih =>
  intro h1
  by_cases h : n < 10
  · rw [decL_small n h] at h1
    exact absurd h1 (by simp)
  · rw [decL_big n h]
    have hp := decL_pos (n / 10)
    rw [List.getD_eq_getElem?_getD, List.getElem?_append_left hp, ← List.getD_eq_getElem?_getD]
    by_cases h2 : n / 10 < 10
    · rw [decL_small _ h2]
      show 48 + n / 10 ≠ 48
      omega
    · refine ih (n / 10) (by omega) ?_
      rw [decL_big _ h2, List.length_append]
      have := decL_pos (n / 10 / 10)
      show 1 < _ + 1
      omega

/-- A text bears these bytes from there on. -/
def Bears (s : ByteArray) (i : Nat) (l : List Nat) : Prop := ∀ j, j < l.length → chAt s (i + j) = l.getD j 0
theorem Bears.head {s : ByteArray} {i x : Nat} {l : List Nat} (h : Bears s i (x :: l)) : chAt s i = x := h 0 (Nat.succ_pos _)
theorem Bears.tail {s : ByteArray} {i x : Nat} {l : List Nat} (h : Bears s i (x :: l)) : Bears s (i + 1) l := fun j hj => by
  have := h (j + 1) (Nat.succ_lt_succ hj)
  rw [show i + 1 + j = i + (j + 1) by omega]
  exact this
theorem digN_bears (s : ByteArray) : ∀ (l : List Nat) (i k : Nat), Bears s i l → (∀ x ∈ l, isDig x = true) → l.length ≤ k → (l.length = k ∨ isDig (chAt s (i + l.length)) = false) → digN s i k = l.length
  | [], i, k, _, _, _, h => by
    match k, h with
    | 0, _ => rfl
    | k + 1, .inr h => rw [digN, if_neg (by rw [show i = i + ([] : List Nat).length from rfl, h]; exact Bool.false_ne_true)]; rfl
  | x :: l, i, k, hb, hd, hk, h => by
    match k, hk with
    | k + 1, hk =>
      have h1 := digN_bears s l (i + 1) k hb.tail (fun y hy => hd y (List.mem_cons_of_mem _ hy)) (Nat.le_of_succ_le_succ hk) (by
        rcases h with h | h
        · exact .inl (Nat.succ.inj h)
        · exact .inr (by rw [show i + 1 + l.length = i + (x :: l).length by simp only [List.length_cons]; omega]; exact h))
      rw [digN, if_pos (by rw [hb.head]; exact hd x (List.mem_cons_self ..)), h1]
      rfl
theorem numVal_bears (s : ByteArray) (pos most : Nat) : ∀ (l : List Nat) (i v : Nat), Bears s (pos + i) l → v ≤ most → numVal s pos most i v l.length = if hL v l ≤ most then some (hL v l) else none
  | [], i, v, _, hv => by rw [show hL v [] = v from rfl, if_pos hv]; rfl
  | x :: l, i, v, hb, hv => by
    rw [List.length_cons, numVal, hb.head, show hL v (x :: l) = hL (10 * v + (x - 48)) l from rfl]
    by_cases h : most < 10 * v + (x - 48)
    · rw [if_pos (by omega), if_neg (by have := hL_ge l (10 * v + (x - 48)); omega)]
    · rw [if_neg (by omega)]
      exact numVal_bears s pos most l (i + 1) _ (by rw [← Nat.add_assoc]; exact hb.tail) (by omega)
theorem scMove_plain (s : ByteArray) : ∀ (l : List Nat) (c : Sc), Bears s c.pos l → (∀ x ∈ l, x ≠ 10) → scMove s c l.length = { c with pos := c.pos + l.length, col := c.col + l.length }
  | [], c, _, _ => rfl
  | x :: l, c, hb, hn => by
    have h1 : scStep s c = { c with pos := c.pos + 1, col := c.col + 1 } := by
      unfold scStep
      rw [if_neg (by rw [hb.head]; exact hn x (List.mem_cons_self ..))]
    rw [List.length_cons, scMove, h1, scMove_plain s l _ hb.tail (fun y hy => hn y (List.mem_cons_of_mem _ hy))]
    simp only [Sc.mk.injEq, true_and, and_true]
    omega
theorem isDig_ne {x : Nat} (h : isDig x = true) : x ≠ 10 := by
  unfold isDig at h
  rw [Bool.and_eq_true, decide_eq_true_iff, decide_eq_true_iff] at h
  omega
/-- A text that begins with a number's decimal, where no digit follows. -/
def Heads (s : ByteArray) (v : Nat) : Prop := Bears s 0 (decL v) ∧ (decL v).length ≤ s.size ∧ ((decL v).length = s.size ∨ isDig (chAt s (decL v).length) = false)
theorem Heads.digs {s : ByteArray} {v : Nat} (h : Heads s v) : scDigs s ⟨0, 1, 1, 0⟩ = (decL v).length :=
  digN_bears s (decL v) 0 _ h.1 (decL_dig v) h.2.1 (h.2.2.imp (fun h => by rw [h]; rfl) (fun h => by rw [Nat.zero_add]; exact h))
theorem Heads.form {s : ByteArray} {v : Nat} (h : Heads s v) : ¬ (scDigs s ⟨0, 1, 1, 0⟩ = 0 ∧ (⟨0, 1, 1, 0⟩ : Sc).pos = s.size) ∧ ¬ (scDigs s ⟨0, 1, 1, 0⟩ = 0 ∨ 1 < scDigs s ⟨0, 1, 1, 0⟩ ∧ chAt s (⟨0, 1, 1, 0⟩ : Sc).pos = 48) := by
  have h1 := h.digs
  have h2 := decL_pos v
  have h3 := decL_head v
  have h4 := h.1 0 h2
  rw [h1]
  refine ⟨fun h => by omega, fun h => ?_⟩
  rcases h with h | ⟨h, h5⟩
  · omega
  · exact h3 h (by rw [← h4]; exact h5)
theorem Heads.reads {s : ByteArray} {v most : Nat} (h : Heads s v) (hm : v ≤ most) : scNumVal s most ⟨0, 1, 1, 0⟩ = v ∧ scNum s most ⟨0, 1, 1, 0⟩ = ⟨(decL v).length, 1, (decL v).length + 1, 0⟩ := by
  have h1 := numVal_bears s 0 most (decL v) 0 0 h.1 (Nat.zero_le _)
  rw [hL_dec, if_pos hm] at h1
  unfold scNumVal scNum
  rw [if_pos rfl, if_pos rfl, if_neg h.form.1, if_neg h.form.2, if_neg h.form.1, if_neg h.form.2, h.digs, h1]
  refine ⟨rfl, ?_⟩
  show scMove s _ _ = _
  rw [scMove_plain s (decL v) _ h.1 (fun x hx => isDig_ne (decL_dig v x hx))]
  simp only [Sc.mk.injEq, true_and, and_true]
  omega
theorem Heads.long {s : ByteArray} {v most : Nat} (h : Heads s v) (hm : most < v) : scNumVal s most ⟨0, 1, 1, 0⟩ = 0 ∧ scNum s most ⟨0, 1, 1, 0⟩ = ⟨0, 1, 1, 22⟩ := by
  have h1 := numVal_bears s 0 most (decL v) 0 0 h.1 (Nat.zero_le _)
  rw [hL_dec, if_neg (by omega)] at h1
  unfold scNumVal scNum
  rw [if_pos rfl, if_pos rfl, if_neg h.form.1, if_neg h.form.2, if_neg h.form.1, if_neg h.form.2, h.digs, h1]
  exact ⟨rfl, rfl⟩
theorem chAt_append (a b : ByteArray) (i : Nat) : chAt (a ++ b) i = if i < a.size then chAt a i else chAt b (i - a.size) := by
  unfold chAt
  split
  case isTrue h =>
    rw [show (a ++ b)[i]? = a[i]? by
      rw [ByteArray.getElem?_lt' _ i (by rw [ByteArray.size_append]; omega), ByteArray.getElem?_lt' _ i h, ByteArray.getElem_append_left h]]
  case isFalse h =>
    by_cases h2 : i - a.size < b.size
    · rw [show (a ++ b)[i]? = b[i - a.size]? by
        rw [ByteArray.getElem?_lt' _ i (by rw [ByteArray.size_append]; omega), ByteArray.getElem?_lt' _ _ h2, ByteArray.getElem_append_right (by omega)]]
    · rw [show (a ++ b)[i]? = none by
        rw [getElem?_neg (a ++ b) i (by rw [ByteArray.size_append]; omega)], getElem?_neg b (i - a.size) h2]
theorem decL_lt (n : Nat) : ∀ x ∈ decL n, x < 256 := fun x hx => by
  have := decL_dig n x hx
  unfold isDig at this
  rw [Bool.and_eq_true, decide_eq_true_iff, decide_eq_true_iff] at this
  omega
/-- The decimal, and something behind it. -/
theorem heads_dec (v : Nat) (m : ByteArray) (hm : m.size = 0 ∨ isDig (chAt m 0) = false) : Heads (strOf (decL v) ++ m) v := by
  refine ⟨fun j hj => ?_, ?_, ?_⟩
  · rw [chAt_append, if_pos (by rw [strOf_length]; omega), Nat.zero_add]
    exact chAt_strOf _ _ hj (decL_lt v)
  · rw [ByteArray.size_append, strOf_length]
    omega
  · rcases hm with hm | hm
    · left
      rw [ByteArray.size_append, strOf_length, hm]
      rfl
    · right
      rw [chAt_append, strOf_length, if_neg (by omega), Nat.sub_self]
      exact hm
/-- A nought ahead of a digit. -/
theorem nought_dec (v most : Nat) : scNum (strOf [48] ++ strOf (decL v)) most ⟨0, 1, 1, 0⟩ = ⟨0, 1, 1, 21⟩ := by
  obtain ⟨s, hs⟩ : ∃ s, s = strOf [48] ++ strOf (decL v) := ⟨_, rfl⟩
  have hsz : s.size = 1 + (decL v).length := by rw [hs, ByteArray.size_append, strOf_length, strOf_length]; rfl
  have hp := decL_pos v
  have hb : Bears s 0 (48 :: decL v) := fun j hj => by
    rw [hs, strOf_append, Nat.zero_add]
    refine chAt_strOf _ _ hj (fun x hx => ?_)
    rcases List.mem_cons.mp hx with rfl | hx
    · decide
    · exact decL_lt v x hx
  have hd := digN_bears s (48 :: decL v) 0 (s.size - 0) hb (fun x hx => by
    rcases List.mem_cons.mp hx with rfl | hx
    · decide
    · exact decL_dig v x hx) (by rw [hsz, List.length_cons]; omega) (.inl (by rw [hsz, List.length_cons]; omega))
  rw [← hs]
  unfold scNum
  have hd' : scDigs s ⟨0, 1, 1, 0⟩ = (decL v).length + 1 := hd
  rw [if_pos rfl, hd', if_neg (by omega), if_pos (.inr ⟨by omega, hb.head⟩)]

end Go.Proofs.YtchkojdpnbecoaaDoor

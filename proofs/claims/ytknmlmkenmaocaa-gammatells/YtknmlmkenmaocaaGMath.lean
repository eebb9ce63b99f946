/-
  Elias's gamma: plain mathematics, no program.
-/
import Derived.Test.YtknmlmkenmaocaaBStr
namespace Go.Proofs.Ytknmlmkenmaocaa

/-- How many bits a number has behind its highest 1. -/
def hi (v : Nat) : Nat := Nat.log2 v
theorem hi_step (v : Nat) (h : 1 < v) : hi v = hi (v / 2) + 1 := by
  unfold hi
  rw [Nat.log2_def, if_pos (by omega)]
theorem hi_small (v : Nat) (h : v ≤ 1) : hi v = 0 := by
  unfold hi
  rw [Nat.log2_def, if_neg (by omega)]
theorem hi_le (v : Nat) (h : v ≠ 0) : 2 ^ hi v ≤ v := Nat.log2_self_le h
theorem hi_lt (v : Nat) : v < 2 ^ (hi v + 1) := Nat.lt_log2_self
theorem hi_63 (v : Nat) (h : v < 18446744073709551616) : hi v ≤ 63 := by
  by_cases h0 : v = 0
  · rw [hi_small v (by omega)]; omega
  · have := (Nat.log2_lt (k := 64) h0).2 (by omega)
    unfold hi; omega
theorem hi_mono (a b : Nat) (h : a ≤ b) (ha : a ≠ 0) : hi a ≤ hi b := by
  have h1 := hi_le a ha
  have h2 := hi_lt b
  have h3 : 2 ^ hi a < 2 ^ (hi b + 1) := by omega
  have := (Nat.pow_lt_pow_iff_right (a := 2) (by omega)).1 h3
  omega

/-- The bits of a number's gamma. -/
def gbits (v : Nat) : List Bool := if v = 0 then [] else putBits 0 (hi v) ++ putBits v (hi v + 1)
def gsize (v : Nat) : Nat := if v = 0 then 0 else 2 * hi v + 1
theorem length_gbits (v : Nat) : (gbits v).length = gsize v := by
  unfold gbits gsize
  split
  · rfl
  · rw [List.length_append, length_putBits, length_putBits]; omega
theorem gsize_le (v : Nat) (h : v < 18446744073709551616) : gsize v ≤ 127 := by
  have := hi_63 v h
  unfold gsize; split <;> omega
theorem gsize_mono (a b : Nat) (h : a ≤ b) : gsize a ≤ gsize b := by
  unfold gsize
  by_cases ha : a = 0
  · rw [if_pos ha]; omega
  · have := hi_mono a b h ha
    rw [if_neg ha, if_neg (by omega)]; omega

/-- How many 0 stand ahead. -/
def lead : List Bool → Nat
  | [] => 0
  | true :: _ => 0
  | false :: l => lead l + 1
theorem lead_le (l : List Bool) : lead l ≤ l.length := by
  induction l with
  | nil => simp [lead]
  | cons b l ih => cases b <;> simp [lead]; exact ih
theorem lead_zeros (n : Nat) (l : List Bool) : lead (List.replicate n false ++ l) = n + lead l := by
  induction n with
  | zero => simp
  | succ n ih => rw [List.replicate_succ, List.cons_append, lead, ih]; omega
/-- So many bits ahead are 0. -/
theorem lead_next (l : List Bool) (n : Nat) (hn : n ≤ lead l) (hl : n < l.length) : (l[n]? = some true ∧ lead l = n) ∨ (l[n]? = some false ∧ n + 1 ≤ lead l) := by
  induction l generalizing n with
  | nil => simp at hl
  | cons b l ih =>
    cases n with
    | zero => cases b <;> simp [lead]
    | succ n =>
      cases b
      · simp only [lead, List.length_cons] at hn hl ⊢
        rcases ih n (by omega) (by omega) with ⟨h1, h2⟩ | ⟨h1, h2⟩
        · exact .inl ⟨by simpa using h1, by omega⟩
        · exact .inr ⟨by simpa using h1, by omega⟩
      · simp [lead] at hn

/-- What is taken of bits: if there is a number, which, and how many bits. -/
def gok (l : List Bool) : Bool := decide (lead l ≤ 63 ∧ 2 * lead l + 1 ≤ l.length)
def gval (l : List Bool) : Nat := if gok l = true then 2 ^ lead l + num ((l.drop (lead l + 1)).take (lead l)) else 0
def glen (l : List Bool) : Nat := if gok l = true then 2 * lead l + 1 else 0

theorem putBits_zero (n : Nat) : putBits 0 n = List.replicate n false := by
  induction n with
  | zero => rfl
  | succ n ih => rw [putBits, ih, List.replicate_succ]; simp
theorem putBits_hi (v : Nat) (h : v ≠ 0) : putBits v (hi v + 1) = true :: putBits v (hi v) := by
  rw [putBits]
  congr 1
  have h1 := hi_le v h
  have h2 := hi_lt v
  rw [Nat.testBit_eq_decide_div_mod_eq]
  have h3 : v / 2 ^ hi v = 1 := by
    have hp : 0 < 2 ^ hi v := Nat.two_pow_pos _
    rw [Nat.pow_succ] at h2
    apply Nat.le_antisymm
    · have := (Nat.div_lt_iff_lt_mul hp (x := v) (y := 2)).2 (by omega)
      omega
    · exact (Nat.le_div_iff_mul_le hp).2 (by omega)
  rw [h3]; rfl
theorem gbits_eq (v : Nat) (h : v ≠ 0) : gbits v = List.replicate (hi v) false ++ true :: putBits v (hi v) := by
  rw [gbits, if_neg h, putBits_zero, putBits_hi v h]
theorem lead_gbits (v : Nat) (h : v ≠ 0) (r : List Bool) : lead (gbits v ++ r) = hi v := by
  rw [gbits_eq v h, List.append_assoc, lead_zeros]; simp [lead]

theorem gtake_gbits (v : Nat) (h : v ≠ 0) (hv : v < 18446744073709551616) (r : List Bool) : gok (gbits v ++ r) = true ∧ gval (gbits v ++ r) = v ∧ glen (gbits v ++ r) = gsize v := by
  have hl := lead_gbits v h r
  have h63 := hi_63 v hv
  have hs : gsize v = 2 * hi v + 1 := by unfold gsize; rw [if_neg h]
  have hok : gok (gbits v ++ r) = true := by
    unfold gok
    rw [hl, List.length_append, length_gbits, hs]
    exact decide_eq_true ⟨h63, by omega⟩
  refine ⟨hok, ?_, ?_⟩
  · unfold gval
    rw [if_pos hok, hl]
    have e : (gbits v ++ r).drop (hi v + 1) = putBits v (hi v) ++ r := by
      rw [gbits_eq v h]
      have : List.replicate (hi v) false ++ true :: putBits v (hi v) ++ r = (List.replicate (hi v) false ++ [true]) ++ (putBits v (hi v) ++ r) := by simp
      rw [this]
      exact List.drop_left' (by simp)
    rw [e, List.take_left' (length_putBits _ _), num_putBits]
    have h1 := hi_le v h
    have h2 := hi_lt v
    rw [Nat.pow_succ] at h2
    have : v % 2 ^ hi v = v - 2 ^ hi v := by
      rw [Nat.mod_eq_sub_mod h1, Nat.mod_eq_of_lt (by omega)]
    omega
  · unfold glen
    rw [if_pos hok, hl, hs]

/-- What ends within a number is none. -/
theorem gtake_cut (v : Nat) (h : v ≠ 0) (j : Nat) (hj : j < gsize v) : gok ((gbits v).take j) = false := by
  have hs : gsize v = 2 * hi v + 1 := by unfold gsize; rw [if_neg h]
  unfold gok
  apply decide_eq_false
  rintro ⟨_, h2⟩
  rw [List.length_take, length_gbits, Nat.min_eq_left (by omega)] at h2
  by_cases hc : j ≤ hi v
  · have e : (gbits v).take j = List.replicate j false ++ [] := by
      rw [gbits_eq v h, List.take_append_of_le_length (by simp; omega), List.take_replicate, Nat.min_eq_left hc, List.append_nil]
    rw [e, lead_zeros] at h2
    omega
  · have e : (gbits v).take j = List.replicate (hi v) false ++ true :: (putBits v (hi v)).take (j - hi v - 1) := by
      rw [gbits_eq v h, List.take_append, List.take_replicate, List.length_replicate, Nat.min_eq_right (by omega)]
      obtain ⟨d, hd⟩ : ∃ d, j - hi v = d + 1 := ⟨j - hi v - 1, by omega⟩
      rw [hd]; simp
    rw [e, lead_zeros] at h2
    simp [lead] at h2
    omega

/-- The bits that are left. -/
def rest (bs : List Nat) (i : Nat) : List Bool := (unpack bs).drop i
theorem length_rest (bs : List Nat) (i : Nat) : (rest bs i).length = 8 * bs.length - i := by unfold rest; rw [List.length_drop, length_unpack]
theorem rest_rest (bs : List Nat) (i j : Nat) : rest bs (i + j) = (rest bs i).drop j := by unfold rest; rw [List.drop_drop]
theorem num_one (l : List Bool) (b : Bool) (n : Nat) (h : l[n]? = some b) : num ((l.drop n).take 1) = b.toNat := by
  have e : (l.drop n).take 1 = [b] := by
    rw [List.take_one, List.head?_drop, h]; rfl
  rw [e, num_cons]; simp [num, numFrom]
theorem glen_le (l : List Bool) : glen l ≤ l.length := by
  unfold glen
  split
  · rename_i h
    have := of_decide_eq_true h
    omega
  · omega

end Go.Proofs.Ytknmlmkenmaocaa

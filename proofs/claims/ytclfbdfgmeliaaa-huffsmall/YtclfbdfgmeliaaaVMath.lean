/-
  Numbers as bytes, seven bits each: plain mathematics, no program.
-/
namespace Go.Proofs.Ytclfbdfgmeliaaa

/-- A number's bytes: seven bits each from the lowest on; all but the last one have their highest bit 1. -/
def enc (v : Nat) : List Nat := if _h : v < 128 then [v] else (v % 128 + 128) :: enc (v / 128)
termination_by v
decreasing_by omega

def encs (l : List Nat) : List Nat := l.flatMap enc

theorem enc_small (v : Nat) (h : v < 128) : enc v = [v] := by rw [enc]; simp [h]
theorem enc_big (v : Nat) (h : 128 ≤ v) : enc v = (v % 128 + 128) :: enc (v / 128) := by rw [enc]; simp [show ¬ v < 128 by omega]

theorem encs_snoc (l : List Nat) (v : Nat) : encs (l ++ [v]) = encs l ++ enc v := by simp [encs]
theorem encs_nil : encs [] = [] := rfl
theorem encs_cons (v : Nat) (l : List Nat) : encs (v :: l) = enc v ++ encs l := by simp [encs]

/-- How a number's bytes look: all but the last one high, the last one low. -/
structure Form (v : Nat) (hs : List Nat) (y : Nat) : Prop where
  eq : enc v = hs ++ [y]
  high : ∀ h ∈ hs, 128 ≤ h ∧ h < 256
  low : y < 128
  zero : y = 0 → hs = []
  top : y = v / 2 ^ (7 * hs.length)
  least : hs ≠ [] → 2 ^ (7 * hs.length) ≤ v

theorem form (v : Nat) : ∃ hs y, Form v hs y := by
  by_cases h : v < 128
  · exact ⟨[], v, by rw [enc_small v h]; rfl, by simp, h, fun _ => rfl, by simp, by simp⟩
  · obtain ⟨hs, y, f⟩ := form (v / 128)
    have e : 2 ^ (7 * (hs.length + 1)) = 128 * 2 ^ (7 * hs.length) := by rw [Nat.mul_add, Nat.pow_add, Nat.mul_comm]
    refine ⟨(v % 128 + 128) :: hs, y, by rw [enc_big v (by omega), f.eq]; rfl, ?_, f.low, ?_, ?_, ?_⟩
    · intro x hx
      rcases List.mem_cons.1 hx with rfl | hx
      · omega
      · exact f.high x hx
    · intro h0
      have h1 := f.zero h0
      have h2 := f.top
      subst h1
      simp at h2
      omega
    · rw [List.length_cons, e, f.top, Nat.div_div_eq_div_mul]
    · intro _
      rw [List.length_cons, e]
      by_cases hn : hs = []
      · subst hn; simp; omega
      · have := f.least hn
        omega
termination_by v
decreasing_by omega

theorem Form.len {v : Nat} {hs : List Nat} {y : Nat} (f : Form v hs y) : (enc v).length = hs.length + 1 := by rw [f.eq]; simp

theorem Form.nine {v : Nat} {hs : List Nat} {y : Nat} (f : Form v hs y) (hv : v < 18446744073709551616) : hs.length ≤ 9 ∧ (hs.length = 9 → y ≤ 1) := by
  have h1 : hs.length ≤ 9 := by
    by_cases hn : hs = []
    · subst hn; simp
    · have h := f.least hn
      by_cases h9 : hs.length ≤ 9
      · exact h9
      · have : (2 : Nat) ^ (7 * 10) ≤ 2 ^ (7 * hs.length) := Nat.pow_le_pow_right (by omega) (by omega)
        have : (2 : Nat) ^ (7 * 10) = 1180591620717411303424 := by decide
        omega
  refine ⟨h1, fun h9 => ?_⟩
  have := f.top
  rw [h9] at this
  have e : (2 : Nat) ^ (7 * 9) = 9223372036854775808 := by decide
  rw [e] at this
  omega

theorem enc_pos (v : Nat) : 0 < (enc v).length := by
  obtain ⟨hs, y, f⟩ := form v
  rw [f.len]; omega
theorem enc_le (v : Nat) (hv : v < 18446744073709551616) : (enc v).length ≤ 10 := by
  obtain ⟨hs, y, f⟩ := form v
  rw [f.len]; have := (f.nine hv).1; omega
theorem enc_bytes (v : Nat) : ∀ x ∈ enc v, x < 256 := by
  obtain ⟨hs, y, f⟩ := form v
  intro x hx
  rw [f.eq] at hx
  rcases List.mem_append.1 hx with h | h
  · exact (f.high x h).2
  · simp at h; have := f.low; omega
theorem encs_bytes (l : List Nat) : ∀ x ∈ encs l, x < 256 := by
  intro x hx
  simp only [encs, List.mem_flatMap] at hx
  obtain ⟨v, _, hv⟩ := hx
  exact enc_bytes v x hv
theorem encs_le (l : List Nat) (h : ∀ v ∈ l, v < 18446744073709551616) : (encs l).length ≤ 10 * l.length := by
  induction l with
  | nil => simp [encs]
  | cons v l ih =>
    rw [encs_cons, List.length_append, List.length_cons]
    have h1 := enc_le v (h v (by simp))
    have h2 := ih (fun u hu => h u (by simp [hu]))
    omega

/-- Where a number ends, or what is wrong: at byte i. -/
def lenFrom : Nat → List Nat → Nat × Nat
  | _, [] => (0, 20)
  | i, x :: xs => if i = 9 ∧ 1 < x then (0, 21) else if 128 ≤ x then lenFrom (i + 1) xs else if x = 0 ∧ 0 < i then (0, 21) else (i + 1, 0)

/-- The number that the first k bytes are. -/
def val (bs : List Nat) : Nat → Nat
  | 0 => 0
  | k + 1 => val bs k + (bs.getD k 0 % 128) * 2 ^ (7 * k)

theorem val_lt (bs : List Nat) (k : Nat) : val bs k < 2 ^ (7 * k) := by
  induction k with
  | zero => simp [val]
  | succ k ih =>
    have e : 2 ^ (7 * (k + 1)) = 128 * 2 ^ (7 * k) := by rw [Nat.mul_add, Nat.pow_add, Nat.mul_comm]
    have h : bs.getD k 0 % 128 * 2 ^ (7 * k) ≤ 127 * 2 ^ (7 * k) := Nat.mul_le_mul_right _ (by omega)
    rw [val, e]
    omega

theorem val_or (bs : List Nat) (k : Nat) : val bs k ||| (bs.getD k 0 % 128) * 2 ^ (7 * k) = val bs (k + 1) := by
  rw [val, Nat.add_comm, Nat.mul_comm, Nat.or_comm]
  exact (Nat.two_pow_add_eq_or_of_lt (val_lt bs k) _).symm

theorem val_congr (a b : List Nat) (k : Nat) (h : ∀ j, j < k → a.getD j 0 = b.getD j 0) : val a k = val b k := by
  induction k with
  | zero => rfl
  | succ k ih => rw [val, val, ih (fun j hj => h j (by omega)), h k (by omega)]

theorem val_cons (x : Nat) (bs : List Nat) (k : Nat) : val (x :: bs) (k + 1) = x % 128 + 128 * val bs k := by
  induction k with
  | zero => simp [val]
  | succ k ih =>
    rw [val, ih, val]
    have e : 2 ^ (7 * (k + 1)) = 128 * 2 ^ (7 * k) := by rw [Nat.mul_add, Nat.pow_add, Nat.mul_comm]
    have e2 : (x :: bs).getD (k + 1) 0 = bs.getD k 0 := by simp
    rw [e, e2, Nat.mul_add, Nat.mul_left_comm]
    omega

theorem val_enc (v : Nat) (r : List Nat) : val (enc v ++ r) (enc v).length = v := by
  by_cases h : v < 128
  · rw [enc_small v h]
    simp [val]; omega
  · have ih := val_enc (v / 128) r
    rw [enc_big v (by omega), List.length_cons, List.cons_append, val_cons, ih]
    omega
termination_by v
decreasing_by omega

/-- What a number's beginning tells: the number, how many bytes it is, what is wrong. -/
def took (bs : List Nat) (most : Nat) : Nat × Nat × Nat :=
  if (lenFrom 0 bs).2 ≠ 0 then (0, 0, (lenFrom 0 bs).2) else if most < val bs (lenFrom 0 bs).1 then (0, 0, 22) else (val bs (lenFrom 0 bs).1, (lenFrom 0 bs).1, 0)

theorem lenFrom_high (hs r : List Nat) (i : Nat) (hh : ∀ h ∈ hs, 128 ≤ h ∧ h < 256) (hi : i + hs.length ≤ 9) : lenFrom i (hs ++ r) = lenFrom (i + hs.length) r := by
  induction hs generalizing i with
  | nil => rfl
  | cons h hs ih =>
    have h1 := hh h (by simp)
    rw [List.length_cons] at hi ⊢
    rw [List.cons_append, lenFrom, if_neg (by omega), if_pos h1.1, ih (i + 1) (fun x hx => hh x (by simp [hx])) (by omega)]
    congr 1
    omega

theorem lenFrom_enc (v : Nat) (r : List Nat) (hv : v < 18446744073709551616) : lenFrom 0 (enc v ++ r) = ((enc v).length, 0) := by
  obtain ⟨hs, y, f⟩ := form v
  have h9 := f.nine hv
  have hl := f.low
  rw [f.len, f.eq, List.append_assoc, lenFrom_high hs _ 0 f.high (by omega)]
  rw [List.cons_append, lenFrom, if_neg (by intro h; have := h9.2 (by omega); omega), if_neg (by omega), if_neg ?_]
  · simp
  · intro h
    have := f.zero h.1
    subst this
    simp at h

theorem lenFrom_cut (v k : Nat) (hv : v < 18446744073709551616) (hk : k < (enc v).length) (r : List Nat) : lenFrom 0 ((enc v ++ r).take k) = (0, 20) := by
  obtain ⟨hs, y, f⟩ := form v
  have h9 := f.nine hv
  rw [f.len] at hk
  have e : (enc v ++ r).take k = hs.take k ++ [] := by
    rw [f.eq, List.append_assoc, List.take_append_of_le_length (by omega)]; simp
  rw [e, lenFrom_high _ _ 0 (fun h hh => f.high h (List.mem_of_mem_take hh)) (by simp; omega)]
  rfl

/-- Bytes that are all high, and a 0 behind them, are no number. -/
theorem lenFrom_zero (hs : List Nat) (i : Nat) (hh : ∀ h ∈ hs, 128 ≤ h ∧ h < 256) (hi : 0 < i + hs.length) : lenFrom i (hs ++ [0]) = (0, 21) := by
  induction hs generalizing i with
  | nil =>
    simp at hi
    simp [lenFrom, hi]
  | cons h hs ih =>
    have h1 := hh h (by simp)
    rw [List.cons_append, lenFrom]
    split
    · rfl
    · rw [if_pos h1.1, ih (i + 1) (fun x hx => hh x (by simp [hx])) (by omega)]

theorem took_enc (v m : Nat) (r : List Nat) (hv : v < 18446744073709551616) (hm : v ≤ m) : took (enc v ++ r) m = (v, (enc v).length, 0) := by
  unfold took
  rw [lenFrom_enc v r hv]
  simp only [val_enc]
  rw [if_neg (by simp), if_neg (by omega)]
theorem took_long (v m : Nat) (r : List Nat) (hv : v < 18446744073709551616) (hm : m < v) : took (enc v ++ r) m = (0, 0, 22) := by
  unfold took
  rw [lenFrom_enc v r hv]
  simp only [val_enc]
  rw [if_neg (by simp), if_pos hm]
theorem took_cut (v k m : Nat) (hv : v < 18446744073709551616) (hk : k < (enc v).length) (r : List Nat) : took ((enc v ++ r).take k) m = (0, 0, 20) := by
  unfold took
  rw [lenFrom_cut v k hv hk r]
  rfl

/-- Of a number that is found: where it ends, and that its tenth byte is 0 or 1. -/
theorem lenFrom_ok (bs : List Nat) (i : Nat) (hi : i ≤ 9) (h : (lenFrom i bs).2 = 0) : i < (lenFrom i bs).1 ∧ (lenFrom i bs).1 ≤ i + bs.length ∧ (lenFrom i bs).1 ≤ 10 ∧ (i + bs.length ≤ 9 ∨ (lenFrom i bs).1 ≤ 9 ∨ bs.getD (9 - i) 0 ≤ 1) := by
  induction bs generalizing i with
  | nil => simp [lenFrom] at h
  | cons x xs ih =>
    rw [lenFrom] at h ⊢
    by_cases h1 : i = 9 ∧ 1 < x
    · rw [if_pos h1] at h; simp at h
    · rw [if_neg h1] at h ⊢
      by_cases h2 : 128 ≤ x
      · rw [if_pos h2] at h ⊢
        have h9 : i ≠ 9 := by intro e; exact h1 ⟨e, by omega⟩
        obtain ⟨a, b, c, d⟩ := ih (i + 1) (by omega) h
        refine ⟨by omega, by simp; omega, c, ?_⟩
        have e : (x :: xs).getD (9 - i) 0 = xs.getD (9 - (i + 1)) 0 := by
          rw [show 9 - i = (9 - (i + 1)) + 1 by omega]; simp
        rw [e, List.length_cons]
        omega
      · rw [if_neg h2] at h ⊢
        by_cases h3 : x = 0 ∧ 0 < i
        · rw [if_pos h3] at h; simp at h
        · rw [if_neg h3]
          refine ⟨by simp, by simp, by simp; omega, ?_⟩
          by_cases h9 : i = 9
          · subst h9
            right; right; simp; omega
          · right; left; simp; omega

theorem took_small (bs : List Nat) (m : Nat) (hm : m < 18446744073709551616) : (took bs m).1 < 18446744073709551616 := by
  unfold took
  split
  · simp
  · split
    · simp
    · simp; omega

end Go.Proofs.Ytclfbdfgmeliaaa

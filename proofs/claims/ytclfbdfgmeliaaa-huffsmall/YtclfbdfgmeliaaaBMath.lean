/-
  Bits, bytes and numbers: plain mathematics, no program.
-/
namespace Go.Proofs.Ytclfbdfgmeliaaa

/-- Bit i of bytes, of each byte from the lowest on. -/
def bitAt (bs : List Nat) (i : Nat) : Bool := (bs.getD (i / 8) 0).testBit (i % 8)

/-- The bytes bs hold just the bits l, the last byte filled up with 0. -/
structure Packs (bs : List Nat) (l : List Bool) : Prop where
  len : bs.length = (l.length + 7) / 8
  small : ∀ j, bs.getD j 0 < 256
  bit : ∀ i, bitAt bs i = l.getD i false

theorem Packs.nil : Packs [] [] := ⟨rfl, fun j => by simp, fun i => by simp [bitAt]⟩

theorem testBit_small (x i : Nat) (hx : x < 256) (hi : 8 ≤ i) : x.testBit i = false := by
  apply Nat.testBit_lt_two_pow
  have : (2 : Nat) ^ 8 ≤ 2 ^ i := Nat.pow_le_pow_right (by omega) hi
  omega

theorem testBit_bool (b : Bool) (m i : Nat) : (b.toNat * 2 ^ m).testBit i = (b && decide (i = m)) := by
  cases b
  · simp
  · simp [Nat.testBit_two_pow]
    exact eq_comm

theorem bool_lt (b : Bool) (m : Nat) (hm : m < 8) : b.toNat * 2 ^ m < 256 := by
  have h2 : 2 ^ m ≤ 2 ^ 7 := Nat.pow_le_pow_right (by omega) (by omega)
  have h3 : b.toNat * 2 ^ m ≤ 1 * 2 ^ 7 := Nat.mul_le_mul (by cases b <;> simp) h2
  omega

theorem or_lt (x y : Nat) (hx : x < 256) (hy : y < 256) : x ||| y < 256 := Nat.or_lt_two_pow (n := 8) hx hy

theorem getD_set_nat (l : List Nat) (i j x : Nat) (hi : i < l.length) : (l.set i x).getD j 0 = if j = i then x else l.getD j 0 := by
  simp only [List.getD_eq_getElem?_getD, List.getElem?_set]
  by_cases h : i = j
  · subst h; simp [hi]
  · simp [h, Ne.symm h]

theorem getD_snoc (l : List Bool) (b : Bool) (i : Nat) : (l ++ [b]).getD i false = if i = l.length then b else l.getD i false := by
  simp only [List.getD_eq_getElem?_getD, List.getElem?_append]
  by_cases h1 : i < l.length
  · rw [if_pos h1, if_neg (by omega)]
  · rw [if_neg h1]
    by_cases h2 : i = l.length
    · subst h2; simp
    · rw [if_neg h2, List.getElem?_eq_none (by omega : l.length ≤ i), List.getElem?_eq_none (by simp; omega)]

theorem Packs.addIn {bs : List Nat} {l : List Bool} (h : Packs bs l) (hm : l.length % 8 ≠ 0) (b : Bool) :
    Packs (bs.set (l.length / 8) (bs.getD (l.length / 8) 0 ||| b.toNat * 2 ^ (l.length % 8))) (l ++ [b]) := by
  have hl := h.len
  have hlt : l.length / 8 < bs.length := by omega
  refine ⟨by simp; omega, fun j => ?_, fun i => ?_⟩
  · rw [getD_set_nat _ _ _ _ hlt]
    split
    · exact or_lt _ _ (h.small _) (bool_lt _ _ (by omega))
    · exact h.small _
  · rw [getD_snoc]
    have hi := h.bit i
    unfold bitAt at hi ⊢
    rw [getD_set_nat _ _ _ _ hlt]
    by_cases h1 : i / 8 = l.length / 8
    · rw [if_pos h1, Nat.testBit_or, testBit_bool, ← h1, hi]
      by_cases h2 : i = l.length
      · subst h2; simp
      · have : i % 8 ≠ l.length % 8 := by omega
        simp [this, h2]
    · rw [if_neg h1, hi, if_neg (by intro e; subst e; exact h1 rfl)]

theorem Packs.addNew {bs : List Nat} {l : List Bool} (h : Packs bs l) (hm : l.length % 8 = 0) (b : Bool) :
    Packs (bs ++ [0 ||| b.toNat * 2 ^ (l.length % 8)]) (l ++ [b]) := by
  have hl := h.len
  have hlt : bs.length = l.length / 8 := by omega
  have hg : ∀ j, (bs ++ [0 ||| b.toNat * 2 ^ (l.length % 8)]).getD j 0 = if j = bs.length then (b.toNat * 2 ^ (l.length % 8)) else bs.getD j 0 := by
    intro j
    simp only [List.getD_eq_getElem?_getD, List.getElem?_append]
    by_cases h1 : j < bs.length
    · rw [if_pos h1, if_neg (by omega)]
    · rw [if_neg h1]
      by_cases h2 : j = bs.length
      · subst h2; simp
      · rw [if_neg h2, List.getElem?_eq_none (by omega : bs.length ≤ j), List.getElem?_eq_none (by simp; omega)]
  refine ⟨by simp; omega, fun j => ?_, fun i => ?_⟩
  · rw [hg]
    split
    · exact bool_lt _ _ (by omega)
    · exact h.small _
  · rw [getD_snoc]
    have hi := h.bit i
    unfold bitAt at hi ⊢
    rw [hg]
    by_cases h1 : i / 8 = bs.length
    · rw [if_pos h1, testBit_bool]
      by_cases h2 : i = l.length
      · subst h2; simp
      · have h3 : i % 8 ≠ l.length % 8 := by omega
        rw [if_neg h2, decide_eq_false h3]
        simp only [List.getD_eq_getElem?_getD]
        rw [List.getElem?_eq_none (by omega : l.length ≤ i)]
        simp
    · rw [if_neg h1, hi, if_neg (by intro e; subst e; omega)]

theorem eq_of_bits (x y : Nat) (hx : x < 256) (hy : y < 256) (h : ∀ i, i < 8 → x.testBit i = y.testBit i) : x = y := by
  apply Nat.eq_of_testBit_eq
  intro i
  by_cases hi : i < 8
  · exact h i hi
  · rw [testBit_small x i hx (by omega), testBit_small y i hy (by omega)]

theorem ext_bits (bs bs' : List Nat) (hl : bs.length = bs'.length) (h1 : ∀ j, bs.getD j 0 < 256) (h2 : ∀ j, bs'.getD j 0 < 256) (h : ∀ i, bitAt bs i = bitAt bs' i) : bs = bs' := by
  apply List.ext_getElem hl
  intro j hj hj'
  have e := eq_of_bits (bs.getD j 0) (bs'.getD j 0) (h1 j) (h2 j) (fun i hi => by
    have := h (8 * j + i)
    unfold bitAt at this
    rwa [show (8 * j + i) / 8 = j by omega, show (8 * j + i) % 8 = i by omega] at this)
  simpa [List.getD_eq_getElem?_getD, hj, hj'] using e

theorem Packs.eq {bs bs' : List Nat} {l : List Bool} (h : Packs bs l) (h' : Packs bs' l) : bs = bs' :=
  ext_bits bs bs' (h.len.trans h'.len.symm) h.small h'.small (fun i => (h.bit i).trans (h'.bit i).symm)

/-- The lowest n bits of v, the highest of these first. -/
def putBits (v : Nat) : Nat → List Bool
  | 0 => []
  | n + 1 => v.testBit n :: putBits v n

theorem length_putBits (v n : Nat) : (putBits v n).length = n := by
  induction n with
  | zero => rfl
  | succ n ih => simp [putBits, ih]

/-- Bits as a number, the first of them the highest, behind a. -/
def numFrom (a : Nat) (l : List Bool) : Nat := l.foldl (fun a b => 2 * a + b.toNat) a
def num (l : List Bool) : Nat := numFrom 0 l

theorem numFrom_eq (l : List Bool) : ∀ a, numFrom a l = a * 2 ^ l.length + num l := by
  induction l with
  | nil => intro a; simp [numFrom, num]
  | cons b l ih =>
    intro a
    have h1 := ih (2 * a + b.toNat)
    have h2 := ih (2 * 0 + b.toNat)
    have e1 : numFrom a (b :: l) = numFrom (2 * a + b.toNat) l := rfl
    have e2 : num (b :: l) = numFrom (2 * 0 + b.toNat) l := rfl
    rw [e1, e2, h1, h2, List.length_cons, Nat.pow_succ, Nat.add_mul, Nat.add_mul]
    have : 2 * a * 2 ^ l.length = a * (2 ^ l.length * 2) := by rw [Nat.mul_comm 2 a, Nat.mul_assoc, Nat.mul_comm 2]
    omega

theorem num_cons (b : Bool) (l : List Bool) : num (b :: l) = b.toNat * 2 ^ l.length + num l := by
  have : num (b :: l) = numFrom (2 * 0 + b.toNat) l := rfl
  rw [this, numFrom_eq]; simp

theorem num_lt (l : List Bool) : num l < 2 ^ l.length := by
  induction l with
  | nil => simp [num, numFrom]
  | cons b l ih =>
    rw [num_cons, List.length_cons, Nat.pow_succ]
    cases b <;> simp <;> omega

theorem num_snoc (l : List Bool) (b : Bool) : num (l ++ [b]) = 2 * num l + b.toNat := by
  simp [num, numFrom, List.foldl_append]

theorem num_putBits (v n : Nat) : num (putBits v n) = v % 2 ^ n := by
  induction n with
  | zero => simp [putBits, num, numFrom, Nat.mod_one]
  | succ n ih =>
    rw [putBits, num_cons, length_putBits, ih]
    have h := Nat.mod_pow_succ (b := 2) (k := n) (x := v)
    rw [h, Nat.testBit_eq_decide_div_mod_eq]
    have h2 : v / 2 ^ n % 2 = 0 ∨ v / 2 ^ n % 2 = 1 := by omega
    rcases h2 with h2 | h2 <;> simp [h2] <;> omega

/-- All bits of bytes. -/
def unpack (bs : List Nat) : List Bool := (List.range (8 * bs.length)).map (bitAt bs)

theorem length_unpack (bs : List Nat) : (unpack bs).length = 8 * bs.length := by simp [unpack]
theorem get_unpack (bs : List Nat) (i : Nat) (h : i < 8 * bs.length) : (unpack bs)[i]? = some (bitAt bs i) := by simp [unpack, h]

theorem Packs.unpack {bs : List Nat} {l : List Bool} (h : Packs bs l) : unpack bs = l ++ List.replicate (8 * bs.length - l.length) false := by
  have hl := h.len
  apply List.ext_getElem?
  intro i
  by_cases hi : i < 8 * bs.length
  · rw [get_unpack _ _ hi, h.bit i, List.getElem?_append]
    by_cases h1 : i < l.length
    · rw [if_pos h1]; simp [h1]
    · rw [if_neg h1]
      simp only [List.getD_eq_getElem?_getD]
      rw [List.getElem?_eq_none (by omega : l.length ≤ i), List.getElem?_replicate, if_pos (by omega)]
      rfl
  · rw [List.getElem?_eq_none (by rw [length_unpack]; omega), List.getElem?_eq_none (by simp; omega)]

/-- How many bits a size counts as. -/
def wide (n : Int) : Nat := (min (max n 0) 64).toNat
theorem wide_le (n : Int) : wide n ≤ 64 := by unfold wide; omega
theorem wide_cast (n : Int) : (wide n : Int) = min (max n 0) 64 := by unfold wide; omega

/-- The bit f + i of bytes turned, if it is there and bit i of the mask is 1. -/
def flipStep (bs : List Nat) (f : Int) (mask i : Nat) : List Nat :=
  if (-(i : Int) ≤ f ∧ f < 8 * (bs.length : Int) - i) ∧ mask.testBit i = true then bs.set ((f + i).toNat / 8) (bs.getD ((f + i).toNat / 8) 0 ^^^ 2 ^ ((f + i).toNat % 8)) else bs
def flips (bs : List Nat) (f : Int) (mask : Nat) : Nat → List Nat
  | 0 => bs
  | k + 1 => flipStep (flips bs f mask k) f mask k

theorem length_flipStep (bs : List Nat) (f : Int) (mask i : Nat) : (flipStep bs f mask i).length = bs.length := by unfold flipStep; split <;> simp
theorem length_flips (bs : List Nat) (f : Int) (mask k : Nat) : (flips bs f mask k).length = bs.length := by
  induction k with
  | zero => rfl
  | succ k ih => rw [flips, length_flipStep, ih]

theorem xor_lt (x y : Nat) (hx : x < 256) (hy : y < 256) : x ^^^ y < 256 := Nat.xor_lt_two_pow (n := 8) hx hy
theorem pow_lt (m : Nat) (hm : m < 8) : 2 ^ m < 256 := by have := bool_lt true m hm; simpa using this

theorem small_flipStep (bs : List Nat) (f : Int) (mask i : Nat) (h : ∀ j, bs.getD j 0 < 256) : ∀ j, (flipStep bs f mask i).getD j 0 < 256 := by
  intro j
  unfold flipStep
  split
  · rename_i hc
    rw [getD_set_nat _ _ _ _ (by omega)]
    split
    · exact xor_lt _ _ (h _) (pow_lt _ (by omega))
    · exact h j
  · exact h j

theorem small_flips (bs : List Nat) (f : Int) (mask k : Nat) (h : ∀ j, bs.getD j 0 < 256) : ∀ j, (flips bs f mask k).getD j 0 < 256 := by
  induction k with
  | zero => exact h
  | succ k ih => exact small_flipStep _ _ _ _ ih

/-- Which bit of the mask falls on bit j. -/
def hit (f : Int) (mask k j : Nat) : Bool := decide (f ≤ j ∧ (j : Int) < f + k) && mask.testBit ((j : Int) - f).toNat

theorem bit_flipStep (bs : List Nat) (f : Int) (mask i j : Nat) (hj : j < 8 * bs.length) :
    bitAt (flipStep bs f mask i) j = (bitAt bs j ^^ (decide ((j : Int) = f + i) && mask.testBit i)) := by
  unfold flipStep
  split
  · rename_i hc
    unfold bitAt
    rw [getD_set_nat _ _ _ _ (by omega)]
    by_cases h1 : j / 8 = (f + i).toNat / 8
    · rw [if_pos h1, ← h1, Nat.testBit_xor, Nat.testBit_two_pow]
      by_cases h2 : (j : Int) = f + i
      · have : (f + i).toNat % 8 = j % 8 := by omega
        simp [this, h2, hc.2]
      · have : (f + i).toNat % 8 ≠ j % 8 := by omega
        simp [this, h2]
    · rw [if_neg h1]
      have h2 : ¬ (j : Int) = f + i := by omega
      simp [h2]
  · rename_i hc
    by_cases h2 : (j : Int) = f + i
    · have h3 : mask.testBit i = false := by
        cases h4 : mask.testBit i
        · rfl
        · exact absurd ⟨by omega, h4⟩ hc
      simp [h3]
    · simp [h2]

theorem bit_flips (bs : List Nat) (f : Int) (mask k j : Nat) (hj : j < 8 * bs.length) : bitAt (flips bs f mask k) j = (bitAt bs j ^^ hit f mask k j) := by
  induction k with
  | zero =>
    have : hit f mask 0 j = false := by unfold hit; simp; intro h1 h2; omega
    rw [flips, this]; simp
  | succ k ih =>
    rw [flips, bit_flipStep _ _ _ _ _ (by rw [length_flips]; exact hj), ih, Bool.xor_assoc]
    congr 1
    unfold hit
    by_cases h2 : (j : Int) = f + k
    · have e1 : ((j : Int) - f).toNat = k := by omega
      have e2 : decide (f ≤ (j : Int) ∧ (j : Int) < f + (k : Nat)) = false := decide_eq_false (by omega)
      have e3 : decide (f ≤ (j : Int) ∧ (j : Int) < f + ((k + 1 : Nat) : Int)) = true := decide_eq_true (by omega)
      rw [e2, e3, e1, decide_eq_true h2]; simp
    · have e2 : decide (f ≤ (j : Int) ∧ (j : Int) < f + ((k + 1 : Nat) : Int)) = decide (f ≤ (j : Int) ∧ (j : Int) < f + (k : Nat)) := by
        apply decide_eq_decide.2; omega
      rw [e2, decide_eq_false h2]; simp

theorem flips_flips (bs : List Nat) (f : Int) (mask k : Nat) (h : ∀ j, bs.getD j 0 < 256) : flips (flips bs f mask k) f mask k = bs := by
  apply ext_bits _ _ (by rw [length_flips, length_flips]) (small_flips _ _ _ _ (small_flips _ _ _ _ h)) h
  intro j
  by_cases hj : j < 8 * bs.length
  · rw [bit_flips _ _ _ _ _ (by rw [length_flips]; exact hj), bit_flips _ _ _ _ _ hj, Bool.xor_assoc]; simp
  · unfold bitAt
    simp only [List.getD_eq_getElem?_getD]
    rw [List.getElem?_eq_none (by rw [length_flips, length_flips]; omega), List.getElem?_eq_none (by omega)]

end Go.Proofs.Ytclfbdfgmeliaaa

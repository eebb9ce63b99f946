/-
  Canonical codes of lengths: plain mathematics, no program. Each code as a piece of 0 to 2^15; the pieces lie one behind another.
-/
import Derived.Test.YtclfbdfgmeliaaaPLaws
import Derived.Test.YtclfbdfgmeliaaaBMath
namespace Go.Proofs.Ytclfbdfgmeliaaa

/-- The length of a symbol. -/
def ln (l : List Nat) (s : Nat) : Nat := l.getD s 0
/-- Is ahead of the symbols of length n from s on. -/
abbrev Ahd (l : List Nat) (n s t : Nat) : Prop := 0 < ln l t ∧ (ln l t < n ∨ ln l t = n ∧ t < s)
def piece (l : List Nat) (n s t : Nat) : Nat := if Ahd l n s t then 2 ^ (15 - ln l t) else 0
/-- How much is ahead. -/
def ac (l : List Nat) (n s : Nat) : Nat := ((List.range l.length).map (piece l n s)).sum
def codeOf (l : List Nat) (s : Nat) : Nat := if ln l s = 0 then 0 else ac l (ln l s) s / 2 ^ (15 - ln l s)

theorem sum_one (n s c : Nat) (hs : s < n) : ((List.range n).map fun t => if t = s then c else 0).sum = c := by
  induction n with
  | zero => omega
  | succ n ih =>
    rw [List.range_succ, List.map_append, List.sum_append]
    by_cases h : s < n
    · rw [ih h]
      simp
      omega
    · have e : s = n := by omega
      subst e
      have : ((List.range s).map fun t => if t = s then c else 0).sum = 0 := by
        rw [sum_congr (l := List.range s) (g := fun _ => 0) (fun t ht => by rw [if_neg (by have := List.mem_range.1 ht; omega)]), sum_const_map]
        simp
      rw [this]
      simp
theorem ac_step (l : List Nat) (n s : Nat) (hs : s < l.length) : ac l n (s + 1) = ac l n s + if ln l s = n ∧ 0 < n then 2 ^ (15 - n) else 0 := by
  by_cases h : ln l s = n ∧ 0 < n
  · rw [if_pos h]
    unfold ac
    rw [← sum_one l.length s (2 ^ (15 - n)) hs, ← sum_add]
    refine sum_congr fun t _ => ?_
    unfold piece
    by_cases ht : t = s
    · subst ht
      rw [if_pos rfl, if_pos ⟨by omega, .inr ⟨h.1, by omega⟩⟩, if_neg (by unfold Ahd; omega), h.1]
      omega
    · rw [if_neg ht]
      have : Ahd l n (s + 1) t ↔ Ahd l n s t := by unfold Ahd; omega
      by_cases h2 : Ahd l n s t
      · rw [if_pos h2, if_pos (this.2 h2)]; omega
      · rw [if_neg h2, if_neg (fun h3 => h2 (this.1 h3))]
  · rw [if_neg h]
    unfold ac
    rw [Nat.add_zero]
    refine sum_congr fun t _ => ?_
    unfold piece
    have : Ahd l n (s + 1) t ↔ Ahd l n s t := by
      unfold Ahd
      constructor
      · rintro ⟨h1, h2 | ⟨h2, h3⟩⟩
        · exact ⟨h1, .inl h2⟩
        · refine ⟨h1, .inr ⟨h2, ?_⟩⟩
          rcases Nat.lt_or_ge t s with h4 | h4
          · exact h4
          · have : t = s := by omega
            subst this
            exact absurd ⟨h2, by omega⟩ h
      · rintro ⟨h1, h2 | ⟨h2, h3⟩⟩
        · exact ⟨h1, .inl h2⟩
        · exact ⟨h1, .inr ⟨h2, by omega⟩⟩
    by_cases h2 : Ahd l n s t
    · rw [if_pos h2, if_pos (this.2 h2)]
    · rw [if_neg h2, if_neg (fun h3 => h2 (this.1 h3))]
theorem ac_next (l : List Nat) (n : Nat) : ac l (n + 1) 0 = ac l n l.length := by
  unfold ac
  refine sum_congr fun t ht => ?_
  have ht := List.mem_range.1 ht
  unfold piece
  have : Ahd l (n + 1) 0 t ↔ Ahd l n l.length t := by unfold Ahd; omega
  by_cases h2 : Ahd l n l.length t
  · rw [if_pos h2, if_pos (this.2 h2)]
  · rw [if_neg h2, if_neg (fun h3 => h2 (this.1 h3))]
theorem ac_zero (l : List Nat) : ac l 1 0 = 0 := by
  unfold ac
  rw [sum_congr (l := List.range l.length) (g := fun _ => 0) (fun t _ => by unfold piece; rw [if_neg (by unfold Ahd; omega)]), sum_const_map]
  simp
theorem map_ln (l : List Nat) (f : Nat → Nat) : (List.range l.length).map (fun s => f (ln l s)) = l.map f := by
  apply List.ext_getElem (by simp)
  intro i h1 h2
  simp at h1 h2
  simp [ln, List.getD_eq_getElem?_getD, h2]
theorem ac_all (l : List Nat) (h : ∀ s, ln l s ≤ 15) : ac l 16 0 = kraftOf l := by
  unfold ac kraftOf
  rw [← map_ln l fun n => if 1 ≤ n ∧ n ≤ 15 then 2 ^ (15 - n) else 0]
  refine sum_congr fun t _ => ?_
  unfold piece
  have := h t
  by_cases h0 : 0 < ln l t
  · rw [if_pos ⟨h0, .inl (by omega)⟩, if_pos (by omega)]
  · rw [if_neg (by unfold Ahd; omega), if_neg (by omega)]
theorem ac_mono (l : List Nat) {n s n' s' : Nat} (h : ∀ t, Ahd l n s t → Ahd l n' s' t) : ac l n s ≤ ac l n' s' := by
  unfold ac
  refine sum_le fun t _ => ?_
  unfold piece
  by_cases h2 : Ahd l n s t
  · rw [if_pos h2, if_pos (h t h2)]; exact Nat.le_refl _
  · rw [if_neg h2]; exact Nat.zero_le _
theorem ac_dvd (l : List Nat) (n s : Nat) : 2 ^ (15 - n) ∣ ac l n s := by
  unfold ac
  have : ∀ (r : List Nat), 2 ^ (15 - n) ∣ (r.map (piece l n s)).sum := by
    intro r
    induction r with
    | nil => simp
    | cons a r ih =>
      rw [List.map_cons, List.sum_cons]
      refine Nat.dvd_add ?_ ih
      unfold piece
      split
      · rename_i h
        exact Nat.pow_dvd_pow 2 (by unfold Ahd at h; omega)
      · simp
  exact this _
theorem ac_ahead (l : List Nat) {a n s : Nat} (ha : a < l.length) (h : Ahd l n s a) : ac l (ln l a) a + 2 ^ (15 - ln l a) ≤ ac l n s := by
  have h1 := ac_step l (ln l a) a ha
  rw [if_pos ⟨rfl, h.1⟩] at h1
  rw [← h1]
  refine ac_mono l fun t ht => ?_
  unfold Ahd at h ht ⊢
  omega

section
variable {l : List Nat}
theorem ln_lt {s : Nat} (h : 0 < ln l s) : s < l.length := by
  rcases Nat.lt_or_ge s l.length with h1 | h1
  · exact h1
  · unfold ln at h
    rw [List.getD_eq_getElem?_getD, List.getElem?_eq_none h1] at h
    simp at h
theorem code_mul {s : Nat} (h : 0 < ln l s) : codeOf l s * 2 ^ (15 - ln l s) = ac l (ln l s) s := by
  unfold codeOf
  rw [if_neg (by omega)]
  exact Nat.div_mul_cancel (ac_dvd l _ s)
/-- Who comes first is below. -/
theorem code_order (h15 : ∀ s, ln l s ≤ 15) {a b : Nat} (ha : 0 < ln l a) (hb : 0 < ln l b) (h : Ahd l (ln l b) b a) : (codeOf l a + 1) * 2 ^ (ln l b - ln l a) ≤ codeOf l b := by
  have h1 := ac_ahead l (ln_lt ha) h
  rw [← code_mul ha, ← code_mul hb, ← Nat.succ_mul] at h1
  have hab : ln l a ≤ ln l b := by unfold Ahd at h; omega
  have h2 := h15 b
  have e : 2 ^ (15 - ln l a) = 2 ^ (ln l b - ln l a) * 2 ^ (15 - ln l b) := by rw [← Nat.pow_add]; congr 1; omega
  rw [e, ← Nat.mul_assoc] at h1
  exact Nat.le_of_mul_le_mul_right h1 (Nat.two_pow_pos _)
theorem code_lt (h15 : ∀ s, ln l s ≤ 15) (hk : kraftOf l ≤ 2 ^ 15) {s : Nat} (h : 0 < ln l s) : codeOf l s < 2 ^ ln l s := by
  have h2 := h15 s
  have h1 := ac_ahead l (ln_lt h) (n := 16) (s := 0) ⟨h, .inl (by omega)⟩
  rw [ac_all l h15, ← code_mul h, ← Nat.succ_mul] at h1
  have e : 2 ^ 15 = 2 ^ ln l s * 2 ^ (15 - ln l s) := by rw [← Nat.pow_add]; congr 1; omega
  have h3 := Nat.le_trans h1 hk
  rw [e] at h3
  exact Nat.le_of_mul_le_mul_right h3 (Nat.two_pow_pos _)
theorem ahd_or {a b : Nat} (ha : 0 < ln l a) (hb : 0 < ln l b) (hab : a ≠ b) : Ahd l (ln l b) b a ∨ Ahd l (ln l a) a b := by unfold Ahd; omega
/-- No code begins another one. -/
theorem code_free (h15 : ∀ s, ln l s ≤ 15) {a b : Nat} (ha : 0 < ln l a) (hb : 0 < ln l b) (hab : a ≠ b) (hle : ln l a ≤ ln l b) : codeOf l b / 2 ^ (ln l b - ln l a) ≠ codeOf l a ∧ (codeOf l a < codeOf l b / 2 ^ (ln l b - ln l a) ↔ ln l a < ln l b ∨ a < b) := by
  rcases ahd_or ha hb hab with h | h
  · have h1 := code_order h15 ha hb h
    have h2 : codeOf l a + 1 ≤ codeOf l b / 2 ^ (ln l b - ln l a) := (Nat.le_div_iff_mul_le (Nat.two_pow_pos _)).2 h1
    refine ⟨by omega, ⟨fun _ => by unfold Ahd at h; omega, fun _ => by omega⟩⟩
  · have h1 := code_order h15 hb ha h
    have e : ln l a = ln l b := by unfold Ahd at h; omega
    rw [e, Nat.sub_self, Nat.pow_zero, Nat.mul_one] at h1
    rw [e, Nat.sub_self, Nat.pow_zero, Nat.div_one]
    refine ⟨by omega, ⟨fun _ => by omega, fun h3 => by unfold Ahd at h; omega⟩⟩
theorem code_inj (h15 : ∀ s, ln l s ≤ 15) {a b : Nat} (ha : 0 < ln l a) (hl : ln l a = ln l b) (hc : codeOf l a = codeOf l b) : a = b := by
  by_cases hab : a = b
  · exact hab
  · have := (code_free h15 ha (by omega) hab (by omega)).1
    rw [hl, Nat.sub_self, Nat.pow_zero, Nat.div_one] at this
    exact absurd hc.symm this
/-- The first code is nought. -/
theorem code_first {s : Nat} (h : 0 < ln l s) (hf : ∀ t, 0 < ln l t → ¬ Ahd l (ln l s) s t) : codeOf l s = 0 := by
  have h0 : ac l (ln l s) s = 0 := by
    unfold ac
    rw [sum_congr (l := List.range l.length) (g := fun _ => 0) (fun t _ => by unfold piece; rw [if_neg (fun ha => hf t ha.1 ha)]), sum_const_map]
    simp
  unfold codeOf
  rw [if_neg (by omega), h0]
  simp
/-- The last code has all bits. -/
theorem code_last (h15 : ∀ s, ln l s ≤ 15) (hk : kraftOf l = 2 ^ 15) {s : Nat} (h : 0 < ln l s) (hf : ∀ t, 0 < ln l t → t ≠ s → Ahd l (ln l s) s t) : codeOf l s + 1 = 2 ^ ln l s := by
  have h2 := h15 s
  have h1 := ac_step l (ln l s) s (ln_lt h)
  rw [if_pos ⟨rfl, h⟩] at h1
  have h3 : ac l (ln l s) (s + 1) = ac l 16 0 := by
    apply Nat.le_antisymm
    · refine ac_mono l fun t ht => ?_
      have := h15 t
      unfold Ahd at ht ⊢
      omega
    · refine ac_mono l fun t ht => ?_
      by_cases hts : t = s
      · subst hts
        exact ⟨h, .inr ⟨rfl, by omega⟩⟩
      · have := hf t ht.1 hts
        unfold Ahd at this ⊢
        omega
  rw [h3, ac_all l h15, hk, ← code_mul h, ← Nat.succ_mul] at h1
  have e : 2 ^ 15 = 2 ^ ln l s * 2 ^ (15 - ln l s) := by rw [← Nat.pow_add]; congr 1; omega
  rw [e] at h1
  exact (Nat.mul_right_cancel (Nat.two_pow_pos _) h1).symm
end

/-- Which symbol has a code. -/
def findSym (l : List Nat) (n v : Nat) : Option Nat := (List.range l.length).find? fun s => ln l s == n && codeOf l s == v
def seekSym (l : List Nat) (bs : List Bool) : Nat → Nat → Option (Nat × Nat)
  | _, 0 => none
  | n, f + 1 => if bs.length < n then none else match findSym l n (num (bs.take n)) with
    | some s => some (s, n)
    | none => seekSym l bs (n + 1) f
/-- The symbol that bits begin with, and how long it is. -/
def takeSym (l : List Nat) (bs : List Bool) : Option (Nat × Nat) := seekSym l bs 1 15

theorem putBits_take (v : Nat) : ∀ (m n : Nat), n ≤ m → (putBits v m).take n = putBits (v / 2 ^ (m - n)) n
  | 0, n, h => by
    have : n = 0 := by omega
    subst this
    rfl
  | m + 1, 0, _ => by simp [putBits]
  | m + 1, n + 1, h => by
    rw [putBits, List.take_succ_cons, putBits_take v m n (by omega), putBits, show m + 1 - (n + 1) = m - n by omega]
    congr 1
    rw [Nat.testBit_div_two_pow]
    congr 1
    omega
theorem num_take_put {v m n : Nat} (hv : v < 2 ^ m) (hn : n ≤ m) (r : List Bool) : num ((putBits v m ++ r).take n) = v / 2 ^ (m - n) := by
  rw [List.take_append_of_le_length (by rw [length_putBits]; exact hn), putBits_take v m n hn, num_putBits]
  apply Nat.mod_eq_of_lt
  rw [Nat.div_lt_iff_lt_mul (Nat.two_pow_pos _), ← Nat.pow_add]
  rwa [show n + (m - n) = m by omega]

section
variable {l : List Nat}
theorem findSym_some {n v s : Nat} (h : findSym l n v = some s) : s < l.length ∧ ln l s = n ∧ codeOf l s = v := by
  unfold findSym at h
  have h1 := List.find?_some h
  have h2 := List.mem_of_find?_eq_some h
  simp at h1 h2
  exact ⟨h2, h1⟩
theorem findSym_is (h15 : ∀ s, ln l s ≤ 15) {n v s : Nat} (h0 : 0 < n) (h1 : ln l s = n) (h2 : codeOf l s = v) : findSym l n v = some s := by
  cases h : findSym l n v with
  | none =>
    unfold findSym at h
    rw [List.find?_eq_none] at h
    have := h s (List.mem_range.2 (ln_lt (by omega)))
    simp [h1, h2] at this
  | some t =>
    obtain ⟨h3, h4, h5⟩ := findSym_some h
    rw [code_inj h15 (a := s) (b := t) (by omega) (by omega) (by omega)]
theorem seek_put (h15 : ∀ s, ln l s ≤ 15) (hk : kraftOf l ≤ 2 ^ 15) {s : Nat} (hs : 0 < ln l s) (r : List Bool) : ∀ (f n : Nat), 1 ≤ n → n ≤ ln l s → ln l s < n + f → seekSym l (putBits (codeOf l s) (ln l s) ++ r) n f = some (s, ln l s)
  | 0, n, _, h1, h2 => by omega
  | f + 1, n, h0, h1, h2 => by
    unfold seekSym
    rw [if_neg (by rw [List.length_append, length_putBits]; omega), num_take_put (code_lt h15 hk hs) h1]
    by_cases e : n = ln l s
    · subst e
      rw [Nat.sub_self, Nat.pow_zero, Nat.div_one, findSym_is h15 (by omega) rfl rfl]
    · have hn : findSym l n (codeOf l s / 2 ^ (ln l s - n)) = none := by
        cases h : findSym l n (codeOf l s / 2 ^ (ln l s - n)) with
        | none => rfl
        | some t =>
          obtain ⟨h3, h4, h5⟩ := findSym_some h
          have := (code_free h15 (a := t) (b := s) (by omega) hs (by intro e2; subst e2; omega) (by omega)).1
          rw [h4] at this
          exact absurd h5.symm this
      rw [hn]
      exact seek_put h15 hk hs r f (n + 1) (by omega) (by omega) (by omega)
/-- What was put is taken. -/
theorem take_put (h15 : ∀ s, ln l s ≤ 15) (hk : kraftOf l ≤ 2 ^ 15) {s : Nat} (hs : 0 < ln l s) (r : List Bool) : takeSym l (putBits (codeOf l s) (ln l s) ++ r) = some (s, ln l s) :=
  seek_put h15 hk hs r 15 1 (by omega) hs (by have := h15 s; omega)
end

/-- Which lengths may be. -/
def someOf (l : List Nat) : Nat := l.countP (0 < ·)
structure RightL (l : List Nat) : Prop where
  most : l.length ≤ 256
  le : ∀ n ∈ l, n ≤ 15
  how : (someOf l = 1 ∧ ∀ n ∈ l, 0 < n → n = 1) ∨ kraftOf l = 2 ^ 15
theorem RightL.ln {l : List Nat} (h : RightL l) (s : Nat) : ln l s ≤ 15 := by
  unfold Proofs.Ytclfbdfgmeliaaa.ln
  rw [List.getD_eq_getElem?_getD]
  cases hs : l[s]? with
  | none => simp
  | some n => simpa using h.le n (List.mem_of_getElem? hs)
theorem kraft_one : ∀ (l : List Nat), (∀ n ∈ l, 0 < n → n = 1) → kraftOf l = someOf l * 2 ^ 14
  | [], _ => by simp [kraftOf, someOf]
  | n :: l, h => by
    have ih := kraft_one l (fun m hm => h m (by simp [hm]))
    unfold kraftOf someOf at ih ⊢
    rw [List.map_cons, List.sum_cons, ih, List.countP_cons]
    have := h n (by simp)
    by_cases h0 : 0 < n
    · have := this h0
      subst this
      simp
      omega
    · have : n = 0 := by omega
      subst this
      simp
theorem RightL.kraft {l : List Nat} (h : RightL l) : kraftOf l ≤ 2 ^ 15 := by
  rcases h.how with ⟨h1, h2⟩ | h1
  · rw [kraft_one l h2, h1]; decide
  · omega

end Go.Proofs.Ytclfbdfgmeliaaa

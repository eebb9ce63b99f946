/-
  What the statements say of the lengths by package-merge: plain mathematics, no program.
-/
import Derived.Test.YtclfbdfgmeliaaaPLens
namespace Go.Proofs.Ytclfbdfgmeliaaa

/-- The count of a symbol; the symbols that are there, by count. -/
def cnt (counts : List Nat) (s : Nat) : Nat := counts.getD s 0
def there (counts : List Nat) : List Nat := symsTo (cnt counts) counts.length
/-- The length of a symbol's code. -/
def pmLen (counts : List Nat) (most s : Nat) : Nat :=
  if (there counts).length = 1 then (if cnt counts s = 0 then 0 else 1) else pmOcc (cnt counts) (there counts) most s
/-- The lengths of all; nothing of too many. -/
def pmLens (counts : List Nat) (most : Nat) : List Nat :=
  if 256 < counts.length ∨ 2 ^ most < (there counts).length then [] else (List.range counts.length).map (pmLen counts most)

theorem there_mem (counts : List Nat) (s : Nat) : s ∈ there counts ↔ cnt counts s ≠ 0 := by
  unfold there
  rw [syms_mem]
  constructor
  · exact fun h => h.2
  · intro h
    refine ⟨?_, h⟩
    rcases Nat.lt_or_ge s counts.length with h1 | h1
    · exact h1
    · exact absurd (by unfold cnt; rw [List.getD_eq_getElem?_getD, List.getElem?_eq_none h1]; rfl) h
theorem there_facts {counts : List Nat} {L : Nat} (hL : 1 ≤ L) (h2 : 2 ≤ (there counts).length) (hm : (there counts).length ≤ 2 ^ L) : PmFacts (cnt counts) (there counts) L :=
  pm_facts (syms_up _ _) (syms_nodup _ _) hL h2 hm

theorem len_pmLens {counts : List Nat} {L : Nat} (h1 : counts.length ≤ 256) (h2 : (there counts).length ≤ 2 ^ L) : (pmLens counts L).length = counts.length := by
  unfold pmLens
  rw [if_neg (by omega)]
  simp
theorem get_pmLens {counts : List Nat} {L : Nat} (h1 : counts.length ≤ 256) (h2 : (there counts).length ≤ 2 ^ L) (s : Nat) (hs : s < counts.length) : (pmLens counts L).getD s 0 = pmLen counts L s := by
  unfold pmLens
  rw [if_neg (by omega), List.getD_eq_getElem?_getD]
  simp [hs]

/-- None but of those that are there; none too long. -/
theorem pmLen_pos {counts : List Nat} {L : Nat} (hL : 1 ≤ L) (hm : (there counts).length ≤ 2 ^ L) (s : Nat) : (0 < pmLen counts L s ↔ 0 < cnt counts s) ∧ pmLen counts L s ≤ L := by
  unfold pmLen
  have hmem := there_mem counts s
  split
  · rename_i h
    split
    · rename_i h0; rw [h0]; simp
    · rename_i h0
      constructor
      · constructor <;> intro _ <;> omega
      · exact hL
  · rename_i h
    by_cases h2 : 2 ≤ (there counts).length
    · have hf := there_facts hL h2 hm
      refine ⟨⟨fun hp => ?_, fun hp => ?_⟩, hf.most s⟩
      · rcases Nat.eq_zero_or_pos (cnt counts s) with h0 | h0
        · have := hf.none s (fun hs => (hmem.1 hs) h0); omega
        · exact h0
      · exact hf.some s (hmem.2 (by omega))
    · have h0 : there counts = [] := List.eq_nil_of_length_eq_zero (by omega)
      have hc0 : cnt counts s = 0 := by
        rcases Nat.eq_zero_or_pos (cnt counts s) with h1 | h1
        · exact h1
        · have := hmem.2 (by omega)
          rw [h0] at this
          cases this
      have ho : pmOcc (cnt counts) (there counts) L s = 0 := by
        unfold pmOcc
        rw [h0]
        simp [occ]
      rw [ho, hc0]
      simp

/-- Kraft's sum, by fifteen bits. -/
def kraftOf (l : List Nat) : Nat := (l.map fun n => if 1 ≤ n ∧ n ≤ 15 then 2 ^ (15 - n) else 0).sum
theorem kraft_full {counts : List Nat} {L : Nat} (h256 : counts.length ≤ 256) (hL : 1 ≤ L) (hL15 : L ≤ 15) (h2 : 2 ≤ (there counts).length) (hm : (there counts).length ≤ 2 ^ L) : kraftOf (pmLens counts L) = 2 ^ 15 := by
  have hf := there_facts hL h2 hm
  unfold kraftOf pmLens
  rw [if_neg (by omega), List.map_map]
  have e : ((List.range counts.length).map ((fun n => if 1 ≤ n ∧ n ≤ 15 then 2 ^ (15 - n) else 0) ∘ pmLen counts L)).sum = ((there counts).map fun s => 2 ^ (15 - L) * 2 ^ (L - pmOcc (cnt counts) (there counts) L s)).sum := by
    rw [syms_sum (cnt counts) _ counts.length (fun s _ h0 => by
      have := (pmLen_pos hL hm s).1
      simp only [Function.comp]
      rw [if_neg (by omega)])]
    refine sum_congr fun s hs => ?_
    have h1 := hf.some s hs
    have h3 := hf.most s
    have e1 : pmLen counts L s = pmOcc (cnt counts) (there counts) L s := by unfold pmLen; rw [if_neg (by omega)]
    simp only [Function.comp]
    rw [e1, if_pos ⟨h1, by omega⟩, ← Nat.pow_add]
    congr 1
    omega
  rw [e]
  have hmul : ∀ (l : List Nat) (c : Nat) (f : Nat → Nat), (l.map fun s => c * f s).sum = c * (l.map f).sum := by
    intro l c f
    induction l with
    | nil => simp
    | cons a l ih => simp only [List.map_cons, List.sum_cons, ih, Nat.mul_add]
  rw [hmul, hf.kraft, ← Nat.pow_add]
  congr 1
  omega

/-- Who comes oftener isn't longer. -/
theorem pm_order {counts : List Nat} {L : Nat} (hL : 1 ≤ L) (hm : (there counts).length ≤ 2 ^ L) (a b : Nat) (h1 : cnt counts b < cnt counts a) (h2 : 0 < cnt counts b) : pmLen counts L a ≤ pmLen counts L b := by
  have ha := (there_mem counts a).2 (by omega)
  have hb := (there_mem counts b).2 (by omega)
  by_cases h : 2 ≤ (there counts).length
  · have hf := there_facts hL h hm
    unfold pmLen
    rw [if_neg (by omega), if_neg (by omega)]
    have hup := syms_up (cnt counts) counts.length
    have key : ∀ l : List Nat, l.Pairwise (fun x y => cnt counts x ≤ cnt counts y) → l.Pairwise (fun x y => pmOcc (cnt counts) (there counts) L y ≤ pmOcc (cnt counts) (there counts) L x) → a ∈ l → b ∈ l → pmOcc (cnt counts) (there counts) L a ≤ pmOcc (cnt counts) (there counts) L b := by
      intro l
      induction l with
      | nil => intro _ _ h; cases h
      | cons x l ih =>
        intro h3 h4 h5 h6
        rw [List.pairwise_cons] at h3 h4
        rcases List.mem_cons.1 h5 with e5 | m5
        · rcases List.mem_cons.1 h6 with e6 | m6
          · rw [e5, e6]; exact Nat.le_refl _
          · have := h3.1 b m6
            rw [← e5] at this
            omega
        · rcases List.mem_cons.1 h6 with e6 | m6
          · have := h4.1 a m5
            rwa [← e6] at this
          · exact ih h3.2 h4.2 m5 m6
    exact key _ hup hf.down ha hb
  · have e1 : (there counts).length = 1 := by
      have := List.length_pos_of_mem ha; omega
    unfold pmLen
    rw [if_pos e1, if_pos e1]
    split <;> split <;> omega

/-- All counts times their lengths. -/
def costBy (counts : List Nat) (x : Nat → Nat) : Nat := ((List.range counts.length).map fun s => cnt counts s * x s).sum
theorem costBy_there (counts : List Nat) (x : Nat → Nat) : costBy counts x = ((there counts).map fun s => cnt counts s * x s).sum :=
  syms_sum (cnt counts) _ counts.length (fun s _ h0 => by rw [h0, Nat.zero_mul])

theorem cost_best {counts : List Nat} {L : Nat} (hL : 1 ≤ L) (hm : (there counts).length ≤ 2 ^ L) (n : Nat → Nat) (hn : ∀ s, cnt counts s ≠ 0 → n s ≤ L ∧ 1 ≤ n s) (hk : ((there counts).map fun s => 2 ^ (L - n s)).sum ≤ 2 ^ L) :
    costBy counts (pmLen counts L) ≤ costBy counts n := by
  rw [costBy_there, costBy_there]
  by_cases h1 : (there counts).length = 1
  · refine sum_le fun s hs => ?_
    have hc := (there_mem counts s).1 hs
    unfold pmLen
    rw [if_pos h1, if_neg hc]
    exact Nat.mul_le_mul_left _ (hn s hc).2
  · by_cases h2 : 2 ≤ (there counts).length
    · have hf := there_facts hL h2 hm
      rw [sum_congr (l := there counts) (f := fun s => cnt counts s * pmLen counts L s) (g := fun s => cnt counts s * pmOcc (cnt counts) (there counts) L s) (fun s _ => by unfold pmLen; rw [if_neg h1])]
      exact hf.best n (fun s hs => (hn s ((there_mem counts s).1 hs)).1) hk
    · have h0 : there counts = [] := List.eq_nil_of_length_eq_zero (by omega)
      rw [h0]
      simp

/-- No tree of one length costs less. -/
theorem cost_flat {counts : List Nat} {L f : Nat} (hL : 1 ≤ L) (hm : (there counts).length ≤ 2 ^ f) (hf1 : 1 ≤ f) (hf : f ≤ L) : costBy counts (pmLen counts L) ≤ costBy counts fun s => if cnt counts s = 0 then 0 else f := by
  refine cost_best hL (Nat.le_trans hm (Nat.pow_le_pow_right (by omega) hf)) _ (fun s hs => by rw [if_neg hs]; exact ⟨hf, hf1⟩) ?_
  rw [sum_congr (g := fun _ => 2 ^ (L - f)) (fun s hs => by rw [if_neg ((there_mem counts s).1 hs)]), sum_const_map]
  calc (there counts).length * 2 ^ (L - f) ≤ 2 ^ f * 2 ^ (L - f) := Nat.mul_le_mul_right _ hm
    _ = 2 ^ L := by rw [← Nat.pow_add]; congr 1; omega

/-- A lesser greatest length costs no less. -/
theorem cost_tight {counts : List Nat} {L : Nat} (hL : 1 ≤ L) (hm : (there counts).length ≤ 2 ^ L) : costBy counts (pmLen counts (L + 1)) ≤ costBy counts (pmLen counts L) := by
  have hm' : (there counts).length ≤ 2 ^ (L + 1) := Nat.le_trans hm (Nat.pow_le_pow_right (by omega) (by omega))
  refine cost_best (by omega) hm' _ (fun s hs => ?_) ?_
  · have := pmLen_pos hL hm s
    exact ⟨by omega, this.1.2 (by omega)⟩
  · have e : ∀ s ∈ there counts, 2 ^ (L + 1 - pmLen counts L s) = 2 * 2 ^ (L - pmLen counts L s) := fun s _ => by
      have := (pmLen_pos hL hm s).2
      rw [show L + 1 - pmLen counts L s = (L - pmLen counts L s) + 1 by omega, Nat.pow_succ, Nat.mul_comm]
    by_cases h1 : (there counts).length = 1
    · have : ((there counts).map fun s => 2 ^ (L + 1 - pmLen counts L s)).sum ≤ ((there counts).map fun _ => 2 ^ (L + 1)).sum := sum_le fun s _ => Nat.pow_le_pow_right (by omega) (by omega)
      rw [sum_const_map, h1, Nat.one_mul] at this
      exact this
    · by_cases h2 : 2 ≤ (there counts).length
      · have hf := there_facts hL h2 hm
        have e2 : ((there counts).map fun s => 2 ^ (L + 1 - pmLen counts L s)).sum = ((there counts).map fun s => 2 ^ (L - pmOcc (cnt counts) (there counts) L s) + 2 ^ (L - pmOcc (cnt counts) (there counts) L s)).sum := sum_congr fun s hs => by
          rw [e s hs]
          unfold pmLen
          rw [if_neg h1]
          omega
        rw [e2, sum_add, hf.kraft, Nat.pow_succ]
        omega
      · have h0 : there counts = [] := List.eq_nil_of_length_eq_zero (by omega)
        rw [h0]
        simp

/-- Counts all alike: nobody is longer than must be. -/
theorem many_most {counts : List Nat} {L f : Nat} (hL : 1 ≤ L) (hone : ∀ s, cnt counts s ≠ 0 → cnt counts s = 1) (h2 : 2 ≤ (there counts).length) (hlo : 2 ^ f < (there counts).length) (hhi : (there counts).length ≤ 2 ^ (f + 1)) (hf : f + 1 ≤ L) :
    (∀ s ∈ there counts, pmLen counts L s ≤ f + 1) ∧ ∃ s ∈ there counts, pmLen counts L s = f + 1 := by
  have hm : (there counts).length ≤ 2 ^ L := Nat.le_trans hhi (Nat.pow_le_pow_right (by omega) hf)
  have hfa := there_facts hL h2 hm
  have hpm : ∀ s, pmLen counts L s = pmOcc (cnt counts) (there counts) L s := fun s => by unfold pmLen; rw [if_neg (by omega)]
  have hkr := hfa.kraft
  obtain ⟨m, hmm⟩ : ∃ m, m = (there counts).length := ⟨_, rfl⟩
  rw [← hmm] at hlo hhi hm h2
  obtain ⟨x, hx⟩ : ∃ x, x = 2 ^ (L - (f + 1)) := ⟨_, rfl⟩
  have hx1 : 1 ≤ x := by rw [hx]; exact Nat.two_pow_pos _
  have hLx : 2 ^ L = x * 2 ^ (f + 1) := by rw [hx, ← Nat.pow_add]; congr 1; omega
  -- another tree: the first of them f + 1 long, the others f
  have hsplit : ∃ n : Nat → Nat, (∀ s ∈ there counts, n s ≤ L) ∧ ((there counts).map fun s => 2 ^ (L - n s)).sum ≤ 2 ^ L ∧ ((there counts).map n).sum + 2 ^ (f + 1) = m * (f + 2) := by
    have hnd : (there counts).Nodup := syms_nodup (cnt counts) counts.length
    obtain ⟨i, hi⟩ : ∃ i, i = 2 * m - 2 ^ (f + 1) := ⟨_, rfl⟩
    have h2f : 2 ^ (f + 1) = 2 * 2 ^ f := by rw [Nat.pow_succ, Nat.mul_comm]
    have him : i ≤ m := by omega
    obtain ⟨n, hn⟩ : ∃ n : Nat → Nat, ∀ s, n s = if s ∈ (there counts).take i then f + 1 else f := ⟨_, fun _ => rfl⟩
    have hnt : ∀ s ∈ (there counts).take i, n s = f + 1 := fun s hs => by rw [hn, if_pos hs]
    have hnl : ∀ s ∈ (there counts).drop i, n s = f := fun s hs => by rw [hn, if_neg (fun h => nodup_split hnd i h hs)]
    have hli : ((there counts).take i).length = i := by rw [List.length_take]; omega
    refine ⟨n, fun s _ => ?_, ?_, ?_⟩
    · rw [hn]; split <;> omega
    · rw [sum_split _ i, sum_congr (l := (there counts).take i) (g := fun _ => x) (fun s hs => by rw [hnt s hs, hx]),
        sum_congr (l := (there counts).drop i) (g := fun _ => 2 * x) (fun s hs => by rw [hnl s hs, hx, show L - f = L - (f + 1) + 1 by omega, Nat.pow_succ, Nat.mul_comm]),
        sum_const_map, sum_const_map, hli, List.length_drop, ← hmm, hLx]
      rw [← Nat.mul_assoc, ← Nat.add_mul, Nat.mul_comm]
      exact Nat.mul_le_mul_left _ (by omega)
    · rw [sum_split _ i, sum_congr (l := (there counts).take i) (g := fun _ => f + 1) hnt, sum_congr (l := (there counts).drop i) (g := fun _ => f) hnl,
        sum_const_map, sum_const_map, hli, List.length_drop, ← hmm]
      have e1 : i * (f + 1) = i * f + i := Nat.mul_succ i f
      have e2 : (m - i) * f + i * f = m * f := by rw [← Nat.add_mul]; congr 1; omega
      have e3 : m * (f + 2) = m * f + 2 * m := by rw [Nat.mul_add, Nat.mul_comm m 2]
      omega
  obtain ⟨n, hn1, hn2, hn3⟩ := hsplit
  have hb := hfa.best n hn1 hn2
  have hone' : ∀ (g : Nat → Nat), ((there counts).map fun s => cnt counts s * g s).sum = ((there counts).map g).sum := fun g => sum_congr fun s hs => by rw [hone s ((there_mem counts s).1 hs), Nat.one_mul]
  rw [hone', hone'] at hb
  -- each symbol: its width and its length together
  have hpt : ∀ k, k ≤ L → x * (f + 2) ≤ 2 ^ (L - k) + x * k := fun k hk => by
    by_cases hkf : k ≤ f + 1
    · obtain ⟨d, hd⟩ : ∃ d, f + 1 = k + d := ⟨f + 1 - k, by omega⟩
      have e : 2 ^ (L - k) = x * 2 ^ d := by rw [hx, ← Nat.pow_add]; congr 1; omega
      have h3 : d + 1 ≤ 2 ^ d := Nat.succ_le_of_lt (Nat.lt_two_pow_self)
      rw [e, ← Nat.mul_add]
      exact Nat.mul_le_mul_left _ (by omega)
    · have : x * (f + 2) ≤ x * k := Nat.mul_le_mul_left _ (by omega)
      exact Nat.le_trans this (Nat.le_add_left _ _)
  have hstrict : ∀ k, k ≤ L → f + 2 ≤ k → x * (f + 2) + 1 ≤ 2 ^ (L - k) + x * k := fun k hk h => by
    have h1 : x * (f + 2) ≤ x * k := Nat.mul_le_mul_left _ h
    have h3 := Nat.two_pow_pos (L - k)
    omega
  have hmul : ∀ (l : List Nat) (g : Nat → Nat), (l.map fun s => x * g s).sum = x * (l.map g).sum := by
    intro l g
    induction l with
    | nil => simp
    | cons a l ih => simp only [List.map_cons, List.sum_cons, ih, Nat.mul_add]
  have htot : ((there counts).map fun s => 2 ^ (L - pmOcc (cnt counts) (there counts) L s) + x * pmOcc (cnt counts) (there counts) L s).sum ≤ m * (x * (f + 2)) := by
    rw [sum_add, hmul, hkr, hLx, ← Nat.mul_add, Nat.mul_left_comm]
    refine Nat.mul_le_mul_left _ ?_
    rw [Nat.add_comm]
    omega
  constructor
  · intro s hs
    rw [hpm]
    rcases Nat.lt_or_ge (f + 1) (pmOcc (cnt counts) (there counts) L s) with hgt | hle
    · exfalso
      have hge : ∀ l : List Nat, s ∈ l → l.length * (x * (f + 2)) + 1 ≤ (l.map fun s => 2 ^ (L - pmOcc (cnt counts) (there counts) L s) + x * pmOcc (cnt counts) (there counts) L s).sum := by
        intro l
        induction l with
        | nil => intro h; cases h
        | cons a l ih =>
          intro h
          simp only [List.map_cons, List.sum_cons, List.length_cons, Nat.succ_mul]
          have h3 := hpt _ (hfa.most a)
          rcases List.mem_cons.1 h with e | h
          · rw [← e] at h3 ⊢
            have h4 := hstrict _ (hfa.most s) hgt
            have h5 : l.length * (x * (f + 2)) ≤ (l.map fun s => 2 ^ (L - pmOcc (cnt counts) (there counts) L s) + x * pmOcc (cnt counts) (there counts) L s).sum := by
              rw [← sum_const_map]
              exact sum_le fun y _ => hpt _ (hfa.most y)
            omega
          · have := ih h
            omega
      have := hge _ hs
      rw [← hmm] at this
      omega
    · exact hle
  · -- if all were shorter, they would be too wide
    apply Classical.byContradiction
    intro hno
    have hall : ∀ s ∈ there counts, 2 * x ≤ 2 ^ (L - pmOcc (cnt counts) (there counts) L s) := by
      intro s hs
      have hle : pmOcc (cnt counts) (there counts) L s ≤ f := by
        have hne : pmLen counts L s ≠ f + 1 := fun e => hno ⟨s, hs, e⟩
        rw [hpm] at hne
        rcases Nat.lt_or_ge (f + 1) (pmOcc (cnt counts) (there counts) L s) with hgt | hle
        · exfalso
          have hge : ∀ l : List Nat, s ∈ l → l.length * (x * (f + 2)) + 1 ≤ (l.map fun s => 2 ^ (L - pmOcc (cnt counts) (there counts) L s) + x * pmOcc (cnt counts) (there counts) L s).sum := by
            intro l
            induction l with
            | nil => intro h; cases h
            | cons a l ih =>
              intro h
              simp only [List.map_cons, List.sum_cons, List.length_cons, Nat.succ_mul]
              have h3 := hpt _ (hfa.most a)
              rcases List.mem_cons.1 h with e | h
              · rw [← e] at h3 ⊢
                have h4 := hstrict _ (hfa.most s) hgt
                have h5 : l.length * (x * (f + 2)) ≤ (l.map fun s => 2 ^ (L - pmOcc (cnt counts) (there counts) L s) + x * pmOcc (cnt counts) (there counts) L s).sum := by
                  rw [← sum_const_map]
                  exact sum_le fun y _ => hpt _ (hfa.most y)
                omega
              · have := ih h
                omega
          have := hge _ hs
          rw [← hmm] at this
          omega
        · omega
      have : 2 * x = 2 ^ (L - f) := by rw [hx, show L - f = L - (f + 1) + 1 by omega, Nat.pow_succ, Nat.mul_comm]
      rw [this]
      exact Nat.pow_le_pow_right (by omega) (by omega)
    have hs : ((there counts).map fun _ => 2 * x).sum ≤ ((there counts).map fun s => 2 ^ (L - pmOcc (cnt counts) (there counts) L s)).sum := sum_le hall
    rw [sum_const_map, hkr, ← hmm, hLx, Nat.pow_succ] at hs
    have : x * (2 ^ f * 2) < m * (2 * x) := by
      rw [show x * (2 ^ f * 2) = 2 ^ f * (2 * x) by rw [Nat.mul_comm x, Nat.mul_assoc]]
      exact Nat.mul_lt_mul_of_pos_right hlo (by omega)
    omega

/-- Counts that are all so many times as great. -/
theorem W_scale (wt : Nat → Nat) (c : Nat) (y : List Nat) : W (fun s => wt s * c) y = W wt y * c := by
  induction y with
  | nil => simp [W]
  | cons a y ih => simp only [W, List.map_cons, List.sum_cons, Nat.add_mul] at ih ⊢; rw [ih]
theorem mg_scale (wt : Nat → Nat) (c : Nat) (hc : 0 < c) : ∀ a b : List (List Nat), mg (fun s => wt s * c) a b = mg wt a b
  | [], b => by simp [mg]
  | a :: as', [] => by simp [mg]
  | a :: as', b :: bs => by
    have h1 := mg_scale wt c hc as' (b :: bs)
    have h2 := mg_scale wt c hc (a :: as') bs
    unfold mg
    rw [W_scale, W_scale, h1, h2]
    by_cases h : W wt a ≤ W wt b
    · rw [if_pos h, if_pos (Nat.mul_le_mul_right _ h)]
    · rw [if_neg h, if_neg (fun h' => h (Nat.le_of_mul_le_mul_right h' hc))]
termination_by a b => a.length + b.length
theorem lv_scale (wt : Nat → Nat) (c : Nat) (hc : 0 < c) (cs : List Nat) : ∀ k, lv (fun s => wt s * c) cs k = lv wt cs k
  | 0 => rfl
  | k + 1 => by rw [lv, lv, lv_scale wt c hc cs k, mg_scale wt c hc]
theorem ins_scale (wt : Nat → Nat) (c : Nat) (hc : 0 < c) (s : Nat) : ∀ l, insSym (fun s => wt s * c) s l = insSym wt s l
  | [] => rfl
  | y :: ys => by
    rw [insSym, insSym, ins_scale wt c hc s ys]
    by_cases h : wt s < wt y
    · rw [if_pos h, if_pos (Nat.mul_lt_mul_of_pos_right h hc)]
    · rw [if_neg h, if_neg (fun h' => h (Nat.lt_of_mul_lt_mul_right h'))]
theorem syms_scale (wt : Nat → Nat) (c : Nat) (hc : 0 < c) : ∀ n, symsTo (fun s => wt s * c) n = symsTo wt n
  | 0 => rfl
  | n + 1 => by
    rw [symsTo, symsTo, syms_scale wt c hc n, ins_scale wt c hc]
    by_cases h : wt n = 0
    · rw [if_pos h, if_pos (by rw [h, Nat.zero_mul])]
    · rw [if_neg h, if_neg (fun h' => by rcases Nat.mul_eq_zero.1 h' with h1 | h1 <;> omega)]
theorem pm_scale (counts : List Nat) (c : Nat) (hc : 0 < c) (L : Nat) : pmLens (counts.map (· * c)) L = pmLens counts L := by
  have hcnt : cnt (counts.map (· * c)) = fun s => cnt counts s * c := by
    funext s
    unfold cnt
    rw [List.getD_eq_getElem?_getD, List.getD_eq_getElem?_getD, List.getElem?_map]
    cases counts[s]? <;> simp
  have hth : there (counts.map (· * c)) = there counts := by unfold there; rw [hcnt, List.length_map, syms_scale _ c hc]
  have hlen : pmLen (counts.map (· * c)) L = pmLen counts L := by
    funext s
    unfold pmLen
    rw [hth]
    congr 1
    · rw [hcnt]
      by_cases h : cnt counts s = 0
      · rw [if_pos h, if_pos (show cnt counts s * c = 0 by rw [h, Nat.zero_mul])]
      · rw [if_neg h, if_neg (fun h' : cnt counts s * c = 0 => by rcases Nat.mul_eq_zero.1 h' with h1 | h1 <;> omega)]
    · unfold pmOcc
      rw [hcnt, lv_scale _ c hc]
  unfold pmLens
  rw [hth, hlen, List.length_map]

end Go.Proofs.Ytclfbdfgmeliaaa

/-
  What is known of bytes in fewer bits: no beginning of them is read; how long they are. Plain mathematics, no program.
-/
import Derived.Test.YtclfbdfgmeliaaaHMath
namespace Go.Proofs.Ytclfbdfgmeliaaa

theorem takeSym_lt {l : List Nat} {bits : List Bool} {s k : Nat} (h : takeSym l bits = some (s, k)) : s < l.length := by
  have : ∀ f n, seekSym l bits n f = some (s, k) → s < l.length := by
    intro f
    induction f with
    | zero => intro n h; cases h
    | succ f ih =>
      intro n h
      unfold seekSym at h
      split at h
      · cases h
      · cases hf : findSym l n (num (bits.take n)) with
        | none => rw [hf] at h; exact ih _ h
        | some t =>
          rw [hf] at h
          simp only [Option.some.injEq, Prod.mk.injEq] at h
          rw [← h.1]
          exact (findSym_some hf).1
  exact this _ _ h
theorem takeN_is {l : List Nat} : ∀ (n : Nat) (bits : List Bool) (x : List Nat), takeN l n bits = some x → x.length = n ∧ ∀ s ∈ x, s < l.length
  | 0, _, x, h => by
    simp only [takeN, Option.some.injEq] at h
    subst h
    exact ⟨rfl, fun s hs => by cases hs⟩
  | n + 1, bits, x, h => by
    unfold takeN at h
    cases ht : takeSym l bits with
    | none => rw [ht] at h; cases h
    | some p =>
      obtain ⟨s, k⟩ := p
      rw [ht] at h
      simp only at h
      cases hr : takeN l n (bits.drop k) with
      | none => rw [hr] at h; cases h
      | some y =>
        rw [hr] at h
        simp only [Option.map_some, Option.some.injEq] at h
        subst h
        obtain ⟨h1, h2⟩ := takeN_is n _ y hr
        refine ⟨by simp [h1], fun t ht2 => ?_⟩
        rcases List.mem_cons.1 ht2 with rfl | h3
        · exact takeSym_lt ht
        · exact h2 t h3
theorem took_most (b : List Nat) (m : Nat) : (took b m).1 ≤ m := by
  unfold took
  split
  · simp
  · split
    · simp
    · simp only; omega
theorem parsed_len {bs l r : List Nat} (h : parsed bs = some (l, r)) : l.length = 256 := by
  unfold parsed at h
  split at h
  · cases h
  · cases hp : parseL (took bs 256).1 (bs.drop (took bs 256).2.1) 0 (fun _ => 0) with
    | none => rw [hp] at h; cases h
    | some p =>
      rw [hp] at h
      simp only [Option.map_some, Option.some.injEq, Prod.mk.injEq] at h
      rw [← h.1]
      simp [listF]
theorem rawDec_is {b x : List Nat} (h : rawDec b = some x) : x.length ≤ 2 ^ 62 ∧ ∀ s ∈ x, s < 256 := by
  unfold rawDec at h
  split at h
  · cases h
  · split at h
    · simp only [Option.some.injEq] at h
      subst h
      exact ⟨by simp, fun s hs => by cases hs⟩
    · cases hp : parsed (b.drop (took b (2 ^ 62)).2.1) with
      | none => rw [hp] at h; cases h
      | some q =>
        obtain ⟨l, r⟩ := q
        rw [hp] at h
        simp only at h
        split at h
        · obtain ⟨h1, h2⟩ := takeN_is _ _ _ h
          rw [parsed_len hp] at h2
          exact ⟨by rw [h1]; exact took_most _ _, h2⟩
        · cases h
/-- No beginning is read. -/
theorem hread_cut (b : List Nat) (hb : ∀ x ∈ b, x < 256) (hl : b.length ≤ 2 ^ 62) (k : Nat) (hk : k < (hput b).length) : hread ((hput b).take k) = none := by
  cases h : hread ((hput b).take k) with
  | none => rfl
  | some x =>
    exfalso
    obtain ⟨h1, h2⟩ := hread_is h
    obtain ⟨h3, h4⟩ := rawDec_is h2
    have h5 := rawDec_put x ((hput b).drop k) h4 h3
    rw [h1, List.take_append_drop] at h5
    have h6 := rawDec_put b [] hb hl
    rw [List.append_nil, h5] at h6
    simp only [Option.some.injEq] at h6
    subst h6
    have := congrArg List.length h1
    rw [List.length_take] at this
    omega

theorem bitsOf_len (l : List Nat) : ∀ b, (bitsOf l b).length = (b.map (ln l)).sum
  | [] => rfl
  | s :: b => by rw [bitsOf, List.length_append, length_putBits, bitsOf_len l b, List.map_cons, List.sum_cons]
theorem hput_len (b : List Nat) (h : b ≠ []) : (hput b).length = (enc b.length).length + ((headOf (lensB b)).length + ((b.map (ln (lensB b))).sum + 7) / 8) := by
  unfold hput
  rw [if_neg h, List.length_append, List.length_append, length_pack, bitsOf_len]
theorem hput_pos (b : List Nat) : 0 < (hput b).length := by
  unfold hput
  rw [List.length_append]
  have := enc_pos b.length
  omega
theorem cntB_perm {a b : List Nat} (h : List.Perm a b) : cntB a = cntB b := by
  unfold cntB
  exact List.map_congr_left fun s _ => h.count_eq s
/-- How long it is hangs on how often each byte is there alone. -/
theorem hput_perm {a b : List Nat} (h : List.Perm a b) : (hput a).length = (hput b).length := by
  by_cases h0 : a = []
  · subst h0
    rw [List.nil_perm.1 h]
  · have h1 : b ≠ [] := fun e => h0 (by subst e; exact List.perm_nil.1 h)
    have hl : lensB a = lensB b := by unfold lensB; rw [cntB_perm h]
    rw [hput_len a h0, hput_len b h1, hl, h.length_eq, (h.map (ln (lensB b))).sum_nat]

theorem sum_cntB : ∀ (b : List Nat), (∀ x ∈ b, x < 256) → (cntB b).sum = b.length
  | [], _ => by
    unfold cntB
    rw [sum_congr (l := List.range 256) (g := fun _ => 0) (fun s _ => List.count_nil), sum_const_map, Nat.mul_zero, List.length_nil]
  | a :: b, h => by
    have ih := sum_cntB b (fun x hx => h x (by simp [hx]))
    have ha := h a (by simp)
    have e : cntB (a :: b) = (List.range 256).map fun s => b.count s + if s = a then 1 else 0 := by
      unfold cntB
      apply List.map_congr_left
      intro s _
      rw [List.count_cons]
      by_cases hs : s = a
      · subst hs; simp
      · rw [if_neg hs, if_neg (by simpa using fun h2 : a = s => hs h2.symm)]
    rw [e, sum_add (List.range 256) (fun s => b.count s) (fun s => if s = a then 1 else 0), sum_one 256 a 1 ha, List.length_cons]
    unfold cntB at ih
    omega

/-- One or two byte values: a bit each. -/
theorem ln_few {b : List Nat} (hb : ∀ x ∈ b, x < 256) {u v : Nat} (huv : ∀ x ∈ b, x = u ∨ x = v) (s : Nat) (hs : s ∈ b) : ln (lensB b) s = 1 := by
  have h0 : b ≠ [] := fun e => by subst e; cases hs
  have hR := lensB_right b hb h0
  have hs1 := (lnB_pos b s (hb s hs)).2 hs
  have hs15 := lnB_15 b s
  rcases hR.how with ⟨h1, h2⟩ | hk
  · refine h2 _ ?_ hs1
    unfold ln
    exact getD_mem (by rw [lensB_len]; exact hb s hs)
  · have hsum : kraftOf (lensB b) = ((List.range 256).map fun t => if 1 ≤ ln (lensB b) t ∧ ln (lensB b) t ≤ 15 then 2 ^ (15 - ln (lensB b) t) else 0).sum := by
      unfold kraftOf
      rw [← map_ln (lensB b), lensB_len]
    have hle : ((List.range 256).map fun t => if 1 ≤ ln (lensB b) t ∧ ln (lensB b) t ≤ 15 then 2 ^ (15 - ln (lensB b) t) else 0).sum ≤ ((List.range 256).map fun t => (if t = u then (if u ∈ b then 2 ^ (15 - ln (lensB b) u) else 0) else 0) + (if t = v then (if v ∈ b ∧ v ≠ u then 2 ^ (15 - ln (lensB b) v) else 0) else 0)).sum := by
      refine sum_le fun t ht => ?_
      have ht := List.mem_range.1 ht
      by_cases h3 : t ∈ b
      · have := (lnB_pos b t ht).2 h3
        rw [if_pos ⟨this, lnB_15 b t⟩]
        by_cases h4 : t = u
        · subst h4; rw [if_pos rfl, if_pos h3]; omega
        · have h5 : t = v := (huv t h3).resolve_left h4
          subst h5
          rw [if_neg h4, if_pos rfl, if_pos ⟨h3, h4⟩]; omega
      · have : ¬ 0 < ln (lensB b) t := fun h => h3 ((lnB_pos b t ht).1 h)
        rw [if_neg (by omega)]
        exact Nat.zero_le _
    have hpow : ∀ t, 2 ≤ ln (lensB b) t → 2 ^ (15 - ln (lensB b) t) ≤ 8192 := fun t ht => Nat.le_trans (Nat.pow_le_pow_right (by omega) (by omega : 15 - ln (lensB b) t ≤ 13)) (by decide)
    have hpow1 : ∀ t, 1 ≤ ln (lensB b) t → 2 ^ (15 - ln (lensB b) t) ≤ 16384 := fun t ht => Nat.le_trans (Nat.pow_le_pow_right (by omega) (by omega : 15 - ln (lensB b) t ≤ 14)) (by decide)
    have s1 : ∀ (w c : Nat), ((List.range 256).map fun t => if t = w then c else 0).sum ≤ c := fun w c => by
      by_cases hw : w < 256
      · rw [sum_one 256 w c hw]; exact Nat.le_refl _
      · rw [sum_congr (l := List.range 256) (g := fun _ => 0) (fun t ht => by rw [if_neg (by have := List.mem_range.1 ht; omega)]), sum_const_map]
        simp
    rw [sum_add] at hle
    have bu : (if u ∈ b then 2 ^ (15 - ln (lensB b) u) else 0) ≤ 16384 := by
      split
      · rename_i h; exact hpow1 u ((lnB_pos b u (hb u h)).2 h)
      · omega
    have bv : (if v ∈ b ∧ v ≠ u then 2 ^ (15 - ln (lensB b) v) else 0) ≤ 16384 := by
      split
      · rename_i h; exact hpow1 v ((lnB_pos b v (hb v h.1)).2 h.1)
      · omega
    have eu : s = u → (if u ∈ b then 2 ^ (15 - ln (lensB b) u) else 0) = 2 ^ (15 - ln (lensB b) s) := fun e => by rw [← e, if_pos hs]
    have ev : s = v → s ≠ u → (if v ∈ b ∧ v ≠ u then 2 ^ (15 - ln (lensB b) v) else 0) = 2 ^ (15 - ln (lensB b) s) := fun e h => by rw [← e, if_pos ⟨hs, h⟩]
    generalize (if u ∈ b then 2 ^ (15 - ln (lensB b) u) else 0) = cU at hle bu eu
    generalize (if v ∈ b ∧ v ≠ u then 2 ^ (15 - ln (lensB b) v) else 0) = cV at hle bv ev
    have ha := s1 u cU
    have hc := s1 v cV
    have hk2 : (2 : Nat) ^ 15 = 32768 := by decide
    by_cases h2 : 2 ≤ ln (lensB b) s
    · exfalso
      have := hpow s h2
      rw [hsum] at hk
      by_cases h3 : s = u
      · have := eu h3
        omega
      · have := ev ((huv s hs).resolve_left h3) h3
        omega
    · omega

theorem enc_one (v : Nat) (h : v < 128) : (enc v).length = 1 := by rw [enc_small v h]; rfl
theorem enc_two (v : Nat) (h : 128 ≤ v) (h2 : v < 16384) : (enc v).length = 2 := by rw [enc_big v h, enc_small _ (by omega)]; rfl
theorem rows_few (l : List Nat) (h15 : ∀ s, ln l s ≤ 15) : ∀ s, s ≤ 256 → (encs (rowsTo l s)).length ≤ 3 * someTo l s
  | 0, _ => by simp [rowsTo, encs]
  | s + 1, h => by
    have ih := rows_few l h15 s (by omega)
    rw [rowsTo, someTo]
    by_cases h0 : 0 < ln l s
    · rw [if_pos h0, if_pos h0]
      have e : encs (rowsTo l s ++ [s - nextTo l s, ln l s]) = encs (rowsTo l s) ++ (enc (s - nextTo l s) ++ enc (ln l s)) := by simp [encs]
      have h1 : (enc (s - nextTo l s)).length ≤ 2 := by
        by_cases hg : s - nextTo l s < 128
        · rw [enc_one _ hg]; omega
        · rw [enc_two _ (by omega) (by omega)]; omega
      rw [e, List.length_append, List.length_append, enc_one (ln l s) (by have := h15 s; omega)]
      omega
    · rw [if_neg h0, if_neg h0]; exact ih
theorem some_few (l : List Nat) (u v : Nat) (h : ∀ t, 0 < ln l t → t = u ∨ t = v) : ∀ s, someTo l s ≤ (if u < s then 1 else 0) + (if v < s then 1 else 0)
  | 0 => by simp [someTo]
  | s + 1 => by
    have ih := some_few l u v h s
    rw [someTo]
    by_cases h0 : 0 < ln l s
    · rw [if_pos h0]
      rcases h s h0 with rfl | rfl
      · rw [if_neg (by omega)] at ih
        rw [if_pos (by omega)]
        split at ih <;> split <;> omega
      · rw [if_neg (c := s < s) (by omega)] at ih
        rw [if_pos (c := s < s + 1) (by omega)]
        split at ih <;> split <;> omega
    · rw [if_neg h0]
      split at ih <;> split at ih <;> split <;> split <;> omega
/-- Bytes of one value or two take few bytes. -/
theorem hput_small {b : List Nat} (h0 : b ≠ []) (hb : ∀ x ∈ b, x < 256) {u v : Nat} (huv : ∀ x ∈ b, x = u ∨ x = v) (hl : b.length ≤ 2000) : (hput b).length ≤ 2 + 1 + 6 + (b.length + 7) / 8 ∧ (b.length + 7) / 8 < (hput b).length := by
  have hs : (b.map (ln (lensB b))).sum = b.length := by
    have : b.map (ln (lensB b)) = b.map fun _ => 1 := List.map_congr_left fun s hs => ln_few hb huv s hs
    rw [this, sum_const_map, Nat.mul_one]
  have h2 : someTo (lensB b) 256 ≤ 2 := by
    have := some_few (lensB b) u v (fun t ht => by
      have ht2 : t < 256 := by
        rcases Nat.lt_or_ge t 256 with h | h
        · exact h
        · rw [lnB, if_neg (by omega)] at ht; omega
      exact huv t ((lnB_pos b t ht2).1 ht)) 256
    split at this <;> split at this <;> omega
  have h3 := rows_few (lensB b) (lnB_15 b) 256 (Nat.le_refl _)
  have h4 : (enc b.length).length ≤ 2 := by
    by_cases h : b.length < 128
    · rw [enc_one _ h]; omega
    · rw [enc_two _ (by omega) (by omega)]; omega
  have h5 := enc_pos b.length
  rw [hput_len b h0, hs]
  unfold headOf
  rw [List.length_append, enc_one (someTo (lensB b) 256) (by omega)]
  omega

/-- Sums of numbers that are at least c, and together no more: each is c. -/
theorem sum_each (g : Nat → Nat) (c : Nat) : ∀ n, (∀ s, s < n → c ≤ g s) → ((List.range n).map g).sum ≤ n * c → ∀ s, s < n → g s = c
  | 0, _, _, s, hs => by omega
  | n + 1, h1, h2, s, hs => by
    rw [List.range_succ, List.map_append, List.sum_append] at h2
    simp only [List.map_cons, List.map_nil, List.sum_cons, List.sum_nil, Nat.add_zero] at h2
    have hlow : n * c ≤ ((List.range n).map g).sum := by
      have := sum_le (l := List.range n) (f := fun _ => c) (g := g) (fun t ht => h1 t (by have := List.mem_range.1 ht; omega))
      rw [sum_const_map, List.length_range] at this
      exact this
    have hn := h1 n (by omega)
    rw [Nat.succ_mul] at h2
    by_cases e : s = n
    · subst e; omega
    · exact sum_each g c n (fun t ht => h1 t (by omega)) (by omega) s (by omega)
theorem curve (x : Nat) (h1 : 1 ≤ x) (h2 : x ≤ 15) : 1152 ≤ 2 ^ (15 - x) + 128 * x ∧ (2 ^ (15 - x) + 128 * x = 1152 → 128 ≤ 2 ^ (15 - x)) ∧ (2 ^ (15 - x) = 128 → x = 8) := by
  have hm : x = 1 ∨ x = 2 ∨ x = 3 ∨ x = 4 ∨ x = 5 ∨ x = 6 ∨ x = 7 ∨ x = 8 ∨ x = 9 ∨ x = 10 ∨ x = 11 ∨ x = 12 ∨ x = 13 ∨ x = 14 ∨ x = 15 := by omega
  rcases hm with rfl | rfl | rfl | rfl | rfl | rfl | rfl | rfl | rfl | rfl | rfl | rfl | rfl | rfl | rfl <;> decide
/-- All bytes, each as often: eight bits each. -/
theorem ln_all {b : List Nat} {k : Nat} (hk : 0 < k) (hc : ∀ s, s < 256 → b.count s = k) (s : Nat) (hs : s < 256) : ln (lensB b) s = 8 := by
  have hm := thereB_le b
  have hcnt : ∀ t, t < 256 → cnt (cntB b) t = k := fun t ht => by rw [cntB_get b t ht]; exact hc t ht
  have hpos : ∀ t, t < 256 → 1 ≤ ln (lensB b) t := fun t ht => by
    rw [lnB, if_pos ht]
    have := (pmLen_pos (L := 15) (by omega) hm t).1.2 (by rw [hcnt t ht]; exact hk)
    omega
  have hth2 : 2 ≤ (there (cntB b)).length := by
    have h0 : 0 ∈ there (cntB b) := (there_mem _ _).2 (by rw [hcnt 0 (by omega)]; omega)
    have h1 : 1 ∈ there (cntB b) := (there_mem _ _).2 (by rw [hcnt 1 (by omega)]; omega)
    match hl : there (cntB b), h0, h1 with
    | [], h0, _ => cases h0
    | [x], h0, h1 => simp at h0 h1; omega
    | _ :: _ :: _, _, _ => simp
  have hK : ((List.range 256).map fun t => 2 ^ (15 - ln (lensB b) t)).sum = 32768 := by
    have h1 := kraft_full (counts := cntB b) (L := 15) (by rw [cntB_len]; omega) (by omega) (by omega) hth2 hm
    have h2 : kraftOf (lensB b) = ((List.range 256).map fun t => if 1 ≤ ln (lensB b) t ∧ ln (lensB b) t ≤ 15 then 2 ^ (15 - ln (lensB b) t) else 0).sum := by
      unfold kraftOf
      rw [← map_ln (lensB b), lensB_len]
    rw [show pmLens (cntB b) 15 = lensB b from rfl, h2] at h1
    rw [← show (2 : Nat) ^ 15 = 32768 by decide, ← h1]
    refine sum_congr fun t ht => ?_
    rw [if_pos ⟨hpos t (List.mem_range.1 ht), lnB_15 b t⟩]
  have hX : ((List.range 256).map fun t => ln (lensB b) t).sum ≤ 2048 := by
    have hth : (there (cntB b)).length ≤ 2 ^ 8 := Nat.le_trans (syms_le _ _) (by rw [cntB_len]; decide)
    have h1 := cost_flat (counts := cntB b) (L := 15) (f := 8) (by omega) hth (by omega) (by omega)
    unfold costBy at h1
    rw [cntB_len] at h1
    have e1 : ((List.range 256).map fun t => cnt (cntB b) t * pmLen (cntB b) 15 t).sum = ((List.range 256).map fun t => k * ln (lensB b) t).sum := sum_congr fun t ht => by rw [hcnt t (List.mem_range.1 ht), lnB, if_pos (List.mem_range.1 ht)]
    have e2 : ((List.range 256).map fun t => cnt (cntB b) t * if cnt (cntB b) t = 0 then 0 else 8).sum = ((List.range 256).map fun _ => k * 8).sum := sum_congr fun t ht => by rw [hcnt t (List.mem_range.1 ht), if_neg (by omega)]
    rw [e1, e2, sum_const_map, List.length_range] at h1
    have e3 : ∀ (r : List Nat), (r.map fun t => k * ln (lensB b) t).sum = k * (r.map fun t => ln (lensB b) t).sum := fun r => by
      induction r with
      | nil => simp
      | cons a r ih => rw [List.map_cons, List.sum_cons, List.map_cons, List.sum_cons, ih, Nat.mul_add]
    rw [e3] at h1
    refine Nat.le_of_mul_le_mul_left ?_ hk
    rw [show k * 2048 = 256 * (k * 8) by omega]
    exact h1
  have hE := sum_each (fun t => 2 ^ (15 - ln (lensB b) t) + 128 * ln (lensB b) t) 1152 256 (fun t ht => (curve _ (hpos t ht) (lnB_15 b t)).1) (by
    rw [sum_add (List.range 256) (fun t => 2 ^ (15 - ln (lensB b) t)) (fun t => 128 * ln (lensB b) t), hK]
    have e3 : ∀ (r : List Nat), (r.map fun t => 128 * ln (lensB b) t).sum = 128 * (r.map fun t => ln (lensB b) t).sum := fun r => by
      induction r with
      | nil => simp
      | cons a r ih => rw [List.map_cons, List.sum_cons, List.map_cons, List.sum_cons, ih, Nat.mul_add]
    rw [e3]
    omega)
  have hP := sum_each (fun t => 2 ^ (15 - ln (lensB b) t)) 128 256 (fun t ht => (curve _ (hpos t ht) (lnB_15 b t)).2.1 (hE t ht)) (by rw [hK]; omega)
  exact (curve _ (hpos s hs) (lnB_15 b s)).2.2 (hP s hs)
theorem rows_even (l : List Nat) (h : ∀ s, s < 256 → ln l s = 8) : ∀ s, s ≤ 256 → (encs (rowsTo l s)).length = 2 * s ∧ nextTo l s = s ∧ someTo l s = s
  | 0, _ => ⟨rfl, rfl, rfl⟩
  | s + 1, hs => by
    obtain ⟨h1, h2, h3⟩ := rows_even l h s (by omega)
    have h8 := h s (by omega)
    rw [rowsTo, nextTo, someTo, if_pos (by omega), if_pos (by omega), if_pos (by omega), h2, h3, h8, Nat.sub_self]
    refine ⟨?_, rfl, rfl⟩
    have e : encs (rowsTo l s ++ [0, 8]) = encs (rowsTo l s) ++ (enc 0 ++ enc 8) := by simp [encs]
    rw [e, List.length_append, List.length_append, h1, enc_one 0 (by omega), enc_one 8 (by omega)]
    omega
/-- Bytes of all values, each as often. -/
theorem hput_all {b : List Nat} {k : Nat} (hk : 0 < k) (hk5 : k ≤ 5) (hb : ∀ x ∈ b, x < 256) (hc : ∀ s, s < 256 → b.count s = k) (hl : b.length = 256 * k) : (hput b).length = 2 + 2 + 512 + 256 * k := by
  have h0 : b ≠ [] := fun e => by subst e; simp at hl; omega
  have hs : (b.map (ln (lensB b))).sum = 8 * b.length := by
    have : b.map (ln (lensB b)) = b.map fun _ => 8 := List.map_congr_left fun s hs => ln_all hk hc s (hb s hs)
    rw [this, sum_const_map, Nat.mul_comm]
  obtain ⟨h1, -, h3⟩ := rows_even (lensB b) (fun s hs => ln_all hk hc s hs) 256 (Nat.le_refl _)
  rw [hput_len b h0, hs]
  unfold headOf
  rw [List.length_append, h1, h3, enc_two 256 (by omega) (by omega), enc_two _ (by omega) (by omega)]
  omega

end Go.Proofs.Ytclfbdfgmeliaaa

/-
  Bytes in fewer bits: plain mathematics, no program: the bytes of any bytes, and how these are read.
-/
import Derived.Test.YtclfbdfgmeliaaaKRight
import Derived.Test.YtclfbdfgmeliaaaVMath
import Derived.Test.YtclfbdfgmeliaaaBStr
namespace Go.Proofs.Ytclfbdfgmeliaaa

/-- How often each byte is there. -/
def cntB (b : List Nat) : List Nat := (List.range 256).map fun s => b.count s
/-- The length of each byte's code. -/
def lensB (b : List Nat) : List Nat := pmLens (cntB b) 15

theorem cntB_len (b : List Nat) : (cntB b).length = 256 := by simp [cntB]
theorem cntB_get (b : List Nat) (s : Nat) (h : s < 256) : cnt (cntB b) s = b.count s := by unfold cnt cntB; simp [List.getD_eq_getElem?_getD, h]
theorem cntB_out (b : List Nat) (s : Nat) (h : 256 ≤ s) : cnt (cntB b) s = 0 := by
  unfold cnt
  rw [List.getD_eq_getElem?_getD, List.getElem?_eq_none (by rw [cntB_len]; exact h)]
  rfl
theorem syms_le (wt : Nat → Nat) : ∀ n, (symsTo wt n).length ≤ n
  | 0 => by simp [symsTo]
  | n + 1 => by
    have := syms_le wt n
    unfold symsTo
    split
    · omega
    · rw [(ins_perm _ n _).length_eq]; simp; omega
theorem thereB_le (b : List Nat) : (there (cntB b)).length ≤ 2 ^ 15 := Nat.le_trans (syms_le _ _) (by rw [cntB_len]; decide)
theorem lensB_len (b : List Nat) : (lensB b).length = 256 := by
  unfold lensB
  rw [len_pmLens (by rw [cntB_len]; omega) (thereB_le b), cntB_len]
theorem lnB (b : List Nat) (s : Nat) : ln (lensB b) s = if s < 256 then pmLen (cntB b) 15 s else 0 := by
  by_cases h : s < 256
  · rw [if_pos h]
    exact get_pmLens (by rw [cntB_len]; omega) (thereB_le b) s (by rw [cntB_len]; exact h)
  · rw [if_neg h]
    unfold ln
    rw [List.getD_eq_getElem?_getD, List.getElem?_eq_none (by rw [lensB_len]; omega)]
    rfl
theorem lnB_15 (b : List Nat) (s : Nat) : ln (lensB b) s ≤ 15 := by
  rw [lnB]
  split
  · exact (pmLen_pos (by omega) (thereB_le b) s).2
  · omega
theorem lnB_pos (b : List Nat) (s : Nat) (hs : s < 256) : 0 < ln (lensB b) s ↔ s ∈ b := by
  rw [lnB, if_pos hs, (pmLen_pos (by omega) (thereB_le b) s).1, cntB_get b s hs]
  exact List.count_pos_iff
theorem someOf_count (l : List Nat) (f : Nat → Nat) (n : Nat) (hl : l = (List.range n).map f) : someOf l = ((List.range n).filter fun s => decide (0 < f s)).length := by
  subst hl
  unfold someOf
  rw [List.countP_map, List.countP_eq_length_filter]
  rfl
/-- Lengths of bytes that are there may be. -/
theorem lensB_right (b : List Nat) (hb : ∀ x ∈ b, x < 256) (h0 : b ≠ []) : RightL (lensB b) := by
  have hm := thereB_le b
  refine ⟨by rw [lensB_len]; omega, fun n hn => ?_, ?_⟩
  · obtain ⟨i, hi⟩ := List.getElem?_of_mem hn
    have := lnB_15 b i
    unfold ln at this
    rw [List.getD_eq_getElem?_getD, hi] at this
    exact this
  · obtain ⟨x, hx⟩ := List.exists_mem_of_ne_nil b h0
    have hxm : x ∈ there (cntB b) := by
      rw [there_mem, cntB_get b x (hb x hx)]
      have := List.count_pos_iff.2 hx
      omega
    have hp : 0 < (there (cntB b)).length := List.length_pos_of_mem hxm
    by_cases h1 : (there (cntB b)).length = 1
    · left
      obtain ⟨y, hy⟩ := List.length_eq_one_iff.1 h1
      have hxy : x = y := by rw [hy] at hxm; simpa using hxm
      subst hxy
      have hval : ∀ s, pmLen (cntB b) 15 s = if s = x then 1 else 0 := fun s => by
        unfold pmLen
        rw [if_pos h1]
        by_cases hs : s = x
        · rw [if_pos hs, if_neg ((there_mem _ _).1 (by rw [hy, hs]; simp))]
        · rw [if_neg hs, if_pos ?_]
          rcases Nat.eq_zero_or_pos (cnt (cntB b) s) with h | h
          · exact h
          · have : s ∈ there (cntB b) := (there_mem _ _).2 (by omega)
            rw [hy] at this
            exact absurd (by simpa using this) hs
      have hle : lensB b = (List.range 256).map fun s => if s = x then 1 else 0 := by
        unfold lensB pmLens
        rw [if_neg (by rw [cntB_len]; omega), cntB_len]
        exact List.map_congr_left fun s _ => hval s
      constructor
      · rw [someOf_count _ _ 256 hle]
        have hxb := hb x hx
        have e : ((List.range 256).filter fun s => decide (0 < if s = x then 1 else 0)) = (List.range 256).filter fun s => s == x := by
          apply List.filter_congr
          intro s _
          by_cases hs : s = x <;> simp [hs]
        rw [e, ← List.countP_eq_length_filter]
        have := (List.nodup_range (n := 256)).count (a := x)
        unfold List.count at this
        rw [this, if_pos (List.mem_range.2 hxb)]
      · intro n hn h0
        rw [hle] at hn
        obtain ⟨s, -, rfl⟩ := List.mem_map.1 hn
        split at h0
        · rename_i h; rw [if_pos h]
        · omega
    · right
      exact kraft_full (by rw [cntB_len]; omega) (by omega) (by omega) (by omega) hm

/-- Where the next symbol's gap is counted from; the numbers of the head; symbols below s. -/
def nextTo (l : List Nat) : Nat → Nat
  | 0 => 0
  | s + 1 => if 0 < ln l s then s + 1 else nextTo l s
def rowsTo (l : List Nat) : Nat → List Nat
  | 0 => []
  | s + 1 => if 0 < ln l s then rowsTo l s ++ [s - nextTo l s, ln l s] else rowsTo l s
def someTo (l : List Nat) : Nat → Nat
  | 0 => 0
  | s + 1 => if 0 < ln l s then someTo l s + 1 else someTo l s
theorem nextTo_le (l : List Nat) : ∀ s, nextTo l s ≤ s
  | 0 => Nat.le_refl _
  | s + 1 => by have := nextTo_le l s; unfold nextTo; split <;> omega
theorem someTo_le (l : List Nat) : ∀ s, someTo l s ≤ s
  | 0 => Nat.le_refl _
  | s + 1 => by have := someTo_le l s; unfold someTo; split <;> omega
/-- The same from the front: k symbols from s on. -/
def rowsFrom (l : List Nat) : Nat → Nat → Nat → List Nat
  | 0, _, _ => []
  | k + 1, s, nx => if 0 < ln l s then (s - nx) :: ln l s :: rowsFrom l k (s + 1) (s + 1) else rowsFrom l k (s + 1) nx
def someFrom (l : List Nat) : Nat → Nat → Nat
  | 0, _ => 0
  | k + 1, s => if 0 < ln l s then someFrom l k (s + 1) + 1 else someFrom l k (s + 1)
theorem rows_join (l : List Nat) : ∀ k s, rowsTo l (s + k) = rowsTo l s ++ rowsFrom l k s (nextTo l s)
  | 0, s => by simp [rowsFrom]
  | k + 1, s => by
    rw [show s + (k + 1) = s + 1 + k by omega, rows_join l k (s + 1), show rowsFrom l (k + 1) s (nextTo l s) = if 0 < ln l s then (s - nextTo l s) :: ln l s :: rowsFrom l k (s + 1) (s + 1) else rowsFrom l k (s + 1) (nextTo l s) from rfl]
    by_cases h : 0 < ln l s
    · rw [if_pos h, show rowsTo l (s + 1) = rowsTo l s ++ [s - nextTo l s, ln l s] by rw [rowsTo, if_pos h], show nextTo l (s + 1) = s + 1 by rw [nextTo, if_pos h]]
      simp
    · rw [if_neg h, show rowsTo l (s + 1) = rowsTo l s by rw [rowsTo, if_neg h], show nextTo l (s + 1) = nextTo l s by rw [nextTo, if_neg h]]
theorem some_join (l : List Nat) : ∀ k s, someTo l (s + k) = someTo l s + someFrom l k s
  | 0, s => by simp [someFrom]
  | k + 1, s => by
    rw [show s + (k + 1) = s + 1 + k by omega, some_join l k (s + 1), show someFrom l (k + 1) s = if 0 < ln l s then someFrom l k (s + 1) + 1 else someFrom l k (s + 1) from rfl]
    by_cases h : 0 < ln l s
    · rw [if_pos h, show someTo l (s + 1) = someTo l s + 1 by rw [someTo, if_pos h]]; omega
    · rw [if_neg h, show someTo l (s + 1) = someTo l s by rw [someTo, if_neg h]]
theorem rows_all (l : List Nat) : rowsTo l 256 = rowsFrom l 256 0 0 := by
  have := rows_join l 256 0
  rw [Nat.zero_add] at this
  rw [this]
  rfl
theorem some_all (l : List Nat) : someTo l 256 = someFrom l 256 0 := by
  have := some_join l 256 0
  rw [Nat.zero_add] at this
  rw [this, show someTo l 0 = 0 from rfl, Nat.zero_add]

/-- Symbols one behind another. -/
def bitsOf (l : List Nat) : List Nat → List Bool
  | [] => []
  | s :: r => putBits (codeOf l s) (ln l s) ++ bitsOf l r
theorem bitsOf_append (l a b : List Nat) : bitsOf l (a ++ b) = bitsOf l a ++ bitsOf l b := by
  induction a with
  | nil => rfl
  | cons s a ih => simp [bitsOf, ih]
theorem bitsOf_le (l a : List Nat) (h : ∀ s, ln l s ≤ 15) : (bitsOf l a).length ≤ 15 * a.length := by
  induction a with
  | nil => simp [bitsOf]
  | cons s a ih => simp only [bitsOf, List.length_append, length_putBits, List.length_cons]; have := h s; omega
theorem bitsOf_ge (l a : List Nat) (h : ∀ s ∈ a, 0 < ln l s) : a.length ≤ (bitsOf l a).length := by
  induction a with
  | nil => simp [bitsOf]
  | cons s a ih =>
    simp only [bitsOf, List.length_append, length_putBits, List.length_cons]
    have := h s (by simp)
    have := ih (fun x hx => h x (by simp [hx]))
    omega
/-- The head of the lengths; the bytes of bytes. -/
def headOf (l : List Nat) : List Nat := enc (someTo l 256) ++ encs (rowsTo l 256)
def hput (b : List Nat) : List Nat := enc b.length ++ if b = [] then [] else headOf (lensB b) ++ pack (bitsOf (lensB b) b)

/-- Lengths that stand at the beginning of bytes: of n rows. -/
def parseL : Nat → List Nat → Nat → (Nat → Nat) → Option ((Nat → Nat) × List Nat)
  | 0, bs, _, f => some (f, bs)
  | n + 1, bs, nx, f =>
    if (took bs 255).2.2 ≠ 0 then none
    else if (took (bs.drop (took bs 255).2.1) 15).2.2 ≠ 0 ∨ 255 < nx + (took bs 255).1 then none
    else parseL n ((bs.drop (took bs 255).2.1).drop (took (bs.drop (took bs 255).2.1) 15).2.1) (nx + (took bs 255).1 + 1) (fun t => if t = nx + (took bs 255).1 then (took (bs.drop (took bs 255).2.1) 15).1 else f t)
def takeN (l : List Nat) : Nat → List Bool → Option (List Nat)
  | 0, _ => some []
  | n + 1, bits => match takeSym l bits with
    | none => none
    | some (s, k) => (takeN l n (bits.drop k)).map (s :: ·)
/-- The lengths of a function. -/
def listF (f : Nat → Nat) : List Nat := (List.range 256).map f
theorem listF_ln (f : Nat → Nat) (s : Nat) : ln (listF f) s = if s < 256 then f s else 0 := by
  unfold ln listF
  rw [List.getD_eq_getElem?_getD]
  by_cases h : s < 256
  · simp [h]
  · rw [if_neg h, List.getElem?_eq_none (by simp; omega)]; rfl
def parsed (bs : List Nat) : Option (List Nat × List Nat) :=
  if (took bs 256).2.2 ≠ 0 then none else (parseL (took bs 256).1 (bs.drop (took bs 256).2.1) 0 (fun _ => 0)).map fun r => (listF r.1, r.2)

theorem parse_rows (l : List Nat) (h15 : ∀ s, ln l s ≤ 15) (r : List Nat) : ∀ (k s nx : Nat) (f : Nat → Nat), s + k = 256 → nx ≤ s → (∀ t, f t = if t < s then ln l t else 0) →
    ∃ g, parseL (someFrom l k s) (encs (rowsFrom l k s nx) ++ r) nx f = some (g, r) ∧ ∀ t, t < 256 → g t = ln l t
  | 0, s, nx, f, hs, _, hf => ⟨f, by simp [someFrom, rowsFrom, parseL, encs], fun t ht => by rw [hf t, if_pos (by omega)]⟩
  | k + 1, s, nx, f, hs, hn, hf => by
    by_cases h : 0 < ln l s
    · have e1 := took_enc (s - nx) 255 (enc (ln l s) ++ (encs (rowsFrom l k (s + 1) (s + 1)) ++ r)) (by omega) (by omega)
      have e2 := took_enc (ln l s) 15 (encs (rowsFrom l k (s + 1) (s + 1)) ++ r) (by have := h15 s; omega) (h15 s)
      obtain ⟨g, hg, hgt⟩ := parse_rows l h15 r k (s + 1) (s + 1) (fun t => if t = s then ln l s else f t) (by omega) (Nat.le_refl _) (fun t => by
        by_cases ht : t = s
        · subst ht; rw [if_pos rfl, if_pos (by omega)]
        · rw [if_neg ht, hf t]
          by_cases h2 : t < s
          · rw [if_pos h2, if_pos (by omega)]
          · rw [if_neg h2, if_neg (by omega)])
      refine ⟨g, ?_, hgt⟩
      rw [someFrom, if_pos h, rowsFrom, if_pos h, encs_cons, encs_cons, List.append_assoc, List.append_assoc, parseL, e1]
      simp only [List.drop_left, e2, show nx + (s - nx) = s by omega]
      rw [if_neg (by simp), if_neg (by simp; omega)]
      exact hg
    · rw [someFrom, if_neg h, rowsFrom, if_neg h]
      refine parse_rows l h15 r k (s + 1) nx f (by omega) (by omega) (fun t => ?_)
      rw [hf t]
      by_cases h2 : t < s
      · rw [if_pos h2, if_pos (by omega)]
      · rw [if_neg h2]
        by_cases h3 : t = s
        · subst h3; rw [if_pos (by omega)]; omega
        · rw [if_neg (by omega)]
theorem parsed_head (l r : List Nat) (hl : l.length = 256) (h15 : ∀ s, ln l s ≤ 15) : parsed (headOf l ++ r) = some (l, r) := by
  unfold parsed headOf
  have e1 := took_enc (someTo l 256) 256 (encs (rowsTo l 256) ++ r) (by have := someTo_le l 256; omega) (someTo_le l 256)
  obtain ⟨g, hg, hgt⟩ := parse_rows l h15 r 256 0 0 (fun _ => 0) (by omega) (Nat.le_refl _) (fun t => by rw [if_neg (by omega)])
  rw [← some_all, ← rows_all] at hg
  rw [List.append_assoc, e1]
  simp only [List.drop_left]
  rw [if_neg (by simp), hg]
  simp only [Option.map_some, Option.some.injEq, Prod.mk.injEq, and_true]
  apply List.ext_getElem?
  intro i
  by_cases hi : i < 256
  · unfold listF
    rw [List.getElem?_map, List.getElem?_range hi, Option.map_some, hgt i hi]
    unfold ln
    rw [List.getD_eq_getElem?_getD, List.getElem?_eq_getElem (by omega)]
    rfl
  · rw [List.getElem?_eq_none (by simp [listF]; omega), List.getElem?_eq_none (by omega)]
theorem takeN_put (l : List Nat) (h15 : ∀ s, ln l s ≤ 15) (hk : kraftOf l ≤ 2 ^ 15) (r : List Bool) : ∀ (a : List Nat), (∀ s ∈ a, 0 < ln l s) → takeN l a.length (bitsOf l a ++ r) = some a
  | [], _ => rfl
  | s :: a, h => by
    rw [List.length_cons, takeN, bitsOf, List.append_assoc, take_put h15 hk (h s (by simp))]
    simp only
    rw [List.drop_left' (length_putBits _ _), takeN_put l h15 hk r a (fun x hx => h x (by simp [hx]))]
    rfl

/-- What is read, ahead of the look whether it is written so. -/
def rawDec (b : List Nat) : Option (List Nat) :=
  if (took b (2 ^ 62)).2.2 ≠ 0 ∨ 8 * b.length < (took b (2 ^ 62)).1 then none
  else if (took b (2 ^ 62)).1 = 0 then some []
  else match parsed (b.drop (took b (2 ^ 62)).2.1) with
    | none => none
    | some (l, r) => if rightB (l.map fun (n : Nat) => (n : Int)) = true then takeN l (took b (2 ^ 62)).1 (unpack r) else none
def hread (b : List Nat) : Option (List Nat) := match rawDec b with
  | none => none
  | some x => if hput x = b then some x else none

theorem unpack_append (a b : List Nat) : unpack (a ++ b) = unpack a ++ unpack b := by
  apply List.ext_getElem?
  intro i
  by_cases h1 : i < 8 * (a ++ b).length
  · rw [get_unpack _ _ h1]
    by_cases h2 : i < 8 * a.length
    · rw [List.getElem?_append_left (by rw [length_unpack]; exact h2), get_unpack _ _ h2]
      unfold bitAt
      congr 2
      rw [List.getD_eq_getElem?_getD, List.getD_eq_getElem?_getD, List.getElem?_append_left (by omega)]
    · rw [List.length_append] at h1
      rw [List.getElem?_append_right (by rw [length_unpack]; omega), length_unpack, get_unpack _ _ (by omega)]
      unfold bitAt
      congr 2
      · rw [List.getD_eq_getElem?_getD, List.getD_eq_getElem?_getD, List.getElem?_append_right (by omega)]
        congr 2
        omega
      · omega
  · rw [List.getElem?_eq_none (by rw [length_unpack]; omega), List.getElem?_eq_none (by rw [List.length_append, length_unpack, length_unpack]; rw [List.length_append] at h1; omega)]
theorem unpack_pack (bl : List Bool) (r : List Nat) : ∃ z, unpack (pack bl ++ r) = bl ++ z := by
  rw [unpack_append, (packs_pack bl).unpack, List.append_assoc]
  exact ⟨_, rfl⟩
/-- What was put is read, whatever is behind it. -/
theorem rawDec_put (b r : List Nat) (hb : ∀ x ∈ b, x < 256) (hl : b.length ≤ 2 ^ 62) : rawDec (hput b ++ r) = some b := by
  have h62 : (2 : Nat) ^ 62 = 4611686018427387904 := by decide
  unfold hput
  by_cases h0 : b = []
  · subst h0
    rw [if_pos rfl, List.append_nil]
    unfold rawDec
    rw [took_enc _ _ r (by simp) (by simp), if_neg (by simp)]
    rfl
  · rw [if_neg h0]
    have hR := lensB_right b hb h0
    have hpos : ∀ s ∈ b, 0 < ln (lensB b) s := fun s hs => (lnB_pos b s (hb s hs)).2 hs
    obtain ⟨z, hz⟩ := unpack_pack (bitsOf (lensB b) b) r
    have e1 := took_enc b.length (2 ^ 62) (headOf (lensB b) ++ (pack (bitsOf (lensB b) b) ++ r)) (by omega) hl
    have hlen : b.length ≤ 8 * (pack (bitsOf (lensB b) b)).length := by
      have := bitsOf_ge (lensB b) b hpos
      rw [length_pack]
      omega
    unfold rawDec
    rw [List.append_assoc, List.append_assoc, e1]
    simp only [List.drop_left]
    rw [if_neg (by simp only [ne_eq, not_true, false_or, List.length_append]; omega), if_neg (by have := List.length_pos_iff.2 h0; omega), parsed_head _ _ (lensB_len b) (lnB_15 b)]
    simp only
    rw [if_pos ((right_of_nats _).2 hR), hz]
    exact takeN_put _ hR.ln hR.kraft z b hpos
theorem hread_put (b : List Nat) (hb : ∀ x ∈ b, x < 256) (hl : b.length ≤ 2 ^ 62) : hread (hput b) = some b := by
  have := rawDec_put b [] hb hl
  rw [List.append_nil] at this
  unfold hread
  rw [this]
  simp
theorem hread_more (b r : List Nat) (hb : ∀ x ∈ b, x < 256) (hl : b.length ≤ 2 ^ 62) (hr : r ≠ []) : hread (hput b ++ r) = none := by
  unfold hread
  rw [rawDec_put b r hb hl]
  simp [hr]
theorem hread_is {b x : List Nat} (h : hread b = some x) : hput x = b ∧ rawDec b = some x := by
  unfold hread at h
  cases hd : rawDec b with
  | none => rw [hd] at h; cases h
  | some y =>
    rw [hd] at h
    simp only at h
    split at h
    · simp only [Option.some.injEq] at h
      subst h
      exact ⟨by assumption, rfl⟩
    · cases h

end Go.Proofs.Ytclfbdfgmeliaaa

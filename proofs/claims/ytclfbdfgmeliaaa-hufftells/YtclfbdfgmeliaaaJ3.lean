/-
  Texts of ours, joined: HMath HFacts HRCnt Wide Tree RItems RMerged RInts PTally.
-/
import Derived.Test.YtclfbdfgmeliaaaJ2
import Derived.Test.YtclfbdfgmeliaaaJ1
import Derived.Test.YtclfbdfgmeliaaaRows
import Derived.WalkLawsBesides
import Derived.Deep.LoopGhost
import Derived.Deep.CutRange

/-
  Bytes in fewer bits: plain mathematics, no program: the bytes of any bytes, and how these are read.
-/
namespace Go.Proofs.Ytclfbdfgmeliaaa

/-- How often each byte is there. -/
def cntB (b : List Nat) : List Nat := (List.range 256).map fun s => b.count s
/-- The length of each byte's code. -/
def lensB (b : List Nat) : List Nat := pmLens (cntB b) 15

theorem cntB_len (b : List Nat) : (cntB b).length = 256 := by simp [cntB]
theorem cntB_get (b : List Nat) (s : Nat) (h : s < 256) : cnt (cntB b) s = b.count s := by unfold cnt cntB; simp [List.getD_eq_getElem?_getD, h]
theorem cntB_out (b : List Nat) (s : Nat) (h : 256 ≤ s) : cnt (cntB b) s = 0 := by
  unfold cnt
  rw [List.getD_eq_getElem?_getD, List.getElem?_eq_none (by rw [cntB_len]; exact h)]
  rfl
theorem syms_le (wt : Nat → Nat) : ∀ n, (symsTo wt n).length ≤ n
  | 0 => by simp [symsTo]
  | n + 1 => by
    have := syms_le wt n
    unfold symsTo
    split
    · omega
    · rw [(ins_perm _ n _).length_eq]; simp; omega
theorem thereB_le (b : List Nat) : (there (cntB b)).length ≤ 2 ^ 15 := Nat.le_trans (syms_le _ _) (by rw [cntB_len]; decide)
theorem lensB_len (b : List Nat) : (lensB b).length = 256 := by
  unfold lensB
  rw [len_pmLens (by rw [cntB_len]; omega) (thereB_le b), cntB_len]
theorem lnB (b : List Nat) (s : Nat) : ln (lensB b) s = if s < 256 then pmLen (cntB b) 15 s else 0 := by
  by_cases h : s < 256
  · rw [if_pos h]
    exact get_pmLens (by rw [cntB_len]; omega) (thereB_le b) s (by rw [cntB_len]; exact h)
  · rw [if_neg h]
    unfold ln
    rw [List.getD_eq_getElem?_getD, List.getElem?_eq_none (by rw [lensB_len]; omega)]
    rfl
theorem lnB_15 (b : List Nat) (s : Nat) : ln (lensB b) s ≤ 15 := by
  rw [lnB]
  split
  · exact (pmLen_pos (by omega) (thereB_le b) s).2
  · omega
theorem lnB_pos (b : List Nat) (s : Nat) (hs : s < 256) : 0 < ln (lensB b) s ↔ s ∈ b := by
  rw [lnB, if_pos hs, (pmLen_pos (by omega) (thereB_le b) s).1, cntB_get b s hs]
  exact List.count_pos_iff
theorem someOf_count (l : List Nat) (f : Nat → Nat) (n : Nat) (hl : l = (List.range n).map f) : someOf l = ((List.range n).filter fun s => decide (0 < f s)).length := by
  subst hl
  unfold someOf
  rw [List.countP_map, List.countP_eq_length_filter]
  rfl
/-- Lengths of bytes that are there may be. -/
theorem lensB_right (b : List Nat) (hb : ∀ x ∈ b, x < 256) (h0 : b ≠ []) : RightL (lensB b) := by
  have hm := thereB_le b
  refine ⟨by rw [lensB_len]; omega, fun n hn => ?_, ?_⟩
  · obtain ⟨i, hi⟩ := List.getElem?_of_mem hn
    have := lnB_15 b i
    unfold ln at this
    rw [List.getD_eq_getElem?_getD, hi] at this
    exact this
  · obtain ⟨x, hx⟩ := List.exists_mem_of_ne_nil b h0
    have hxm : x ∈ there (cntB b) := by
      rw [there_mem, cntB_get b x (hb x hx)]
      have := List.count_pos_iff.2 hx
      omega
    have hp : 0 < (there (cntB b)).length := List.length_pos_of_mem hxm
    by_cases h1 : (there (cntB b)).length = 1
    · left
      obtain ⟨y, hy⟩ := List.length_eq_one_iff.1 h1
      have hxy : x = y := by rw [hy] at hxm; simpa using hxm
      subst hxy
      have hval : ∀ s, pmLen (cntB b) 15 s = if s = x then 1 else 0 := fun s => by
        unfold pmLen
        rw [if_pos h1]
        by_cases hs : s = x
        · rw [if_pos hs, if_neg ((there_mem _ _).1 (by rw [hy, hs]; simp))]
        · rw [if_neg hs, if_pos ?_]
          rcases Nat.eq_zero_or_pos (cnt (cntB b) s) with h | h
          · exact h
          · have : s ∈ there (cntB b) := (there_mem _ _).2 (by omega)
            rw [hy] at this
            exact absurd (by simpa using this) hs
      have hle : lensB b = (List.range 256).map fun s => if s = x then 1 else 0 := by
        unfold lensB pmLens
        rw [if_neg (by rw [cntB_len]; omega), cntB_len]
        exact List.map_congr_left fun s _ => hval s
      constructor
      · rw [someOf_count _ _ 256 hle]
        have hxb := hb x hx
        have e : ((List.range 256).filter fun s => decide (0 < if s = x then 1 else 0)) = (List.range 256).filter fun s => s == x := by
          apply List.filter_congr
          intro s _
          by_cases hs : s = x <;> simp [hs]
        rw [e, ← List.countP_eq_length_filter]
        have := (List.nodup_range (n := 256)).count (a := x)
        unfold List.count at this
        rw [this, if_pos (List.mem_range.2 hxb)]
      · intro n hn h0
        rw [hle] at hn
        obtain ⟨s, -, rfl⟩ := List.mem_map.1 hn
        split at h0
        · rename_i h; rw [if_pos h]
        · omega
    · right
      exact kraft_full (by rw [cntB_len]; omega) (by omega) (by omega) (by omega) hm

/-- Where the next symbol's gap is counted from; the numbers of the head; symbols below s. -/
def nextTo (l : List Nat) : Nat → Nat
  | 0 => 0
  | s + 1 => if 0 < ln l s then s + 1 else nextTo l s
def rowsTo (l : List Nat) : Nat → List Nat
  | 0 => []
  | s + 1 => if 0 < ln l s then rowsTo l s ++ [s - nextTo l s, ln l s] else rowsTo l s
def someTo (l : List Nat) : Nat → Nat
  | 0 => 0
  | s + 1 => if 0 < ln l s then someTo l s + 1 else someTo l s
theorem nextTo_le (l : List Nat) : ∀ s, nextTo l s ≤ s
  | 0 => Nat.le_refl _
  | s + 1 => by have := nextTo_le l s; unfold nextTo; split <;> omega
theorem someTo_le (l : List Nat) : ∀ s, someTo l s ≤ s
  | 0 => Nat.le_refl _
  | s + 1 => by have := someTo_le l s; unfold someTo; split <;> omega
/-- The same from the front: k symbols from s on. -/
def rowsFrom (l : List Nat) : Nat → Nat → Nat → List Nat
  | 0, _, _ => []
  | k + 1, s, nx => if 0 < ln l s then (s - nx) :: ln l s :: rowsFrom l k (s + 1) (s + 1) else rowsFrom l k (s + 1) nx
def someFrom (l : List Nat) : Nat → Nat → Nat
  | 0, _ => 0
  | k + 1, s => if 0 < ln l s then someFrom l k (s + 1) + 1 else someFrom l k (s + 1)
theorem rows_join (l : List Nat) : ∀ k s, rowsTo l (s + k) = rowsTo l s ++ rowsFrom l k s (nextTo l s)
  | 0, s => by simp [rowsFrom]
  | k + 1, s => by
    rw [show s + (k + 1) = s + 1 + k by omega, rows_join l k (s + 1), show rowsFrom l (k + 1) s (nextTo l s) = if 0 < ln l s then (s - nextTo l s) :: ln l s :: rowsFrom l k (s + 1) (s + 1) else rowsFrom l k (s + 1) (nextTo l s) from rfl]
    by_cases h : 0 < ln l s
    · rw [if_pos h, show rowsTo l (s + 1) = rowsTo l s ++ [s - nextTo l s, ln l s] by rw [rowsTo, if_pos h], show nextTo l (s + 1) = s + 1 by rw [nextTo, if_pos h]]
      simp
    · rw [if_neg h, show rowsTo l (s + 1) = rowsTo l s by rw [rowsTo, if_neg h], show nextTo l (s + 1) = nextTo l s by rw [nextTo, if_neg h]]
theorem some_join (l : List Nat) : ∀ k s, someTo l (s + k) = someTo l s + someFrom l k s
  | 0, s => by simp [someFrom]
  | k + 1, s => by
    rw [show s + (k + 1) = s + 1 + k by omega, some_join l k (s + 1), show someFrom l (k + 1) s = if 0 < ln l s then someFrom l k (s + 1) + 1 else someFrom l k (s + 1) from rfl]
    by_cases h : 0 < ln l s
    · rw [if_pos h, show someTo l (s + 1) = someTo l s + 1 by rw [someTo, if_pos h]]; omega
    · rw [if_neg h, show someTo l (s + 1) = someTo l s by rw [someTo, if_neg h]]
theorem rows_all (l : List Nat) : rowsTo l 256 = rowsFrom l 256 0 0 := by
  have := rows_join l 256 0
  rw [Nat.zero_add] at this
  rw [this]
  rfl
theorem some_all (l : List Nat) : someTo l 256 = someFrom l 256 0 := by
  have := some_join l 256 0
  rw [Nat.zero_add] at this
  rw [this, show someTo l 0 = 0 from rfl, Nat.zero_add]

/-- Symbols one behind another. -/
def bitsOf (l : List Nat) : List Nat → List Bool
  | [] => []
  | s :: r => putBits (codeOf l s) (ln l s) ++ bitsOf l r
theorem bitsOf_append (l a b : List Nat) : bitsOf l (a ++ b) = bitsOf l a ++ bitsOf l b := by
  induction a with
  | nil => rfl
  | cons s a ih => simp [bitsOf, ih]
theorem bitsOf_le (l a : List Nat) (h : ∀ s, ln l s ≤ 15) : (bitsOf l a).length ≤ 15 * a.length := by
  induction a with
  | nil => simp [bitsOf]
  | cons s a ih => simp only [bitsOf, List.length_append, length_putBits, List.length_cons]; have := h s; omega
theorem bitsOf_ge (l a : List Nat) (h : ∀ s ∈ a, 0 < ln l s) : a.length ≤ (bitsOf l a).length := by
  induction a with
  | nil => simp [bitsOf]
  | cons s a ih =>
    simp only [bitsOf, List.length_append, length_putBits, List.length_cons]
    have := h s (by simp)
    have := ih (fun x hx => h x (by simp [hx]))
    omega
/-- The head of the lengths; the bytes of bytes. -/
def headOf (l : List Nat) : List Nat := enc (someTo l 256) ++ encs (rowsTo l 256)
def hput (b : List Nat) : List Nat := enc b.length ++ if b = [] then [] else headOf (lensB b) ++ pack (bitsOf (lensB b) b)

/-- Lengths that stand at the beginning of bytes: of n rows. -/
def parseL : Nat → List Nat → Nat → (Nat → Nat) → Option ((Nat → Nat) × List Nat)
  | 0, bs, _, f => some (f, bs)
  | n + 1, bs, nx, f =>
    if (took bs 255).2.2 ≠ 0 then none
    else if (took (bs.drop (took bs 255).2.1) 15).2.2 ≠ 0 ∨ 255 < nx + (took bs 255).1 then none
    else parseL n ((bs.drop (took bs 255).2.1).drop (took (bs.drop (took bs 255).2.1) 15).2.1) (nx + (took bs 255).1 + 1) (fun t => if t = nx + (took bs 255).1 then (took (bs.drop (took bs 255).2.1) 15).1 else f t)
def takeN (l : List Nat) : Nat → List Bool → Option (List Nat)
  | 0, _ => some []
  | n + 1, bits => match takeSym l bits with
    | none => none
    | some (s, k) => (takeN l n (bits.drop k)).map (s :: ·)
/-- The lengths of a function. -/
def listF (f : Nat → Nat) : List Nat := (List.range 256).map f
theorem listF_ln (f : Nat → Nat) (s : Nat) : ln (listF f) s = if s < 256 then f s else 0 := by
  unfold ln listF
  rw [List.getD_eq_getElem?_getD]
  by_cases h : s < 256
  · simp [h]
  · rw [if_neg h, List.getElem?_eq_none (by simp; omega)]; rfl
def parsed (bs : List Nat) : Option (List Nat × List Nat) :=
  if (took bs 256).2.2 ≠ 0 then none else (parseL (took bs 256).1 (bs.drop (took bs 256).2.1) 0 (fun _ => 0)).map fun r => (listF r.1, r.2)

theorem parse_rows (l : List Nat) (h15 : ∀ s, ln l s ≤ 15) (r : List Nat) : ∀ (k s nx : Nat) (f : Nat → Nat), s + k = 256 → nx ≤ s → (∀ t, f t = if t < s then ln l t else 0) →
    ∃ g, parseL (someFrom l k s) (encs (rowsFrom l k s nx) ++ r) nx f = some (g, r) ∧ ∀ t, t < 256 → g t = ln l t
  | 0, s, nx, f, hs, _, hf => ⟨f, by simp [someFrom, rowsFrom, parseL, encs], fun t ht => by rw [hf t, if_pos (by omega)]⟩
  | k + 1, s, nx, f, hs, hn, hf => by
    by_cases h : 0 < ln l s
    · have e1 := took_enc (s - nx) 255 (enc (ln l s) ++ (encs (rowsFrom l k (s + 1) (s + 1)) ++ r)) (by omega) (by omega)
      have e2 := took_enc (ln l s) 15 (encs (rowsFrom l k (s + 1) (s + 1)) ++ r) (by have := h15 s; omega) (h15 s)
      obtain ⟨g, hg, hgt⟩ := parse_rows l h15 r k (s + 1) (s + 1) (fun t => if t = s then ln l s else f t) (by omega) (Nat.le_refl _) (fun t => by
        by_cases ht : t = s
        · subst ht; rw [if_pos rfl, if_pos (by omega)]
        · rw [if_neg ht, hf t]
          by_cases h2 : t < s
          · rw [if_pos h2, if_pos (by omega)]
          · rw [if_neg h2, if_neg (by omega)])
      refine ⟨g, ?_, hgt⟩
      rw [someFrom, if_pos h, rowsFrom, if_pos h, encs_cons, encs_cons, List.append_assoc, List.append_assoc, parseL, e1]
      simp only [List.drop_left, e2, show nx + (s - nx) = s by omega]
      rw [if_neg (by simp), if_neg (by simp; omega)]
      exact hg
    · rw [someFrom, if_neg h, rowsFrom, if_neg h]
      refine parse_rows l h15 r k (s + 1) nx f (by omega) (by omega) (fun t => ?_)
      rw [hf t]
      by_cases h2 : t < s
      · rw [if_pos h2, if_pos (by omega)]
      · rw [if_neg h2]
        by_cases h3 : t = s
        · subst h3; rw [if_pos (by omega)]; omega
        · rw [if_neg (by omega)]
theorem parsed_head (l r : List Nat) (hl : l.length = 256) (h15 : ∀ s, ln l s ≤ 15) : parsed (headOf l ++ r) = some (l, r) := by
  unfold parsed headOf
  have e1 := took_enc (someTo l 256) 256 (encs (rowsTo l 256) ++ r) (by have := someTo_le l 256; omega) (someTo_le l 256)
  obtain ⟨g, hg, hgt⟩ := parse_rows l h15 r 256 0 0 (fun _ => 0) (by omega) (Nat.le_refl _) (fun t => by rw [if_neg (by omega)])
  rw [← some_all, ← rows_all] at hg
  rw [List.append_assoc, e1]
  simp only [List.drop_left]
  rw [if_neg (by simp), hg]
  simp only [Option.map_some, Option.some.injEq, Prod.mk.injEq, and_true]
  apply List.ext_getElem?
  intro i
  by_cases hi : i < 256
  · unfold listF
    rw [List.getElem?_map, List.getElem?_range hi, Option.map_some, hgt i hi]
    unfold ln
    rw [List.getD_eq_getElem?_getD, List.getElem?_eq_getElem (by omega)]
    rfl
  · rw [List.getElem?_eq_none (by simp [listF]; omega), List.getElem?_eq_none (by omega)]
theorem takeN_put (l : List Nat) (h15 : ∀ s, ln l s ≤ 15) (hk : kraftOf l ≤ 2 ^ 15) (r : List Bool) : ∀ (a : List Nat), (∀ s ∈ a, 0 < ln l s) → takeN l a.length (bitsOf l a ++ r) = some a
  | [], _ => rfl
  | s :: a, h => by
    rw [List.length_cons, takeN, bitsOf, List.append_assoc, take_put h15 hk (h s (by simp))]
    simp only
    rw [List.drop_left' (length_putBits _ _), takeN_put l h15 hk r a (fun x hx => h x (by simp [hx]))]
    rfl

/-- What is read, ahead of the look whether it is written so. -/
def rawDec (b : List Nat) : Option (List Nat) :=
  if (took b (2 ^ 62)).2.2 ≠ 0 ∨ 8 * b.length < (took b (2 ^ 62)).1 then none
  else if (took b (2 ^ 62)).1 = 0 then some []
  else match parsed (b.drop (took b (2 ^ 62)).2.1) with
    | none => none
    | some (l, r) => if rightB (l.map fun (n : Nat) => (n : Int)) = true then takeN l (took b (2 ^ 62)).1 (unpack r) else none
def hread (b : List Nat) : Option (List Nat) := match rawDec b with
  | none => none
  | some x => if hput x = b then some x else none

theorem unpack_append (a b : List Nat) : unpack (a ++ b) = unpack a ++ unpack b := by
  apply List.ext_getElem?
  intro i
  by_cases h1 : i < 8 * (a ++ b).length
  · rw [get_unpack _ _ h1]
    by_cases h2 : i < 8 * a.length
    · rw [List.getElem?_append_left (by rw [length_unpack]; exact h2), get_unpack _ _ h2]
      unfold bitAt
      congr 2
      rw [List.getD_eq_getElem?_getD, List.getD_eq_getElem?_getD, List.getElem?_append_left (by omega)]
    · rw [List.length_append] at h1
      rw [List.getElem?_append_right (by rw [length_unpack]; omega), length_unpack, get_unpack _ _ (by omega)]
      unfold bitAt
      congr 2
      · rw [List.getD_eq_getElem?_getD, List.getD_eq_getElem?_getD, List.getElem?_append_right (by omega)]
        congr 2
        omega
      · omega
  · rw [List.getElem?_eq_none (by rw [length_unpack]; omega), List.getElem?_eq_none (by rw [List.length_append, length_unpack, length_unpack]; rw [List.length_append] at h1; omega)]
theorem unpack_pack (bl : List Bool) (r : List Nat) : ∃ z, unpack (pack bl ++ r) = bl ++ z := by
  rw [unpack_append, (packs_pack bl).unpack, List.append_assoc]
  exact ⟨_, rfl⟩
/-- What was put is read, whatever is behind it. -/
theorem rawDec_put (b r : List Nat) (hb : ∀ x ∈ b, x < 256) (hl : b.length ≤ 2 ^ 62) : rawDec (hput b ++ r) = some b := by
  have h62 : (2 : Nat) ^ 62 = 4611686018427387904 := by decide
  unfold hput
  by_cases h0 : b = []
  · subst h0
    rw [if_pos rfl, List.append_nil]
    unfold rawDec
    rw [took_enc _ _ r (by simp) (by simp), if_neg (by simp)]
    rfl
  · rw [if_neg h0]
    have hR := lensB_right b hb h0
    have hpos : ∀ s ∈ b, 0 < ln (lensB b) s := fun s hs => (lnB_pos b s (hb s hs)).2 hs
    obtain ⟨z, hz⟩ := unpack_pack (bitsOf (lensB b) b) r
    have e1 := took_enc b.length (2 ^ 62) (headOf (lensB b) ++ (pack (bitsOf (lensB b) b) ++ r)) (by omega) hl
    have hlen : b.length ≤ 8 * (pack (bitsOf (lensB b) b)).length := by
      have := bitsOf_ge (lensB b) b hpos
      rw [length_pack]
      omega
    unfold rawDec
    rw [List.append_assoc, List.append_assoc, e1]
    simp only [List.drop_left]
    rw [if_neg (by simp only [ne_eq, not_true, false_or, List.length_append]; omega), if_neg (by have := List.length_pos_iff.2 h0; omega), parsed_head _ _ (lensB_len b) (lnB_15 b)]
    simp only
    rw [if_pos ((right_of_nats _).2 hR), hz]
    exact takeN_put _ hR.ln hR.kraft z b hpos
theorem hread_put (b : List Nat) (hb : ∀ x ∈ b, x < 256) (hl : b.length ≤ 2 ^ 62) : hread (hput b) = some b := by
  have := rawDec_put b [] hb hl
  rw [List.append_nil] at this
  unfold hread
  rw [this]
  simp
theorem hread_more (b r : List Nat) (hb : ∀ x ∈ b, x < 256) (hl : b.length ≤ 2 ^ 62) (hr : r ≠ []) : hread (hput b ++ r) = none := by
  unfold hread
  rw [rawDec_put b r hb hl]
  simp [hr]
theorem hread_is {b x : List Nat} (h : hread b = some x) : hput x = b ∧ rawDec b = some x := by
  unfold hread at h
  cases hd : rawDec b with
  | none => rw [hd] at h; cases h
  | some y =>
    rw [hd] at h
    simp only at h
    split at h
    · simp only [Option.some.injEq] at h
      subst h
      exact ⟨by assumption, rfl⟩
    · cases h

end Go.Proofs.Ytclfbdfgmeliaaa

/-
  What is known of bytes in fewer bits: no beginning of them is read; how long they are. Plain mathematics, no program.
-/
namespace Go.Proofs.Ytclfbdfgmeliaaa

theorem takeSym_lt {l : List Nat} {bits : List Bool} {s k : Nat} (h : takeSym l bits = some (s, k)) : s < l.length := by
  have : ∀ f n, seekSym l bits n f = some (s, k) → s < l.length := by
    intro f
    induction f with
    | zero => intro n h; cases h
    | succ f ih =>
      intro n h
      unfold seekSym at h
      split at h
      · cases h
      · cases hf : findSym l n (num (bits.take n)) with
        | none => rw [hf] at h; exact ih _ h
        | some t =>
          rw [hf] at h
          simp only [Option.some.injEq, Prod.mk.injEq] at h
          rw [← h.1]
          exact (findSym_some hf).1
  exact this _ _ h
theorem takeN_is {l : List Nat} : ∀ (n : Nat) (bits : List Bool) (x : List Nat), takeN l n bits = some x → x.length = n ∧ ∀ s ∈ x, s < l.length
  | 0, _, x, h => by
    simp only [takeN, Option.some.injEq] at h
    subst h
    exact ⟨rfl, fun s hs => by cases hs⟩
  | n + 1, bits, x, h => by
    unfold takeN at h
    cases ht : takeSym l bits with
    | none => rw [ht] at h; cases h
    | some p =>
      obtain ⟨s, k⟩ := p
      rw [ht] at h
      simp only at h
      cases hr : takeN l n (bits.drop k) with
      | none => rw [hr] at h; cases h
      | some y =>
        rw [hr] at h
        simp only [Option.map_some, Option.some.injEq] at h
        subst h
        obtain ⟨h1, h2⟩ := takeN_is n _ y hr
        refine ⟨by simp [h1], fun t ht2 => ?_⟩
        rcases List.mem_cons.1 ht2 with rfl | h3
        · exact takeSym_lt ht
        · exact h2 t h3
theorem took_most (b : List Nat) (m : Nat) : (took b m).1 ≤ m := by
  unfold took
  split
  · simp
  · split
    · simp
    · simp only; omega
theorem parsed_len {bs l r : List Nat} (h : parsed bs = some (l, r)) : l.length = 256 := by
  unfold parsed at h
  split at h
  · cases h
  · cases hp : parseL (took bs 256).1 (bs.drop (took bs 256).2.1) 0 (fun _ => 0) with
    | none => rw [hp] at h; cases h
    | some p =>
      rw [hp] at h
      simp only [Option.map_some, Option.some.injEq, Prod.mk.injEq] at h
      rw [← h.1]
      simp [listF]
theorem rawDec_is {b x : List Nat} (h : rawDec b = some x) : x.length ≤ 2 ^ 62 ∧ ∀ s ∈ x, s < 256 := by
  unfold rawDec at h
  split at h
  · cases h
  · split at h
    · simp only [Option.some.injEq] at h
      subst h
      exact ⟨by simp, fun s hs => by cases hs⟩
    · cases hp : parsed (b.drop (took b (2 ^ 62)).2.1) with
      | none => rw [hp] at h; cases h
      | some q =>
        obtain ⟨l, r⟩ := q
        rw [hp] at h
        simp only at h
        split at h
        · obtain ⟨h1, h2⟩ := takeN_is _ _ _ h
          rw [parsed_len hp] at h2
          exact ⟨by rw [h1]; exact took_most _ _, h2⟩
        · cases h
/-- No beginning is read. -/
theorem hread_cut (b : List Nat) (hb : ∀ x ∈ b, x < 256) (hl : b.length ≤ 2 ^ 62) (k : Nat) (hk : k < (hput b).length) : hread ((hput b).take k) = none := by
  cases h : hread ((hput b).take k) with
  | none => rfl
  | some x =>
    exfalso
    obtain ⟨h1, h2⟩ := hread_is h
    obtain ⟨h3, h4⟩ := rawDec_is h2
    have h5 := rawDec_put x ((hput b).drop k) h4 h3
    rw [h1, List.take_append_drop] at h5
    have h6 := rawDec_put b [] hb hl
    rw [List.append_nil, h5] at h6
    simp only [Option.some.injEq] at h6
    subst h6
    have := congrArg List.length h1
    rw [List.length_take] at this
    omega

theorem bitsOf_len (l : List Nat) : ∀ b, (bitsOf l b).length = (b.map (ln l)).sum
  | [] => rfl
  | s :: b => by rw [bitsOf, List.length_append, length_putBits, bitsOf_len l b, List.map_cons, List.sum_cons]
theorem hput_len (b : List Nat) (h : b ≠ []) : (hput b).length = (enc b.length).length + ((headOf (lensB b)).length + ((b.map (ln (lensB b))).sum + 7) / 8) := by
  unfold hput
  rw [if_neg h, List.length_append, List.length_append, length_pack, bitsOf_len]
theorem hput_pos (b : List Nat) : 0 < (hput b).length := by
  unfold hput
  rw [List.length_append]
  have := enc_pos b.length
  omega
theorem cntB_perm {a b : List Nat} (h : List.Perm a b) : cntB a = cntB b := by
  unfold cntB
  exact List.map_congr_left fun s _ => h.count_eq s
/-- How long it is hangs on how often each byte is there alone. -/
theorem hput_perm {a b : List Nat} (h : List.Perm a b) : (hput a).length = (hput b).length := by
  by_cases h0 : a = []
  · subst h0
    rw [List.nil_perm.1 h]
  · have h1 : b ≠ [] := fun e => h0 (by subst e; exact List.perm_nil.1 h)
    have hl : lensB a = lensB b := by unfold lensB; rw [cntB_perm h]
    rw [hput_len a h0, hput_len b h1, hl, h.length_eq, (h.map (ln (lensB b))).sum_nat]

theorem sum_cntB : ∀ (b : List Nat), (∀ x ∈ b, x < 256) → (cntB b).sum = b.length
  | [], _ => by
    unfold cntB
    rw [sum_congr (l := List.range 256) (g := fun _ => 0) (fun s _ => List.count_nil), sum_const_map, Nat.mul_zero, List.length_nil]
  | a :: b, h => by
    have ih := sum_cntB b (fun x hx => h x (by simp [hx]))
    have ha := h a (by simp)
    have e : cntB (a :: b) = (List.range 256).map fun s => b.count s + if s = a then 1 else 0 := by
      unfold cntB
      apply List.map_congr_left
      intro s _
      rw [List.count_cons]
      by_cases hs : s = a
      · subst hs; simp
      · rw [if_neg hs, if_neg (by simpa using fun h2 : a = s => hs h2.symm)]
    rw [e, sum_add (List.range 256) (fun s => b.count s) (fun s => if s = a then 1 else 0), sum_one 256 a 1 ha, List.length_cons]
    unfold cntB at ih
    omega

/-- One or two byte values: a bit each. -/
theorem ln_few {b : List Nat} (hb : ∀ x ∈ b, x < 256) {u v : Nat} (huv : ∀ x ∈ b, x = u ∨ x = v) (s : Nat) (hs : s ∈ b) : ln (lensB b) s = 1 := by
  have h0 : b ≠ [] := fun e => by subst e; cases hs
  have hR := lensB_right b hb h0
  have hs1 := (lnB_pos b s (hb s hs)).2 hs
  have hs15 := lnB_15 b s
  rcases hR.how with ⟨h1, h2⟩ | hk
  · refine h2 _ ?_ hs1
    unfold ln
    exact getD_mem (by rw [lensB_len]; exact hb s hs)
  · have hsum : kraftOf (lensB b) = ((List.range 256).map fun t => if 1 ≤ ln (lensB b) t ∧ ln (lensB b) t ≤ 15 then 2 ^ (15 - ln (lensB b) t) else 0).sum := by
      unfold kraftOf
      rw [← map_ln (lensB b), lensB_len]
    have hle : ((List.range 256).map fun t => if 1 ≤ ln (lensB b) t ∧ ln (lensB b) t ≤ 15 then 2 ^ (15 - ln (lensB b) t) else 0).sum ≤ ((List.range 256).map fun t => (if t = u then (if u ∈ b then 2 ^ (15 - ln (lensB b) u) else 0) else 0) + (if t = v then (if v ∈ b ∧ v ≠ u then 2 ^ (15 - ln (lensB b) v) else 0) else 0)).sum := by
      refine sum_le fun t ht => ?_
      have ht := List.mem_range.1 ht
      by_cases h3 : t ∈ b
      · have := (lnB_pos b t ht).2 h3
        rw [if_pos ⟨this, lnB_15 b t⟩]
        by_cases h4 : t = u
        · subst h4; rw [if_pos rfl, if_pos h3]; omega
        · have h5 : t = v := (huv t h3).resolve_left h4
          subst h5
          rw [if_neg h4, if_pos rfl, if_pos ⟨h3, h4⟩]; omega
      · have : ¬ 0 < ln (lensB b) t := fun h => h3 ((lnB_pos b t ht).1 h)
        rw [if_neg (by omega)]
        exact Nat.zero_le _
    have hpow : ∀ t, 2 ≤ ln (lensB b) t → 2 ^ (15 - ln (lensB b) t) ≤ 8192 := fun t ht => Nat.le_trans (Nat.pow_le_pow_right (by omega) (by omega : 15 - ln (lensB b) t ≤ 13)) (by decide)
    have hpow1 : ∀ t, 1 ≤ ln (lensB b) t → 2 ^ (15 - ln (lensB b) t) ≤ 16384 := fun t ht => Nat.le_trans (Nat.pow_le_pow_right (by omega) (by omega : 15 - ln (lensB b) t ≤ 14)) (by decide)
    have s1 : ∀ (w c : Nat), ((List.range 256).map fun t => if t = w then c else 0).sum ≤ c := fun w c => by
      by_cases hw : w < 256
      · rw [sum_one 256 w c hw]; exact Nat.le_refl _
      · rw [sum_congr (l := List.range 256) (g := fun _ => 0) (fun t ht => by rw [if_neg (by have := List.mem_range.1 ht; omega)]), sum_const_map]
        simp
    rw [sum_add] at hle
    have bu : (if u ∈ b then 2 ^ (15 - ln (lensB b) u) else 0) ≤ 16384 := by
      split
      · rename_i h; exact hpow1 u ((lnB_pos b u (hb u h)).2 h)
      · omega
    have bv : (if v ∈ b ∧ v ≠ u then 2 ^ (15 - ln (lensB b) v) else 0) ≤ 16384 := by
      split
      · rename_i h; exact hpow1 v ((lnB_pos b v (hb v h.1)).2 h.1)
      · omega
    have eu : s = u → (if u ∈ b then 2 ^ (15 - ln (lensB b) u) else 0) = 2 ^ (15 - ln (lensB b) s) := fun e => by rw [← e, if_pos hs]
    have ev : s = v → s ≠ u → (if v ∈ b ∧ v ≠ u then 2 ^ (15 - ln (lensB b) v) else 0) = 2 ^ (15 - ln (lensB b) s) := fun e h => by rw [← e, if_pos ⟨hs, h⟩]
    generalize (if u ∈ b then 2 ^ (15 - ln (lensB b) u) else 0) = cU at hle bu eu
    generalize (if v ∈ b ∧ v ≠ u then 2 ^ (15 - ln (lensB b) v) else 0) = cV at hle bv ev
    have ha := s1 u cU
    have hc := s1 v cV
    have hk2 : (2 : Nat) ^ 15 = 32768 := by decide
    by_cases h2 : 2 ≤ ln (lensB b) s
    · exfalso
      have := hpow s h2
      rw [hsum] at hk
      by_cases h3 : s = u
      · have := eu h3
        omega
      · have := ev ((huv s hs).resolve_left h3) h3
        omega
    · omega

theorem enc_one (v : Nat) (h : v < 128) : (enc v).length = 1 := by rw [enc_small v h]; rfl
theorem enc_two (v : Nat) (h : 128 ≤ v) (h2 : v < 16384) : (enc v).length = 2 := by rw [enc_big v h, enc_small _ (by omega)]; rfl
theorem rows_few (l : List Nat) (h15 : ∀ s, ln l s ≤ 15) : ∀ s, s ≤ 256 → (encs (rowsTo l s)).length ≤ 3 * someTo l s
  | 0, _ => by simp [rowsTo, encs]
  | s + 1, h => by
    have ih := rows_few l h15 s (by omega)
    rw [rowsTo, someTo]
    by_cases h0 : 0 < ln l s
    · rw [if_pos h0, if_pos h0]
      have e : encs (rowsTo l s ++ [s - nextTo l s, ln l s]) = encs (rowsTo l s) ++ (enc (s - nextTo l s) ++ enc (ln l s)) := by simp [encs]
      have h1 : (enc (s - nextTo l s)).length ≤ 2 := by
        by_cases hg : s - nextTo l s < 128
        · rw [enc_one _ hg]; omega
        · rw [enc_two _ (by omega) (by omega)]; omega
      rw [e, List.length_append, List.length_append, enc_one (ln l s) (by have := h15 s; omega)]
      omega
    · rw [if_neg h0, if_neg h0]; exact ih
theorem some_few (l : List Nat) (u v : Nat) (h : ∀ t, 0 < ln l t → t = u ∨ t = v) : ∀ s, someTo l s ≤ (if u < s then 1 else 0) + (if v < s then 1 else 0)
  | 0 => by simp [someTo]
  | s + 1 => by
    have ih := some_few l u v h s
    rw [someTo]
    by_cases h0 : 0 < ln l s
    · rw [if_pos h0]
      rcases h s h0 with rfl | rfl
      · rw [if_neg (by omega)] at ih
        rw [if_pos (by omega)]
        split at ih <;> split <;> omega
      · rw [if_neg (c := s < s) (by omega)] at ih
        rw [if_pos (c := s < s + 1) (by omega)]
        split at ih <;> split <;> omega
    · rw [if_neg h0]
      split at ih <;> split at ih <;> split <;> split <;> omega
/-- Bytes of one value or two take few bytes. -/
theorem hput_small {b : List Nat} (h0 : b ≠ []) (hb : ∀ x ∈ b, x < 256) {u v : Nat} (huv : ∀ x ∈ b, x = u ∨ x = v) (hl : b.length ≤ 2000) : (hput b).length ≤ 2 + 1 + 6 + (b.length + 7) / 8 ∧ (b.length + 7) / 8 < (hput b).length := by
  have hs : (b.map (ln (lensB b))).sum = b.length := by
    have : b.map (ln (lensB b)) = b.map fun _ => 1 := List.map_congr_left fun s hs => ln_few hb huv s hs
    rw [this, sum_const_map, Nat.mul_one]
  have h2 : someTo (lensB b) 256 ≤ 2 := by
    have := some_few (lensB b) u v (fun t ht => by
      have ht2 : t < 256 := by
        rcases Nat.lt_or_ge t 256 with h | h
        · exact h
        · rw [lnB, if_neg (by omega)] at ht; omega
      exact huv t ((lnB_pos b t ht2).1 ht)) 256
    split at this <;> split at this <;> omega
  have h3 := rows_few (lensB b) (lnB_15 b) 256 (Nat.le_refl _)
  have h4 : (enc b.length).length ≤ 2 := by
    by_cases h : b.length < 128
    · rw [enc_one _ h]; omega
    · rw [enc_two _ (by omega) (by omega)]; omega
  have h5 := enc_pos b.length
  rw [hput_len b h0, hs]
  unfold headOf
  rw [List.length_append, enc_one (someTo (lensB b) 256) (by omega)]
  omega

/-- Sums of numbers that are at least c, and together no more: each is c. -/
theorem sum_each (g : Nat → Nat) (c : Nat) : ∀ n, (∀ s, s < n → c ≤ g s) → ((List.range n).map g).sum ≤ n * c → ∀ s, s < n → g s = c
  | 0, _, _, s, hs => by omega
  | n + 1, h1, h2, s, hs => by
    rw [List.range_succ, List.map_append, List.sum_append] at h2
    simp only [List.map_cons, List.map_nil, List.sum_cons, List.sum_nil, Nat.add_zero] at h2
    have hlow : n * c ≤ ((List.range n).map g).sum := by
      have := sum_le (l := List.range n) (f := fun _ => c) (g := g) (fun t ht => h1 t (by have := List.mem_range.1 ht; omega))
      rw [sum_const_map, List.length_range] at this
      exact this
    have hn := h1 n (by omega)
    rw [Nat.succ_mul] at h2
    by_cases e : s = n
    · subst e; omega
    · exact sum_each g c n (fun t ht => h1 t (by omega)) (by omega) s (by omega)
theorem curve (x : Nat) (h1 : 1 ≤ x) (h2 : x ≤ 15) : 1152 ≤ 2 ^ (15 - x) + 128 * x ∧ (2 ^ (15 - x) + 128 * x = 1152 → 128 ≤ 2 ^ (15 - x)) ∧ (2 ^ (15 - x) = 128 → x = 8) := by
  have hm : x = 1 ∨ x = 2 ∨ x = 3 ∨ x = 4 ∨ x = 5 ∨ x = 6 ∨ x = 7 ∨ x = 8 ∨ x = 9 ∨ x = 10 ∨ x = 11 ∨ x = 12 ∨ x = 13 ∨ x = 14 ∨ x = 15 := by omega
  rcases hm with rfl | rfl | rfl | rfl | rfl | rfl | rfl | rfl | rfl | rfl | rfl | rfl | rfl | rfl | rfl <;> decide
/-- All bytes, each as often: eight bits each. -/
theorem ln_all {b : List Nat} {k : Nat} (hk : 0 < k) (hc : ∀ s, s < 256 → b.count s = k) (s : Nat) (hs : s < 256) : ln (lensB b) s = 8 := by
  have hm := thereB_le b
  have hcnt : ∀ t, t < 256 → cnt (cntB b) t = k := fun t ht => by rw [cntB_get b t ht]; exact hc t ht
  have hpos : ∀ t, t < 256 → 1 ≤ ln (lensB b) t := fun t ht => by
    rw [lnB, if_pos ht]
    have := (pmLen_pos (L := 15) (by omega) hm t).1.2 (by rw [hcnt t ht]; exact hk)
    omega
  have hth2 : 2 ≤ (there (cntB b)).length := by
    have h0 : 0 ∈ there (cntB b) := (there_mem _ _).2 (by rw [hcnt 0 (by omega)]; omega)
    have h1 : 1 ∈ there (cntB b) := (there_mem _ _).2 (by rw [hcnt 1 (by omega)]; omega)
    match hl : there (cntB b), h0, h1 with
    | [], h0, _ => cases h0
    | [x], h0, h1 => simp at h0 h1; omega
    | _ :: _ :: _, _, _ => simp
  have hK : ((List.range 256).map fun t => 2 ^ (15 - ln (lensB b) t)).sum = 32768 := by
    have h1 := kraft_full (counts := cntB b) (L := 15) (by rw [cntB_len]; omega) (by omega) (by omega) hth2 hm
    have h2 : kraftOf (lensB b) = ((List.range 256).map fun t => if 1 ≤ ln (lensB b) t ∧ ln (lensB b) t ≤ 15 then 2 ^ (15 - ln (lensB b) t) else 0).sum := by
      unfold kraftOf
      rw [← map_ln (lensB b), lensB_len]
    rw [show pmLens (cntB b) 15 = lensB b from rfl, h2] at h1
    rw [← show (2 : Nat) ^ 15 = 32768 by decide, ← h1]
    refine sum_congr fun t ht => ?_
    rw [if_pos ⟨hpos t (List.mem_range.1 ht), lnB_15 b t⟩]
  have hX : ((List.range 256).map fun t => ln (lensB b) t).sum ≤ 2048 := by
    have hth : (there (cntB b)).length ≤ 2 ^ 8 := Nat.le_trans (syms_le _ _) (by rw [cntB_len]; decide)
    have h1 := cost_flat (counts := cntB b) (L := 15) (f := 8) (by omega) hth (by omega) (by omega)
    unfold costBy at h1
    rw [cntB_len] at h1
    have e1 : ((List.range 256).map fun t => cnt (cntB b) t * pmLen (cntB b) 15 t).sum = ((List.range 256).map fun t => k * ln (lensB b) t).sum := sum_congr fun t ht => by rw [hcnt t (List.mem_range.1 ht), lnB, if_pos (List.mem_range.1 ht)]
    have e2 : ((List.range 256).map fun t => cnt (cntB b) t * if cnt (cntB b) t = 0 then 0 else 8).sum = ((List.range 256).map fun _ => k * 8).sum := sum_congr fun t ht => by rw [hcnt t (List.mem_range.1 ht), if_neg (by omega)]
    rw [e1, e2, sum_const_map, List.length_range] at h1
    have e3 : ∀ (r : List Nat), (r.map fun t => k * ln (lensB b) t).sum = k * (r.map fun t => ln (lensB b) t).sum := fun r => by
      induction r with
      | nil => simp
      | cons a r ih => rw [List.map_cons, List.sum_cons, List.map_cons, List.sum_cons, ih, Nat.mul_add]
    rw [e3] at h1
    refine Nat.le_of_mul_le_mul_left ?_ hk
    rw [show k * 2048 = 256 * (k * 8) by omega]
    exact h1
  have hE := sum_each (fun t => 2 ^ (15 - ln (lensB b) t) + 128 * ln (lensB b) t) 1152 256 (fun t ht => (curve _ (hpos t ht) (lnB_15 b t)).1) (by
    rw [sum_add (List.range 256) (fun t => 2 ^ (15 - ln (lensB b) t)) (fun t => 128 * ln (lensB b) t), hK]
    have e3 : ∀ (r : List Nat), (r.map fun t => 128 * ln (lensB b) t).sum = 128 * (r.map fun t => ln (lensB b) t).sum := fun r => by
      induction r with
      | nil => simp
      | cons a r ih => rw [List.map_cons, List.sum_cons, List.map_cons, List.sum_cons, ih, Nat.mul_add]
    rw [e3]
    omega)
  have hP := sum_each (fun t => 2 ^ (15 - ln (lensB b) t)) 128 256 (fun t ht => (curve _ (hpos t ht) (lnB_15 b t)).2.1 (hE t ht)) (by rw [hK]; omega)
  exact (curve _ (hpos s hs) (lnB_15 b s)).2.2 (hP s hs)
theorem rows_even (l : List Nat) (h : ∀ s, s < 256 → ln l s = 8) : ∀ s, s ≤ 256 → (encs (rowsTo l s)).length = 2 * s ∧ nextTo l s = s ∧ someTo l s = s
  | 0, _ => ⟨rfl, rfl, rfl⟩
  | s + 1, hs => by
    obtain ⟨h1, h2, h3⟩ := rows_even l h s (by omega)
    have h8 := h s (by omega)
    rw [rowsTo, nextTo, someTo, if_pos (by omega), if_pos (by omega), if_pos (by omega), h2, h3, h8, Nat.sub_self]
    refine ⟨?_, rfl, rfl⟩
    have e : encs (rowsTo l s ++ [0, 8]) = encs (rowsTo l s) ++ (enc 0 ++ enc 8) := by simp [encs]
    rw [e, List.length_append, List.length_append, h1, enc_one 0 (by omega), enc_one 8 (by omega)]
    omega
/-- Bytes of all values, each as often. -/
theorem hput_all {b : List Nat} {k : Nat} (hk : 0 < k) (hk5 : k ≤ 5) (hb : ∀ x ∈ b, x < 256) (hc : ∀ s, s < 256 → b.count s = k) (hl : b.length = 256 * k) : (hput b).length = 2 + 2 + 512 + 256 * k := by
  have h0 : b ≠ [] := fun e => by subst e; simp at hl; omega
  have hs : (b.map (ln (lensB b))).sum = 8 * b.length := by
    have : b.map (ln (lensB b)) = b.map fun _ => 8 := List.map_congr_left fun s hs => ln_all hk hc s (hb s hs)
    rw [this, sum_const_map, Nat.mul_comm]
  obtain ⟨h1, -, h3⟩ := rows_even (lensB b) (fun s hs => ln_all hk hc s hs) 256 (Nat.le_refl _)
  rw [hput_len b h0, hs]
  unfold headOf
  rw [List.length_append, h1, h3, enc_two 256 (by omega) (by omega), enc_two _ (by omega) (by omega)]
  omega

end Go.Proofs.Ytclfbdfgmeliaaa

/-
  The contract of the reference's Counts.
-/
namespace Go.Proofs.Ytclfbdfgmeliaaa
open Go.RowKit

theorem count_step {bs : List Nat} {i : Nat} (h : i < bs.length) (s : Nat) : (bs.take (i + 1)).count s = (bs.take i).count s + if s = bs.getD i 0 then 1 else 0 := by
  rw [take_step h, List.count_append, List.count_singleton]
  congr 1
  by_cases e : s = bs.getD i 0
  · rw [if_pos e, if_pos (by simpa using e.symm)]
  · rw [if_neg e, if_neg (by simpa using fun h2 : bs.getD i 0 = s => e h2.symm)]
/-- A byte, in memory. -/
theorem Reads.at {k : IntKind} {w : World} {a : Option Addr} {n c : Nat} {bs : List Nat} (h : Reads k w (.slice a n c) bs) (hn : n = bs.length) (i : Nat) (hi : i < n) : ∃ b off, a = some ⟨b, off, none⟩ ∧ b < w.heap.size ∧ w.cell? ⟨b, off + i, none⟩ = some (.int k ((bs.getD i 0 : Nat) : Int)) := by
  obtain ⟨a', c', e, -, hc⟩ := h
  simp only [Value.slice.injEq] at e
  obtain ⟨b, off, e2, hcell⟩ := hc (by rw [length_row]; omega)
  have h1 := hcell i _ (row_get k bs i (by omega))
  exact ⟨b, off, by rw [e.1, e2], World.block_lt_of_cell? _ _ h1, h1⟩

set_option maxRecDepth 4000 in
set_option maxHeartbeats 800000 in
theorem refCounts_any (v : Value) (bs : List Nat) (w : World) (h : Reads .u8 w v bs) (hb : ∀ x ∈ bs, x < 256) (hl : bs.length ≤ 1000000000) :
    Calls Try.prog 14 #[v] w fun e w' => ∃ sv, e = .returned sv ∧ Reads .i64 w' sv (cntB bs) ∧ Fr w w' (fun _ => False) ∧ (∀ k, sv.ownBlock = some k → w.heap.size ≤ k) := by
  obtain ⟨a0, c0, rfl, hc0, -⟩ := id h
  rw [length_row] at h hc0 ⊢
  obtain ⟨n, hn⟩ : ∃ n, n = bs.length := ⟨_, rfl⟩
  rw [← hn] at h hl hc0 ⊢
  have Hr : Hid (Reads .u8 w (.slice a0 n c0) bs) := h
  have Hn : Hid _ := hn
  have Hb : Hid _ := hb
  clear h hn hb
  obtain ⟨i0, hi0, hz0, hz1, hz2⟩ := info_parts infoIntC
  go_enter Try.func14, Try.ntmps14
  go_wp2_with (at_make; refine wpList_make_full _ rfl _ _ 28 rfl 0 3 i0 (.int .i64 0) 1 Try.underlying28 hi0 hz0 hz1 _ _ _ _ 256 rfl rfl rfl rfl ?b1 ?b2 (Nat.zero_le _) ?_)
  case b1 => rw [hz2]; omega
  case b2 => unfold maxLen; omega
  intro wm hown hgrow
  rw [zeros_fnRow] at hown
  have hfm : Fr w wm (fun _ => False) := (Fr.refl w _).grown hgrow (fun k hk => by cases hk)
  obtain ⟨g, hg⟩ : ∃ g, g = w.heap.size := ⟨_, rfl⟩
  rw [← hg] at hown ⊢
  have Hgw : Hid (w.heap.size ≤ g) := by show _ ≤ _; omega
  have Hkeep : Hid (∀ x, Fr wm x (fun k => k = g) → Reads .u8 x (.slice a0 n c0) bs) := fun x hx => by
    have h1 : Reads .u8 wm (.slice a0 n c0) bs := Hr.out.keep hfm
    refine h1.frame' hx (fun h0 k hk e => ?_)
    obtain ⟨b, off, e2, hb2, -⟩ := Hr.out.at Hn.out 0 (by rw [Hn.out]; exact h0)
    rw [e2] at hk
    simp [Value.ownBlock] at hk
    omega
  have Hown : Hid (OwnC wm (.slice (some ⟨g, 0, none⟩) 256 256) (fnRow 256 (fun s => (bs.take 0).count s))) := by
    have e : fnRow 256 (fun s => (bs.take 0).count s) = fnRow 256 (fun _ => 0) := fnRow_congr 256 fun t _ => by simp
    rw [e]
    unfold OwnC
    rw [fnRow_length]
    exact hown
  have Hfm : Hid _ := hfm
  clear hgrow hfm hown hi0 hz0 hz1 hz2 hg
  go_wp2_with fail
  go_loopg [4] n (fun g' I wr => ∃ i : Nat, g' = n - i ∧ i ≤ n ∧ I = .int .i64 (i : Int) ∧ OwnC wr (.slice (some ⟨g, 0, none⟩) 256 256) (fnRow 256 (fun s => (bs.take i).count s)) ∧ Fr wm wr (fun k => k = g))
  case atStart => exact ⟨0, rfl, by omega, rfl, Hown.out, Fr.refl _ _⟩
  case round =>
    obtain ⟨i, hg', hi, rfl, ho, hf⟩ := hrel
    have Hg' : Hid _ := hg'
    have Ho : Hid (OwnC wr (.slice (some ⟨g, 0, none⟩) 256 256) (fnRow 256 (fun s => (bs.take i).count s))) := ho
    have Hf : Hid (Fr wm wr (fun k => k = g)) := hf
    clear hg' ho hf
    by_cases hlt : i < n
    · obtain ⟨bb, off, rfl, hbb, cx⟩ := (Hkeep.out _ Hf.out).at Hn.out i hlt
      obtain ⟨x, hx⟩ : ∃ x, x = bs.getD i 0 := ⟨_, rfl⟩
      have hx256 : x < 256 := by rw [hx]; exact Hb.out _ (getD_mem (by rw [← Hn.out]; exact hlt))
      have Hstep : Hid (∀ s, (bs.take (i + 1)).count s = (bs.take i).count s + if s = x then 1 else 0) := fun s => by rw [hx]; exact count_step (by rw [← Hn.out]; exact hlt) s
      rw [← hx] at cx
      clear hx hbb
      have hoc := Ho.out
      unfold OwnC at hoc
      rw [fnRow_length] at hoc
      have hfz := World.ownsRow.frozenAt hoc x
      have hce : wr.cell? ⟨g, x, none⟩ = some (.int .i64 (((bs.take i).count x : Nat) : Int)) := by
        rw [World.ownsRow.cellAt hoc x (by omega)]
        simp [row, fnRow, hx256]
      have hcb : (bs.take i).count x ≤ i := Nat.le_trans List.count_le_length (by rw [List.length_take]; omega)
      have Hset : Hid ((fnRow 256 (fun s => (bs.take i).count s)).set x ((bs.take i).count x + 1) = fnRow 256 (fun s => (bs.take (i + 1)).count s)) := fnRow_set 256 _ _ x _ (by rw [Hstep.out x, if_pos rfl]) (fun t ht => by rw [Hstep.out t, if_neg ht]; rfl)
      have Hst : Hid (OwnC (wr.setCell ⟨g, x, none⟩ (.int .i64 (((bs.take i).count x + 1 : Nat) : Int))) (.slice (some ⟨g, 0, none⟩) 256 256) (fnRow 256 (fun s => (bs.take (i + 1)).count s))) := by
        have := (World.ownsRow.stored hoc x (.int .i64 (((bs.take i).count x + 1 : Nat) : Int))).1
        unfold OwnC
        rw [fnRow_length, ← Hset.out, row_set]
        exact this
      have Hf2 : Hid (Fr wm (wr.setCell ⟨g, x, none⟩ (.int .i64 (((bs.take i).count x + 1 : Nat) : Int))) (fun k => k = g)) := Hf.out.setCell ⟨g, x, none⟩ (fun _ => rfl) _
      generalize (bs.take i).count x = c at hce hcb Hst Hf2
      have hcw : IntKind.i64.wrap ((c : Int) + 1) = ((c + 1 : Nat) : Int) := by rw [IntWalk.i64_in _ (by omega)]; omega
      have hi1 : (i : Int) < (n : Int) := by omega
      have hx1 : (x : Int) < 256 := by omega
      clear hoc Hset
      go_wp2_with fail
      go_roundg (n - (i + 1))
      case rel => exact ⟨i + 1, rfl, by omega, by go_num, Hst.out, Hf2.out⟩
      case measure => rw [Hg'.out]; omega
    · have hi1 : ¬ (i : Int) < (n : Int) := by omega
      have Hrow : Hid (fnRow 256 (fun s => (bs.take i).count s) = cntB bs) := by
        show _ = _
        rw [List.take_of_length_le (by rw [← Hn.out]; omega)]
        rfl
      have hfo := Hfm.out.newer Hf.out (fun k hk => by rw [hk]; exact Hgw.out)
      go_wp2_with fail
      go_ret
      refine ⟨_, rfl, ?_, hfo, fun k hk => by simp [Value.ownBlock] at hk; rw [← hk]; exact Hgw.out⟩
      rw [← Hrow.out]
      exact holds_own Ho.out

end Go.Proofs.Ytclfbdfgmeliaaa

/-
  Slices whose elements take several cells each: read, and appended to. No program is named here.
-/
namespace Go.Proofs.Ytclfbdfgmeliaaa
open Go.RowKit

/-- A slice of m elements of so many cells each that can be read: the cells xs. -/
def HoldsN (size : Nat) (w : World) (v : Value) (m : Nat) (xs : List Value) : Prop :=
  xs.length = m * size ∧ ∃ ao cap, v = .slice ao m cap ∧ m ≤ cap ∧ (0 < m → ∃ b off, ao = some ⟨b, off, none⟩ ∧ ∀ j u, xs[j]? = some u → w.cell? ⟨b, off + j, none⟩ = some u)

theorem HoldsN.keep {size : Nat} {w w' : World} {v : Value} {m : Nat} {xs : List Value} (h : HoldsN size w v m xs) (f : Fr w w' (fun _ => False)) : HoldsN size w' v m xs := by
  obtain ⟨hl, ao, cap, rfl, hlc, hc⟩ := h
  refine ⟨hl, ao, cap, rfl, hlc, fun hp => ?_⟩
  obtain ⟨b, off, rfl, hcell⟩ := hc hp
  refine ⟨b, off, rfl, fun j u hj => ?_⟩
  have h1 := hcell j u hj
  have h2 := World.block_lt_of_cell? _ _ h1
  rw [World.cell?_of_block (w := w) (f.block _ h2 (fun h => h))]
  exact h1
theorem HoldsN.frame {size : Nat} {w w' : World} {v : Value} {m : Nat} {xs : List Value} {S : Nat → Prop} (h : HoldsN size w v m xs) (f : Fr w w' S) (hs : 0 < m → ∀ k, v.ownBlock = some k → ¬ S k) : HoldsN size w' v m xs := by
  obtain ⟨hl, ao, cap, rfl, hlc, hc⟩ := h
  refine ⟨hl, ao, cap, rfl, hlc, fun hp => ?_⟩
  obtain ⟨b, off, rfl, hcell⟩ := hc hp
  refine ⟨b, off, rfl, fun j u hj => ?_⟩
  have h1 := hcell j u hj
  have h2 := World.block_lt_of_cell? _ _ h1
  rw [World.cell?_of_block (w := w) (f.block _ h2 (hs hp _ rfl))]
  exact h1
theorem holdsN_own {size : Nat} {w : World} {e : TypeId} {v : Value} {n : Nat} {xs : List Value} (h : w.ownsRow 0 e size v n xs) : HoldsN size w v n xs := by
  refine ⟨h.1, ?_⟩
  rcases h.2 with ⟨rfl, h0⟩ | ⟨g, cap, cur, rfl, _, _, hcc, _⟩
  · exact ⟨_, 0, by rw [h0], by omega, fun hp => by omega⟩
  · exact ⟨some ⟨g, 0, _⟩, cap, rfl, hcc, fun _ => ⟨g, 0, rfl, fun j u hj => by have := h.cells rfl j u hj; rwa [add_none] at this⟩⟩
theorem HoldsN.take {size : Nat} {w : World} {ao : Option Addr} {len cap : Nat} {xs : List Value} (h : HoldsN size w (.slice ao len cap) len xs) (n : Nat) (hn : n ≤ len) : HoldsN size w (.slice ao n cap) n (xs.take (n * size)) := by
  obtain ⟨hl, ao', cap0, e, hlc, hc⟩ := h
  simp only [Value.slice.injEq, true_and] at e
  obtain ⟨rfl, rfl⟩ := e
  have hle : n * size ≤ len * size := Nat.mul_le_mul_right _ hn
  refine ⟨by rw [List.length_take]; omega, ao, cap, rfl, by omega, fun hp => ?_⟩
  obtain ⟨b, off, rfl, hcell⟩ := hc (by omega)
  refine ⟨b, off, rfl, fun j u hj => hcell j u ?_⟩
  rw [List.getElem?_take] at hj
  split at hj
  · exact hj
  · cases hj
theorem holdsN_lit (size : Nat) (w : World) (e : TypeId) (n : Nat) (cs : List Value) (hl : cs.length = n * size) (h : n ≤ 1000) : HoldsN size (w.alloc (.cells cs.toArray e)) (.slice (some ⟨w.heap.size, 0, Option.none⟩) n n) n cs := by
  have := World.ownsRow_lit (e := e) (size := size) (base := 0) w cs.toArray n (Nat.zero_le _) (by unfold maxLen; omega) (by simpa using hl)
  have := holdsN_own this
  simpa using this

/-- append onto a slice that the call owns, of a slice that can be read. -/
theorem run_append_wide {P : Program} (w : World) (t ty e : TypeId) (i : TypeInfo) (z : Value) (size bytes : Nat) (ht : P.underlying t = some (.slice e)) (hi : P.info? e = some i) (hz : i.zero = some z)
    (hsize : i.size = size) (hby : i.bytes = bytes) (hzs : z.cells.size = size) (hsz : 0 < size) (hb8 : bytes ≤ 1000) (v : Value) (n : Nat) (xs : List Value) (hown : w.ownsRow 0 e size v n xs) (u : Value) (m : Nat) (ys : List Value) (hu : HoldsN size w u m ys)
    (h1 : ∀ y ∈ ys, y.oneCell' = true) (hb : n + m ≤ 100000000000) :
    ∃ v' w', (Builtin.append_ #[t, t] ty #[v, u]).run P w = .ok v' w' ∧ w'.ownsRow 0 e size v' (n + m) (xs ++ ys) ∧ Fr w w' (fun k => v.ownBlock = some k) ∧ Moved w v v' := by
  obtain ⟨hl, ao, cap, rfl, hlc, hc⟩ := hu
  have hbb : (n + m) * bytes ≤ 140737488355328 := by
    have := Nat.mul_le_mul hb hb8
    omega
  by_cases h0 : 0 < m
  · obtain ⟨b, off, rfl, hcell⟩ := hc h0
    have hnews : ∀ j u, ys[j]? = some u → w.cell? ((⟨b, off, Option.none⟩ : Addr).add j) = some u := fun j u hj => by rw [add_none]; exact hcell j u hj
    obtain ⟨v', w', hr, ho, hg, _, hat⟩ := run_append_own_at (P := P) w 0 t ty e i z size bytes ht hi hz hsize hby hzs hsz v n xs hown ⟨b, off, Option.none⟩ m cap ys hl hnews h1 (by unfold maxLen; omega) hbb (Nat.zero_le _)
    refine ⟨v', w', hr, ho, (Fr.refl w _).grown hg (fun k hk _ => hk), fun k hk => ?_⟩
    rcases hat with hat | hat
    · exact .inl (hat ▸ hk)
    · rw [hat] at hk; simp at hk; exact .inr (by omega)
  · have e0 : m = 0 := by omega
    subst e0
    have e1 : ys = [] := List.eq_nil_of_length_eq_zero (by omega)
    subst e1
    refine ⟨v, w, ?_, by simpa using hown, Fr.refl _ _, Moved.refl _ _⟩
    cases ao with
    | none =>
      by_cases hc0 : cap = 0
      · subst hc0
        exact run_append_owned_none (P := P) w 0 t ty e i size ht hi v n xs hown
      · rcases hown.2 with ⟨rfl, rfl⟩ | ⟨g, cp, cur, rfl, _, _, hnc, _⟩
        · simp [Builtin.append_, run_underlying ht, sizeOf, typeInfo, hi, Builtin.lenOf, Builtin.firstCells]
        · simp [Builtin.append_, run_underlying ht, sizeOf, typeInfo, hi, Builtin.lenOf, Builtin.firstCells, hnc, storeCells]
    | some a =>
      rcases hown.2 with ⟨rfl, rfl⟩ | ⟨g, cp, cur, rfl, _, _, hnc, _⟩
      · simp [Builtin.append_, run_underlying ht, sizeOf, typeInfo, hi, Builtin.lenOf, Builtin.firstCells, loadCells, loadCellsFrom]
      · simp [Builtin.append_, run_underlying ht, sizeOf, typeInfo, hi, Builtin.lenOf, Builtin.firstCells, loadCells, loadCellsFrom, hnc, storeCells]

end Go.Proofs.Ytclfbdfgmeliaaa

/-
  A law for a statement whose order of evaluation Go leaves open, where two operations may come up at once: both ways are walked. No program is named here.
-/
namespace Go.Proofs.Ytclfbdfgmeliaaa
open Go.RowKit

/-- An order that is walked: 'take': what only reads, taken early; 'one': it comes up alone; 'two': one of two comes up. -/
inductive Sch where
  | nil
  | take (k : Nat) (s : Sch)
  | one (k : Nat) (s : Sch)
  | two (i : Nat) (s : Sch) (j : Nat) (t : Sch)

section
variable {P : Program} {ops : Array Oper} {Q : Exit → Act → World → Prop} {md : Region.Mode} {T : Nat → Prop}

def Sch.depth : Sch → Nat
  | .nil => 0
  | .take _ s => s.depth + 1
  | .one _ s => s.depth + 1
  | .two _ s _ t => max s.depth t.depth + 1
def Sch.chk (md : Region.Mode) (ops : Array Oper) : Sch → Array Bool → Bool
  | .nil, L => Region.ready md ops L == []
  | .take k s, L => (Region.free md ops L k && (Region.ready md ops L).contains k) && s.chk md ops (L.setIfInBounds k true)
  | .one k s, L => (Region.ready md ops L == [k]) && s.chk md ops (L.setIfInBounds k true)
  | .two i s j t, L => (Region.ready md ops L == [i, j]) && (s.chk md ops (L.setIfInBounds i true) && t.chk md ops (L.setIfInBounds j true))

def wpT (P : Program) (ops : Array Oper) (Q : Exit → Act → World → Prop) (T : Nat → Prop) : Sch → Act → World → Prop
  | .nil, a, w => Q .normal a w
  | .take k s, a, w => ∃ o v, ops[k]? = some o ∧ YieldsIf P ops (fun x => Fr w x T) o v a ∧ wpT P ops Q T s (a.put o.dst v) w
  | .one k s, a, w => wpOp P ops (NoPanic Q) k (fun a' w' => Fr w w' T ∧ wpT P ops Q T s a' w') a w
  | .two i s j t, a, w => wpOp P ops (NoPanic Q) i (fun a' w' => Fr w w' T ∧ wpT P ops Q T s a' w') a w ∧ wpOp P ops (NoPanic Q) j (fun a' w' => Fr w w' T ∧ wpT P ops Q T t a' w') a w

theorem wpAnyH_of_tree (hs : Region.noSelect ops = true) : ∀ (s : Sch) (fuel : Nat) (listed : Array Bool) (a : Act) (w : World), s.depth ≤ fuel → s.chk md ops listed = true → wpT P ops Q T s a w →
    wpAnyH P md ops (NoPanic Q) (fun x => Fr w x T) fuel listed a w
  | .nil, fuel, listed, a, w, _, hc, h => by
    have hr : Region.ready md ops listed = [] := by simpa [Sch.chk] using hc
    exact wpAnyH_done hr (NoPanic.normal h) _
  | .take k s, 0, _, _, _, hf, _, _ => by simp [Sch.depth] at hf
  | .take k s, fuel + 1, listed, a, w, hf, hc, h => by
    simp only [Sch.chk, Bool.and_eq_true] at hc
    obtain ⟨o, v, ho, hy, h⟩ := h
    exact wpAnyH_take ho hs hc.1.1 hc.1.2 (fun _ _ _ h => h) hy (Fr.refl _ _) (wpAnyH_of_tree hs s fuel _ _ w (by simpa [Sch.depth] using hf) hc.2 h)
  | .one k s, 0, _, _, _, hf, _, _ => by simp [Sch.depth] at hf
  | .one k s, fuel + 1, listed, a, w, hf, hc, h => by
    simp only [Sch.chk, Bool.and_eq_true] at hc
    have hr : Region.ready md ops listed = [k] := by simpa using hc.1
    refine wpAnyH_all hr (by simp) (fun i hi => ?_)
    obtain rfl : i = k := by simpa using hi
    refine wpOp_mono (fun a' w' h' => ⟨h'.1, ?_⟩) h
    exact wpAnyH_mono (fun x hx => h'.1.trans hx (fun _ _ ht => ht)) _ _ _ _ (wpAnyH_of_tree hs s fuel _ a' w' (by simpa [Sch.depth] using hf) hc.2 h'.2)
  | .two i s j t, 0, _, _, _, hf, _, _ => by simp [Sch.depth] at hf
  | .two i s j t, fuel + 1, listed, a, w, hf, hc, h => by
    simp only [Sch.chk, Bool.and_eq_true] at hc
    simp only [Sch.depth] at hf
    have hr : Region.ready md ops listed = [i, j] := by simpa using hc.1
    refine wpAnyH_all hr (by simp) (fun k hk => ?_)
    by_cases hki : k = i
    · subst hki
      refine wpOp_mono (fun a' w' h' => ⟨h'.1, ?_⟩) h.1
      exact wpAnyH_mono (fun x hx => h'.1.trans hx (fun _ _ ht => ht)) _ _ _ _ (wpAnyH_of_tree hs s fuel _ a' w' (by omega) hc.2.1 h'.2)
    · have hkj : k = j := by
        simp at hk
        rcases hk with h | h
        · exact absurd h hki
        · exact h
      subst hkj
      refine wpOp_mono (fun a' w' h' => ⟨h'.1, ?_⟩) h.2
      exact wpAnyH_mono (fun x hx => h'.1.trans hx (fun _ _ ht => ht)) _ _ _ _ (wpAnyH_of_tree hs t fuel _ a' w' (by omega) hc.2.2 h'.2)

/-- The law: of the operations l; T: the blocks that they may touch. -/
theorem wp_region_tree {id : Nat} {a : Act} {w : World} {l : List Oper} (T : Nat → Prop) (s : Sch) (hm : P.follows .mixedOrders = true) (hs : Region.noSelect l.toArray = true)
    (hl : s.depth ≤ l.length) (hc : s.chk .any l.toArray (Array.replicate l.length false) = true) (h : wpT P l.toArray Q T s a w.drew) : (Code.region id l.toArray true).wp P Q a w := by
  refine wp_region_noPanic (wp_region_held (S := fun x => Fr w.drew x T) hm ?_)
  have := wpAnyH_of_tree (md := .any) hs s l.length _ a w.drew hl hc h
  simpa using this

theorem wpT_take {l : List Oper} {k : Nat} {s : Sch} {o : Oper} {v : Value} {a : Act} {w : World} (ho : l[k]? = some o) (hw : Region.wanted o (yielded l.toArray a.tmps) = true)
    (hy : ∀ x, Fr w x T → (execOp a.eval o).run P x = .ok (.value v) x) (h : wpT P l.toArray Q T s (a.put o.dst v) w) : wpT P l.toArray Q T (.take k s) a w :=
  ⟨o, v, by simpa using ho, .inl ⟨hw, hy⟩, h⟩
theorem wpT_pass {l : List Oper} {k : Nat} {s : Sch} {o : Oper} {a : Act} {w : World} (ho : l[k]? = some o) (hw : Region.wanted o (yielded l.toArray a.tmps) = false)
    (h : wpT P l.toArray Q T s (a.put o.dst undef) w) : wpT P l.toArray Q T (.take k s) a w :=
  ⟨o, undef, by simpa using ho, .inr ⟨hw, rfl⟩, h⟩
theorem wpOp_run {l : List Oper} {k : Nat} {o : Oper} {a : Act} {w : World} {K : Act → World → Prop} (ho : l[k]? = some o) (hw : Region.wanted o (yielded l.toArray a.tmps) = true) (h : o.wp P a w K (NoPanic Q)) : wpOp P l.toArray (NoPanic Q) k K a w := by
  have ho' : l.toArray[k]? = some o := by simpa using ho
  unfold wpOp
  simp only [ho', hw, if_true]
  exact .inl h
theorem wpT_one {l : List Oper} {k : Nat} {s : Sch} {o : Oper} {a : Act} {w : World} (ho : l[k]? = some o) (hw : Region.wanted o (yielded l.toArray a.tmps) = true)
    (h : ∀ K : Act → World → Prop, (∀ a' w', Fr w w' T → wpT P l.toArray Q T s a' w' → K a' w') → o.wp P a w K (NoPanic Q)) : wpT P l.toArray Q T (.one k s) a w :=
  wpOp_run ho hw (h _ (fun _ _ h1 h2 => ⟨h1, h2⟩))
theorem wpT_two {l : List Oper} {i j : Nat} {s t : Sch} {o o' : Oper} {a : Act} {w : World} (ho : l[i]? = some o) (hw : Region.wanted o (yielded l.toArray a.tmps) = true) (ho' : l[j]? = some o') (hw' : Region.wanted o' (yielded l.toArray a.tmps) = true)
    (h : ∀ K : Act → World → Prop, (∀ a' w', Fr w w' T → wpT P l.toArray Q T s a' w' → K a' w') → o.wp P a w K (NoPanic Q))
    (h' : ∀ K : Act → World → Prop, (∀ a' w', Fr w w' T → wpT P l.toArray Q T t a' w' → K a' w') → o'.wp P a w K (NoPanic Q)) : wpT P l.toArray Q T (.two i s j t) a w :=
  ⟨wpOp_run ho hw (h _ (fun _ _ h1 h2 => ⟨h1, h2⟩)), wpOp_run ho' hw' (h' _ (fun _ _ h1 h2 => ⟨h1, h2⟩))⟩

/-- append, by its run. -/
theorem op_append_run {o : Oper} {a : Act} {w : World} {K : Act → World → Prop} (s x : Operand) (t : TypeId) (ho : o.op = .call { callee := .builtin .append, args := #[s, x], argTypes := #[t, t] }) {u v v' : Value} {w' : World} (hs : a.eval s = u) (hx : a.eval x = v)
    (hrun : (Builtin.append_ #[t, t] o.type #[u, v]).run P w = .ok v' w') (h : K (a.put o.dst v') w') : o.wp P a w K Q := by
  unfold Oper.wp execOp
  simp only [ho, resolve, invoke, builtin, Sem.run_bind, Sem.run_pure, Result.andThen_ok, List.map_toArray, List.map_cons, List.map_nil, hs, hx, hrun]
  exact h

end
end Go.Proofs.Ytclfbdfgmeliaaa

/-
  The reference's coins and packages: a count and symbols each.
-/
namespace Go.Proofs.Ytclfbdfgmeliaaa
open Go.RowKit

theorem Try.info71 : (Try.prog.info? 71).map (fun i => (i.zero, i.size, i.bytes)) = some (some (.agg #[.int .i64 0, .slice none 0 0]), 2, 32) := by kernel_rfl
theorem Try.info3 : (Try.prog.info? 3).map (fun i => (i.zero, i.size, i.bytes)) = some (some (.int .i64 0), 1, 8) := by kernel_rfl

/-- A package in memory: its symbols, and the slice that holds them. -/
abbrev Pk := List Nat × Value
def irow (wt : Nat → Nat) (ps : List Pk) : List Value := ps.flatMap fun p => [.int .i64 ((W wt p.1 : Nat) : Int), p.2]
def Good (w : World) (ps : List Pk) : Prop := ∀ p ∈ ps, Reads .i64 w p.2 p.1
def RdI (wt : Nat → Nat) (w : World) (v : Value) (ps : List Pk) : Prop := HoldsN 2 w v ps.length (irow wt ps) ∧ Good w ps
def OwnI (wt : Nat → Nat) (w : World) (v : Value) (ps : List Pk) : Prop := w.ownsRow 0 71 2 v ps.length (irow wt ps) ∧ Good w ps

theorem irow_length (wt : Nat → Nat) (ps : List Pk) : (irow wt ps).length = ps.length * 2 := by
  induction ps with
  | nil => rfl
  | cons p ps ih => simp [irow] at ih ⊢; omega
theorem irow_append (wt : Nat → Nat) (a b : List Pk) : irow wt (a ++ b) = irow wt a ++ irow wt b := by simp [irow]
theorem irow_take (wt : Nat → Nat) : ∀ (ps : List Pk) (n : Nat), (irow wt ps).take (n * 2) = irow wt (ps.take n)
  | [], n => by simp [irow]
  | p :: ps, 0 => by simp [irow]
  | p :: ps, n + 1 => by
    have := irow_take wt ps n
    simp only [irow, List.flatMap_cons, List.take_succ_cons] at this ⊢
    rw [Nat.succ_mul, List.take_append, List.take_of_length_le (by simp)]
    simp [this]
theorem irow_drop (wt : Nat → Nat) : ∀ (ps : List Pk) (n : Nat), (irow wt ps).drop (n * 2) = irow wt (ps.drop n)
  | [], n => by simp [irow]
  | p :: ps, 0 => by simp [irow]
  | p :: ps, n + 1 => by
    have := irow_drop wt ps n
    simp only [irow, List.flatMap_cons, List.drop_succ_cons] at this ⊢
    rw [Nat.succ_mul, List.drop_append, List.drop_eq_nil_of_le (by simp)]
    simp [this]
theorem irow_get (wt : Nat → Nat) (ps : List Pk) (i : Nat) (p : Pk) (h : ps[i]? = some p) : (irow wt ps)[i * 2]? = some (.int .i64 ((W wt p.1 : Nat) : Int)) ∧ (irow wt ps)[i * 2 + 1]? = some p.2 := by
  have hd := irow_drop wt ps i
  have hi : i < ps.length := (List.getElem?_eq_some_iff.1 h).1
  have e : ps.drop i = p :: ps.drop (i + 1) := by
    rw [List.drop_eq_getElem_cons hi]
    rw [List.getElem?_eq_getElem hi] at h
    simp only [Option.some.injEq] at h
    rw [h]
  rw [e] at hd
  have h0 : ((irow wt ps).drop (i * 2))[0]? = some (.int .i64 ((W wt p.1 : Nat) : Int)) := by rw [hd]; rfl
  have h1 : ((irow wt ps).drop (i * 2))[1]? = some p.2 := by rw [hd]; rfl
  rw [List.getElem?_drop] at h0 h1
  exact ⟨h0, h1⟩
theorem irow_one {w : World} (wt : Nat → Nat) (ps : List Pk) (h : Good w ps) : ∀ u ∈ irow wt ps, u.oneCell' = true := by
  intro u hu
  simp only [irow, List.mem_flatMap] at hu
  obtain ⟨p, hp, hu⟩ := hu
  simp at hu
  rcases hu with rfl | rfl
  · rfl
  · obtain ⟨a, l, c, e⟩ := (h p hp).form
    rw [e]; rfl
theorem Good.keep {w w' : World} {ps : List Pk} (h : Good w ps) (f : Fr w w' (fun _ => False)) : Good w' ps := fun p hp => (h p hp).keep f
theorem Good.append {w : World} {a b : List Pk} (h : Good w a) (k : Good w b) : Good w (a ++ b) := fun p hp => by
  rcases List.mem_append.1 hp with hp | hp
  · exact h p hp
  · exact k p hp
theorem RdI.keep {wt : Nat → Nat} {w w' : World} {v : Value} {ps : List Pk} (h : RdI wt w v ps) (f : Fr w w' (fun _ => False)) : RdI wt w' v ps := ⟨h.1.keep f, h.2.keep f⟩
theorem OwnI.rd {wt : Nat → Nat} {w : World} {v : Value} {ps : List Pk} (h : OwnI wt w v ps) : RdI wt w v ps := ⟨holdsN_own h.1, h.2⟩
theorem OwnI.nil (wt : Nat → Nat) (w : World) : OwnI wt w (.slice none 0 0) [] := ⟨World.ownsRow_nil _ _ _ _, fun p hp => by cases hp⟩
theorem RdI.form {wt : Nat → Nat} {w : World} {v : Value} {ps : List Pk} (h : RdI wt w v ps) : ∃ ao cap, v = .slice ao ps.length cap ∧ ps.length ≤ cap := by
  obtain ⟨⟨-, ao, cap, h1, h2, -⟩, -⟩ := h
  exact ⟨ao, cap, h1, h2⟩
theorem RdI.get {wt : Nat → Nat} {w : World} {v : Value} {ps : List Pk} (h : RdI wt w v ps) (i : Nat) (p : Pk) (hi : ps[i]? = some p) :
    ∃ b off cap, v = .slice (some ⟨b, off, none⟩) ps.length cap ∧ w.cell? ⟨b, off + i * 2, none⟩ = some (.int .i64 ((W wt p.1 : Nat) : Int)) ∧ w.cell? ⟨b, off + i * 2 + 1, none⟩ = some p.2 ∧ Reads .i64 w p.2 p.1 := by
  obtain ⟨⟨-, ao, cap, rfl, h2, hc⟩, hg⟩ := h
  have hil := (List.getElem?_eq_some_iff.1 hi).1
  obtain ⟨b, off, rfl, hcell⟩ := hc (by omega)
  obtain ⟨h3, h4⟩ := irow_get wt ps i p hi
  exact ⟨b, off, cap, rfl, hcell _ _ h3, by rw [Nat.add_assoc]; exact hcell _ _ h4, hg p (List.mem_of_getElem? hi)⟩

/-- append onto packages that the call owns, of packages that can be read. -/
theorem app_items (wt : Nat → Nat) (w : World) (v u : Value) (ps qs : List Pk) (h : OwnI wt w v ps) (hu : RdI wt w u qs) (hb : ps.length + qs.length ≤ 100000000000) (hold : ∀ p ∈ ps ++ qs, ∀ k, p.2.ownBlock = some k → 0 < p.1.length → v.ownBlock ≠ some k) :
    ∃ v' w', (Builtin.append_ #[68, 68] 68 #[v, u]).run Try.prog w = .ok v' w' ∧ OwnI wt w' v' (ps ++ qs) ∧ Fr w w' (fun k => v.ownBlock = some k) ∧ Moved w v v' := by
  obtain ⟨i0, hi, hz0, hz1, hz2⟩ := info_parts Try.info71
  obtain ⟨v', w', h1, h2, h3, h4⟩ := run_append_wide (P := Try.prog) w 68 68 71 i0 _ 2 32 Try.underlying68 hi hz0 hz1 hz2 rfl (by decide) (by decide) v _ _ h.1 u _ _ hu.1 (irow_one wt qs hu.2) hb
  refine ⟨v', w', h1, ⟨?_, fun p hp => ?_⟩, h3, h4⟩
  · rw [List.length_append, irow_append]; exact h2
  · have hr := (h.2.append hu.2) p hp
    exact hr.frame' h3 (fun hl k hk => hold p hp k hk hl)

theorem OwnI.keep {wt : Nat → Nat} {w w' : World} {v : Value} {ps : List Pk} (h : OwnI wt w v ps) (f : Fr w w' (fun _ => False)) : OwnI wt w' v ps := ⟨f.owns h.1 (fun _ _ h => h), h.2.keep f⟩
theorem OwnI.lt {wt : Nat → Nat} {w : World} {v : Value} {ps : List Pk} (h : OwnI wt w v ps) : ∀ k, v.ownBlock = some k → k < w.heap.size := fun k hk => (World.ownsRow.lt h.1 k hk).2
/-- .. of one package that is written out. -/
theorem app_item_lit (wt : Nat → Nat) (w : World) (v : Value) (ps : List Pk) (s : List Nat) (y : Value) (x : Int) (hx : x = ((W wt s : Nat) : Int)) (h : OwnI wt w v ps) (hy : Reads .i64 w y s) (hb : ps.length ≤ 10000000) (hold : ∀ p ∈ ps ++ [(s, y)], ∀ k, p.2.ownBlock = some k → 0 < p.1.length → v.ownBlock ≠ some k) :
    ∃ v' w', (Builtin.append_ #[68, 68] 68 #[v, .slice (some ⟨w.heap.size, 0, none⟩) 1 1]).run Try.prog (w.alloc (.cells #[.int .i64 x, y] 71)) = .ok v' w' ∧ OwnI wt w' v' (ps ++ [(s, y)]) ∧ Fr w w' (fun k => v.ownBlock = some k) ∧ Moved w v v' := by
  subst hx
  have hf := (Fr.refl w (fun _ => False)).alloc (.cells #[.int .i64 ((W wt s : Nat) : Int), y] 71)
  obtain ⟨v', w', h1, h2, h3, h4⟩ := app_items wt _ v _ ps [(s, y)] (h.keep hf) ⟨holdsN_lit 2 w 71 1 (irow wt [(s, y)]) (by simp [irow]) (by omega), fun p hp => by simp at hp; subst hp; exact hy.keep hf⟩ (by simp; omega) hold
  exact ⟨v', w', h1, h2, ((Fr.refl w _).alloc _).trans h3 (fun _ _ h => h), h4.mono' (by simp)⟩
theorem RdI.drop {wt : Nat → Nat} {w : World} {ao : Option Addr} {len cap : Nat} {ps : List Pk} (h : RdI wt w (.slice ao len cap) ps) (hl : ps.length = len) (n : Nat) (hn : n ≤ len) : RdI wt w (.slice (if cap = n then ao else Option.map (fun x => x.add (n * 2)) ao) (len - n) (cap - n)) (ps.drop n) := by
  obtain ⟨⟨h1, ao', cap', e, hlc, hc⟩, hg⟩ := h
  simp only [Value.slice.injEq] at e
  obtain ⟨rfl, -, rfl⟩ := e
  refine ⟨⟨irow_length _ _, _, _, by rw [List.length_drop, hl], by rw [List.length_drop]; omega, fun hp => ?_⟩, fun p hp => hg p (List.mem_of_mem_drop hp)⟩
  rw [List.length_drop] at hp
  obtain ⟨b, off, rfl, hcell⟩ := hc (by omega)
  rw [if_neg (by omega)]
  refine ⟨b, off + n * 2, by simp [add_none], fun j u hj => ?_⟩
  rw [← irow_drop, List.getElem?_drop] at hj
  rw [Nat.add_assoc]
  exact hcell _ _ hj

/-- A slice of numbers that the call owns. -/
def OwnN (w : World) (v : Value) (bs : List Nat) : Prop := w.ownsRow 0 3 1 v bs.length (row .i64 bs)
theorem OwnN.nil (w : World) : OwnN w (.slice none 0 0) [] := World.ownsRow_nil _ _ _ _
theorem OwnN.reads {w : World} {v : Value} {bs : List Nat} (h : OwnN w v bs) : Reads .i64 w v bs := holds_own h
theorem OwnN.alloc {w : World} {v : Value} {bs : List Nat} (h : OwnN w v bs) (o : Obj) : OwnN (w.alloc o) v bs := World.ownsRow.alloc h o
theorem OwnN.lt {w : World} {v : Value} {bs : List Nat} (h : OwnN w v bs) : ∀ k, v.ownBlock = some k → k < w.heap.size := fun k hk => (World.ownsRow.lt h k hk).2
theorem OwnN.frame {w w' : World} {v : Value} {bs : List Nat} {S : Nat → Prop} (h : OwnN w v bs) (f : Fr w w' S) (hs : ∀ k, v.ownBlock = some k → ¬ S k) : OwnN w' v bs := f.owns h hs
theorem app_ints (w : World) (v u : Value) (bs cs : List Nat) (h : OwnN w v bs) (hu : Reads .i64 w u cs) (hb : bs.length + cs.length ≤ 100000000000) :
    ∃ v' w', (Builtin.append_ #[28, 28] 28 #[v, u]).run Try.prog w = .ok v' w' ∧ OwnN w' v' (bs ++ cs) ∧ Fr w w' (fun k => v.ownBlock = some k) ∧ Moved w v v' ∧ Reads .i64 w' v bs := by
  obtain ⟨i0, hi, hz0, hz1, hz2⟩ := info_parts Try.info3
  obtain ⟨v', w', h1, h2, h3, h4, h5, -⟩ := run_append_holds (P := Try.prog) w 28 28 3 i0 (.int .i64 0) 8 Try.underlying28 hi hz0 hz1 hz2 rfl (by decide) v _ _ h u _ hu (row_one _ _) (by rw [length_row]; exact hb)
  refine ⟨v', w', h1, ?_, h3, h4, h5⟩
  unfold OwnN
  rw [length_row] at h2
  rw [List.length_append, row_append]
  exact h2

end Go.Proofs.Ytclfbdfgmeliaaa

/-
  The contract of the reference's merged: coins, and packages of a list.
-/
namespace Go.Proofs.Ytclfbdfgmeliaaa
open Go.RowKit

def fsts (ps : List Pk) : List (List Nat) := ps.map (·.1)
/-- No symbols lie in the block of a slice. -/
def Off (v : Value) (ps : List Pk) : Prop := ∀ p ∈ ps, ∀ k, p.2.ownBlock = some k → 0 < p.1.length → v.ownBlock ≠ some k
/-- All symbols are old. -/
def Older (B : Nat) (ps : List Pk) : Prop := ∀ p ∈ ps, ∀ k, p.2.ownBlock = some k → 0 < p.1.length → k < B
theorem good_older {w : World} {ps : List Pk} (h : Good w ps) : Older w.heap.size ps := fun p hp k hk hl => by
  obtain ⟨ao, cap, e, -, hc⟩ := h p hp
  rw [length_row] at hc
  obtain ⟨b, off, rfl, hcell⟩ := hc hl
  rw [e] at hk
  simp [Value.ownBlock] at hk
  subst hk
  exact World.block_lt_of_cell? _ _ (hcell 0 _ (row_get .i64 _ 0 hl))

theorem pk_drop_two {ls : List (List Nat)} {i : Nat} (h : i + 1 < ls.length) : pk (ls.drop i) = (ls.getD i [] ++ ls.getD (i + 1) []) :: pk (ls.drop (i + 2)) := by
  rw [List.drop_eq_getElem_cons (by omega : i < ls.length), List.drop_eq_getElem_cons h, pk]
  simp [List.getD_eq_getElem?_getD, h, (by omega : i < ls.length)]

theorem mg_nil_right (wt : Nat → Nat) (c : List (List Nat)) : mg wt c [] = c := by cases c <;> simp [mg]
theorem mg_take_coin (wt : Nat → Nat) {l R : List (List Nat)} {n : Nat} {c p : List Nat} (h : l[n]? = some c) (hle : W wt c ≤ W wt p) : mg wt (l.drop n) (p :: R) = c :: mg wt (l.drop (n + 1)) (p :: R) := by
  have hn := (List.getElem?_eq_some_iff.1 h).1
  have e : l[n] = c := (List.getElem?_eq_some_iff.1 h).2
  rw [List.drop_eq_getElem_cons hn, e, mg, if_pos hle]
theorem mg_take_pack (wt : Nat → Nat) {l R : List (List Nat)} {n : Nat} {p : List Nat} (h : ∀ c, l[n]? = some c → W wt p < W wt c) : mg wt (l.drop n) (p :: R) = p :: mg wt (l.drop n) R := by
  rcases Nat.lt_or_ge n l.length with hn | hn
  · have := h _ (List.getElem?_eq_getElem hn)
    rw [List.drop_eq_getElem_cons hn, mg, if_neg (by omega)]
  · rw [List.drop_eq_nil_of_le hn]
    simp [mg]
theorem fsts_get {ps : List Pk} {i : Nat} {p : Pk} (h : ps[i]? = some p) : (fsts ps)[i]? = some p.1 := by simp [fsts, h]

theorem fr_swap (w : World) (o o' : Obj) (B : Nat) (h : B ≤ w.heap.size) : Fr (w.alloc o) (w.alloc o') (fun k => B ≤ k) :=
  ⟨rfl, rfl, rfl, by simp, fun k hk hs => by
    have hk' : k < w.heap.size := by omega
    rw [Below.heap_alloc _ _ _ hk', Below.heap_alloc _ _ _ hk']⟩

/-- Symbols are a coin's, or new. -/
def New (B : Nat) (cs rs : List Pk) : Prop := ∀ p ∈ rs, p ∈ cs ∨ ∀ k, p.2.ownBlock = some k → B ≤ k
theorem New.append {B : Nat} {cs a b : List Pk} (h : New B cs a) (k : New B cs b) : New B cs (a ++ b) := fun p hp => by
  rcases List.mem_append.1 hp with hp | hp
  · exact h p hp
  · exact k p hp

set_option maxRecDepth 4000 in
set_option maxHeartbeats 800000 in
theorem refMerged_any (wt : Nat → Nat) (vc vl : Value) (cs ls : List Pk) (w : World) (hc : RdI wt w vc cs) (hl : RdI wt w vl ls) (hcl : cs.length ≤ 256) (hll : ls.length ≤ 1000) (hW : ∀ y ∈ fsts ls, W wt y ≤ 4611686018427387903) (hyl : ∀ y ∈ fsts ls, y.length ≤ 1000000) :
    Calls Try.prog 33 #[vc, vl] w fun e w' => ∃ sv rs, e = .returned sv ∧ OwnI wt w' sv rs ∧ fsts rs = mg wt (fsts cs) (pk (fsts ls)) ∧ Fr w w' (fun _ => False) ∧ Off sv rs ∧ New w.heap.size cs rs := by
  obtain ⟨ac, cc, rfl, hcc⟩ := hc.form
  obtain ⟨al, cl, rfl, hcl2⟩ := hl.form
  have Hc : Hid (RdI wt w (.slice ac cs.length cc) cs) := hc
  have Hl : Hid (RdI wt w (.slice al ls.length cl) ls) := hl
  have HW : Hid _ := hW
  have Hyl : Hid _ := hyl
  obtain ⟨nc, hnc⟩ : ∃ nc, nc = cs.length := ⟨_, rfl⟩
  obtain ⟨nl, hnl⟩ : ∃ nl, nl = ls.length := ⟨_, rfl⟩
  rw [← hnc] at hcl hcc Hc ⊢
  rw [← hnl] at hll hcl2 Hl ⊢
  have Hnc : Hid _ := hnc
  have Hnl : Hid _ := hnl
  clear hc hl hW hyl hnc hnl
  go_enter Try.func33, Try.ntmps33
  go_wp2_with fail
  go_loopg [5, 6, 7] (nl) (fun g S N I wr => ∃ (n i : Nat) (rs : List Pk), g = nl - i ∧ i ≤ nl ∧ n ≤ nc ∧ N = .int .i64 (n : Int) ∧ I = .int .i64 (i : Int) ∧ OwnI wt wr S rs ∧ rs.length ≤ n + i ∧ fsts rs ++ mg wt ((fsts cs).drop n) (pk ((fsts ls).drop i)) = mg wt (fsts cs) (pk (fsts ls)) ∧ Fr w wr (fun _ => False) ∧ Off S rs ∧ (∀ k, S.ownBlock = some k → w.heap.size ≤ k) ∧ New w.heap.size cs rs)
  case atStart => exact ⟨0, 0, [], by omega, by omega, by omega, rfl, rfl, OwnI.nil _ _, by simp, by simp [fsts], Fr.refl _ _, ⟨fun p hp => (by cases hp), fun k hk => (by simp [Value.ownBlock] at hk), fun p hp => (by cases hp)⟩⟩
  case round =>
    obtain ⟨n, i, rs, hg, hi, hn, rfl, rfl, ho, hrl, hst, hf, hoff, hnew, hnw0⟩ := hrel
    have Hnw0 : Hid _ := hnw0
    clear hnw0
    have Hg : Hid _ := hg
    have Hst : Hid _ := hst
    have Ho : Hid (OwnI wt wr u5 rs) := ho
    have Hoff : Hid _ := hoff
    have Hnew : Hid _ := hnew
    clear hg hst ho hoff hnew
    by_cases hlt : i + 1 < nl
    · obtain ⟨p0, hp0⟩ : ∃ p, ls[i]? = some p := ⟨_, List.getElem?_eq_getElem (by rw [← Hnl.out]; omega)⟩
      obtain ⟨p1, hp1⟩ : ∃ p, ls[i + 1]? = some p := ⟨_, List.getElem?_eq_getElem (by rw [← Hnl.out]; exact hlt)⟩
      obtain ⟨b, off, cp, e, c0, d0, r0⟩ := (Hl.out.keep hf).get i p0 hp0
      obtain ⟨b', off', cp', e', c1, d1, r1⟩ := (Hl.out.keep hf).get (i + 1) p1 hp1
      simp only [Value.slice.injEq] at e e'
      obtain ⟨rfl, -, rfl⟩ := e
      obtain ⟨e', -, -⟩ := e'
      simp only [Option.some.injEq, Addr.mk.injEq, and_true] at e'
      obtain ⟨rfl, rfl⟩ := e'
      have hbs : b < wr.heap.size := World.block_lt_of_cell? _ _ c0
      have hkeep : ∀ (j : Nat) (u : Value), wr.cell? ⟨b, j, none⟩ = some u → ∀ x, Fr wr.drew x (fun k => wr.heap.size ≤ k) → x.cell? ⟨b, j, none⟩ = some u := fun j u hu x hx => by
        rw [World.cell?_of_block (w := wr) (hx.block b hbs (by omega))]
        exact hu
      have k0 := hkeep _ _ c0
      have k1 := hkeep _ _ c1
      have j0 := hkeep _ _ d0
      have j1 := hkeep _ _ d1
      have Hc0 : Hid _ := c0
      have Hd0 : Hid _ := d0
      have Hr0 : Hid _ := r0
      have Hr1 : Hid _ := r1
      have hw0 : W wt p0.1 ≤ 4611686018427387903 := HW.out _ (List.mem_map.2 ⟨p0, List.mem_of_getElem? hp0, rfl⟩)
      have hw1 : W wt p1.1 ≤ 4611686018427387903 := HW.out _ (List.mem_map.2 ⟨p1, List.mem_of_getElem? hp1, rfl⟩)
      obtain ⟨x0, hx0⟩ : ∃ x, x = W wt p0.1 := ⟨_, rfl⟩
      obtain ⟨x1, hx1⟩ : ∃ x, x = W wt p1.1 := ⟨_, rfl⟩
      rw [← hx0] at k0 hw0
      rw [← hx1] at k1 hw1
      obtain ⟨q0, y0⟩ := p0
      obtain ⟨q1, y1⟩ := p1
      have Hx0 : Hid _ := hx0
      have Hx1 : Hid _ := hx1
      have hwr : IntKind.i64.wrap ((i : Int) + 1) = ((i + 1 : Nat) : Int) := by rw [IntWalk.i64_in _ (by omega)]; omega
      have hsum : IntKind.i64.wrap ((x0 : Int) + (x1 : Int)) = ((x0 + x1 : Nat) : Int) := by rw [IntWalk.i64_in _ (by omega)]; omega
      have hi3 : ((i + 1 : Nat) : Int) < (nl : Int) := by omega
      have hi4 : i + 1 < nl := hlt
      have hi1 : (i : Int) < (nl : Int) := by omega
      have hi5 : (0 : Int) ≤ (i : Int) + 1 := by omega
      have hi2 : (i : Int) + 1 < (nl : Int) := by omega
      have Hy0 : Hid _ := Hyl.out _ (List.mem_map.2 ⟨(q0, y0), List.mem_of_getElem? hp0, rfl⟩)
      have Hy1 : Hid _ := Hyl.out _ (List.mem_map.2 ⟨(q1, y1), List.mem_of_getElem? hp1, rfl⟩)
      have Hp0 : Hid _ := hp0
      have Hp1 : Hid _ := hp1
      clear c0 c1 d0 d1 r0 r1 hx0 hx1 hp0 hp1 hkeep
      go_wp2
      go_cut [8] from 9 to 68 (fun V wx => ∃ (g : Nat) (y : Value), V = .pointer (some ⟨g, 0, none⟩) ∧ wx.heap[g]? = some (.cells #[.int .i64 ((x0 + x1 : Nat) : Int), y] 71 (0, 0)) ∧ Reads .i64 wx y (q0 ++ q1) ∧ Fr wr wx (fun _ => False) ∧ wr.heap.size ≤ g ∧ ∀ k, y.ownBlock = some k → wr.heap.size ≤ k ∧ k ≠ g ∧ k < wx.heap.size)
      case first =>
        refine wp_region_tree (fun k => wr.heap.size ≤ k) (.take 0 (.take 1 (.take 2 (.take 3 (.take 4 (.take 5 (.take 6 (.take 7 (.take 8 (.take 9 (.take 10 (.take 11 (.take 12 (.take 13 (.take 14 (.take 15 (.take 16 (.take 18 (.take 19 (.take 20 (.take 21 (.take 22 (.take 23 (.two 17 (.two 24 (.take 25 (.one 26 (.one 27 .nil))) 26 (.one 24 (.take 25 (.one 27 .nil)))) 26 (.one 17 (.one 24 (.take 25 (.one 27 .nil)))))))))))))))))))))))))))) (by kernel_rfl) (by kernel_rfl) (by decide) (by kernel_rfl) ?_
        repeat (refine wpT_take (v := ?_) rfl rfl (fun x hx => ?_) ?_; rotate_left; (focus (go_simp; with_reducible rfl)); simp only [Act.put, List.setIfInBounds_toArray, List.set_cons_zero, List.set_cons_succ])
        have hT : ∀ {a c : World} {S : Nat → Prop}, Fr a c S → (∀ k, S k → wr.heap.size ≤ k) → Fr a c (fun k => wr.heap.size ≤ k) := fun h hs => h.mono (fun k _ hk => hs k hk)
        refine wpT_two rfl rfl rfl rfl (fun K hK => ?_) (fun K hK => ?_)
        · obtain ⟨v33, w33, hrun33, ho33, hf33, hm33, -⟩ := app_ints wr.drew (.slice none 0 0) y0 [] q0 (OwnN.nil _) (Hr0.out.keep (Fr.refl wr _).drew) (by simp; have := Hy0.out; omega)
          rw [List.nil_append] at ho33
          have hn33 : ∀ k, v33.ownBlock = some k → wr.heap.size ≤ k := fun k hk => by
            rcases hm33 k hk with h | h
            · simp [Value.ownBlock] at h
            · exact h
          replace hf33 : Fr wr w33 (fun _ => False) := (Fr.refl wr (fun _ => False)).drew.trans hf33 (fun k _ h => by simp [Value.ownBlock] at h)
          refine op_append_run (.const (.slice none 0 0)) (.tmp 32) 28 rfl rfl rfl hrun33 ?_
          refine hK _ _ (hT ((Fr.refl wr.drew (fun _ => False)).none ⟨hf33.os, hf33.tape, hf33.output, hf33.size, hf33.block⟩) (fun k h => h.elim)) ?_
          clear hK K
          simp only [Act.put, List.setIfInBounds_toArray, List.set_cons_zero, List.set_cons_succ]
          refine wpT_two rfl rfl rfl rfl (fun K hK => ?_) (fun K hK => ?_)
          · obtain ⟨v40, w40, hrun40, ho40, hf40, hm40, -⟩ := app_ints w33 v33 y1 q0 q1 ho33 (Hr1.out.keep hf33) (by have := Hy0.out; have := Hy1.out; omega)
            have hn40 : ∀ k, v40.ownBlock = some k → wr.heap.size ≤ k := fun k hk => by
              have := hf33.size
              rcases hm40 k hk with h | h
              · exact hn33 k h
              · omega
            obtain ⟨a40, l40, c40, rfl⟩ := ho40.reads.form
            refine op_append_run (.tmp 33) (.tmp 39) 28 rfl rfl rfl hrun40 ?_
            refine hK _ _ (hT hf40 hn33) ?_
            clear hK K
            simp only [Act.put, List.setIfInBounds_toArray, List.set_cons_zero, List.set_cons_succ]
            repeat (refine wpT_take (v := ?_) rfl rfl (fun x hx => ?_) ?_; rotate_left; (focus (go_simp; with_reducible rfl)); simp only [Act.put, List.setIfInBounds_toArray, List.set_cons_zero, List.set_cons_succ])
            refine wpT_one rfl rfl (fun K hK => ?_)
            go_simp
            refine hK _ _ (hT ((Fr.refl w40 (fun _ => False)).alloc _) (fun k h => h.elim)) ?_
            clear hK K
            refine wpT_one rfl rfl (fun K hK => ?_)
            go_simp
            refine hK _ _ (fr_swap _ _ _ _ (by have := hf33.size; have := hf40.size; omega)) ?_
            clear hK K
            have hf40' := (hf33.newer hf40 hn33).alloc (.cells #[.int .i64 ((x0 + x1 : Nat) : Int), .slice a40 l40 c40] 71)
            unfold wpT
            go_wp2_with fail
            go_meet
            case rel => exact ⟨_, _, rfl, heap_alloc_new _ _, ho40.reads.keep ((Fr.refl w40 _).alloc _), hf40', by have := hf33.size; have := hf40.size; omega, fun k h => ⟨hn40 k h, by have := ho40.lt _ h; omega, by have := ho40.lt _ h; simp; omega⟩⟩
          · go_simp
            refine hK _ _ (hT ((Fr.refl w33 (fun _ => False)).alloc _) (fun k h => h.elim)) ?_
            clear hK K
            obtain ⟨v40, w40, hrun40, ho40, hf40, hm40, -⟩ := app_ints (w33.alloc (.cells #[.int .i64 0, .slice none 0 0] 71)) v33 y1 q0 q1 (ho33.alloc _) (Hr1.out.keep (hf33.alloc _)) (by have := Hy0.out; have := Hy1.out; omega)
            obtain ⟨a40, l40, c40, rfl⟩ := ho40.reads.form
            refine wpT_one rfl rfl (fun K hK => ?_)
            refine op_append_run (.tmp 33) (.tmp 39) 28 rfl rfl rfl hrun40 ?_
            refine hK _ _ (hT hf40 hn33) ?_
            clear hK K
            simp only [Act.put, List.setIfInBounds_toArray, List.set_cons_zero, List.set_cons_succ]
            repeat (refine wpT_take (v := ?_) rfl rfl (fun x hx => ?_) ?_; rotate_left; (focus (go_simp; with_reducible rfl)); simp only [Act.put, List.setIfInBounds_toArray, List.set_cons_zero, List.set_cons_succ])
            have hg8 : w40.heap[w33.heap.size]? = some (.cells #[.int .i64 0, .slice none 0 0] 71 (0, 0)) := hf40.kept (heap_alloc_new _ _) (fun h => by have := ho33.lt _ h; omega)
            have f8 : ∀ j, w40.frozen? ⟨w33.heap.size, j, none⟩ = false := fun j => two_free hg8 j
            have c80 := two_cell0 hg8
            have c81 := two_cell1 hg8
            refine wpT_one rfl rfl (fun K hK => ?_)
            go_simp
            refine hK _ _ ((Fr.refl w40 _).setCell ⟨w33.heap.size, 0, none⟩ (fun _ => by have := hf33.size; show _ ≤ _; omega) _ |>.setCell ⟨w33.heap.size, 1, none⟩ (fun _ => by have := hf33.size; show _ ≤ _; omega) _) ?_
            clear hK K
            have hb6 := two_set1 (two_set0 hg8 (u := .int .i64 ((x0 : Int) + (x1 : Int)))) (u := .slice a40 l40 c40)
            have hf6 : Fr wr w40 (fun _ => False) := (hf33.alloc _).newer hf40 hn33
            have hf7 : Fr wr ((w40.setCell ⟨w33.heap.size, 0, none⟩ (.int .i64 ((x0 : Int) + (x1 : Int)))).setCell ⟨w33.heap.size, 1, none⟩ (.slice a40 l40 c40)) (fun _ => False) :=
              (hf6.setCell ⟨w33.heap.size, 0, none⟩ (fun h => by have := hf33.size; simp at h; omega) _).setCell ⟨w33.heap.size, 1, none⟩ (fun h => by have := hf33.size; simp at h; omega) _
            have hne : (Value.slice a40 l40 c40).ownBlock ≠ some w33.heap.size := fun h => by
              rcases hm40 _ h with h1 | h1
              · have := ho33.lt _ h1; omega
              · have hz : (w33.alloc (.cells #[.int .i64 0, .slice none 0 0] 71)).heap.size = w33.heap.size + 1 := by simp
                omega
            have hr7 := ho40.reads.frame (((Fr.refl w40 (fun k => k = w33.heap.size)).setCell ⟨w33.heap.size, 0, none⟩ (fun _ => rfl) (.int .i64 ((x0 : Int) + (x1 : Int)))).setCell ⟨w33.heap.size, 1, none⟩ (fun _ => rfl) (.slice a40 l40 c40)) (fun k hk h => hne (h ▸ hk))
            unfold wpT
            go_wp2_with fail
            go_meet
            case rel => exact ⟨_, _, rfl, hb6, hr7, hf7, hf33.size, fun k hk => ⟨by
              rcases hm40 k hk with h | h
              · exact hn33 k h
              · have := hf33.size; have hz : (w33.alloc (.cells #[.int .i64 0, .slice none 0 0] 71)).heap.size = w33.heap.size + 1 := by simp
                omega, fun e => hne (e ▸ hk), by have := ho40.lt _ hk; simpa [World.setCell] using this⟩⟩
        · go_simp
          refine hK _ _ (hT ((Fr.refl wr.drew (fun _ => False)).alloc _) (fun k h => h.elim)) ?_
          clear hK K
          have hf0 : Fr wr (wr.alloc (.cells #[.int .i64 0, .slice none 0 0] 71)).drew (fun _ => False) := ((Fr.refl wr (fun _ => False)).alloc _).drew
          obtain ⟨v33, w33, hrun33, ho33, hf33, hm33, -⟩ := app_ints (wr.alloc (.cells #[.int .i64 0, .slice none 0 0] 71)).drew (.slice none 0 0) y0 [] q0 (OwnN.nil _) (Hr0.out.keep hf0) (by simp; have := Hy0.out; omega)
          rw [List.nil_append] at ho33
          have hn33 : ∀ k, v33.ownBlock = some k → wr.heap.size + 1 ≤ k := fun k hk => by
            rcases hm33 k hk with h | h
            · simp [Value.ownBlock] at h
            · simpa using h
          replace hf33 : Fr (wr.alloc (.cells #[.int .i64 0, .slice none 0 0] 71)).drew w33 (fun _ => False) := hf33.mono (fun k _ h => by simp [Value.ownBlock] at h)
          refine wpT_one rfl rfl (fun K hK => ?_)
          refine op_append_run (.const (.slice none 0 0)) (.tmp 32) 28 rfl rfl rfl hrun33 ?_
          refine hK _ _ (hT hf33 (fun k h => h.elim)) ?_
          clear hK K
          simp only [Act.put, List.setIfInBounds_toArray, List.set_cons_zero, List.set_cons_succ]
          obtain ⟨v40, w40, hrun40, ho40, hf40, hm40, -⟩ := app_ints w33 v33 y1 q0 q1 ho33 (Hr1.out.keep (hf0.none hf33)) (by have := Hy0.out; have := Hy1.out; omega)
          obtain ⟨a40, l40, c40, rfl⟩ := ho40.reads.form
          refine wpT_one rfl rfl (fun K hK => ?_)
          refine op_append_run (.tmp 33) (.tmp 39) 28 rfl rfl rfl hrun40 ?_
          refine hK _ _ (hT hf40 (fun k hk => by have := hn33 k hk; omega)) ?_
          clear hK K
          simp only [Act.put, List.setIfInBounds_toArray, List.set_cons_zero, List.set_cons_succ]
          repeat (refine wpT_take (v := ?_) rfl rfl (fun x hx => ?_) ?_; rotate_left; (focus (go_simp; with_reducible rfl)); simp only [Act.put, List.setIfInBounds_toArray, List.set_cons_zero, List.set_cons_succ])
          have hg8 : w40.heap[wr.heap.size]? = some (.cells #[.int .i64 0, .slice none 0 0] 71 (0, 0)) := hf40.kept (hf33.kept (heap_alloc_new _ _) (fun h => h)) (fun h => by have := hn33 _ h; omega)
          have f8 : ∀ j, w40.frozen? ⟨wr.heap.size, j, none⟩ = false := fun j => two_free hg8 j
          have c80 := two_cell0 hg8
          have c81 := two_cell1 hg8
          refine wpT_one rfl rfl (fun K hK => ?_)
          go_simp
          refine hK _ _ ((Fr.refl w40 _).setCell ⟨wr.heap.size, 0, none⟩ (fun _ => Nat.le_refl _) _ |>.setCell ⟨wr.heap.size, 1, none⟩ (fun _ => Nat.le_refl _) _) ?_
          clear hK K
          have hb6 := two_set1 (two_set0 hg8 (u := .int .i64 ((x0 : Int) + (x1 : Int)))) (u := .slice a40 l40 c40)
          have hf6 : Fr wr w40 (fun _ => False) := (hf0.none hf33).newer hf40 (fun k hk => by have := hn33 k hk; omega)
          have hf7 : Fr wr ((w40.setCell ⟨wr.heap.size, 0, none⟩ (.int .i64 ((x0 : Int) + (x1 : Int)))).setCell ⟨wr.heap.size, 1, none⟩ (.slice a40 l40 c40)) (fun _ => False) :=
            (hf6.setCell ⟨wr.heap.size, 0, none⟩ (fun h => by simp at h) _).setCell ⟨wr.heap.size, 1, none⟩ (fun h => by simp at h) _
          have hne : (Value.slice a40 l40 c40).ownBlock ≠ some wr.heap.size := fun h => by
            rcases hm40 _ h with h1 | h1
            · have := hn33 _ h1; omega
            · have := hf33.size; simp at this; omega
          have hr7 := ho40.reads.frame (((Fr.refl w40 (fun k => k = wr.heap.size)).setCell ⟨wr.heap.size, 0, none⟩ (fun _ => rfl) (.int .i64 ((x0 : Int) + (x1 : Int)))).setCell ⟨wr.heap.size, 1, none⟩ (fun _ => rfl) (.slice a40 l40 c40)) (fun k hk h => hne (h ▸ hk))
          unfold wpT
          go_wp2_with fail
          go_meet
          case rel => exact ⟨_, _, rfl, hb6, hr7, hf7, Nat.le_refl _, fun k hk => ⟨by
            rcases hm40 k hk with h | h
            · have := hn33 k h; omega
            · have := hf33.size; simp at this; omega, fun e => hne (e ▸ hk), by have := ho40.lt _ hk; simpa [World.setCell] using this⟩⟩
      case rest =>
        obtain ⟨g, y, rfl, hblk, hry, hfc, hg8, hyb⟩ := hcut
        have hstep := pk_drop_two (ls := fsts ls) (i := i) (by unfold fsts; rw [List.length_map, ← Hnl.out]; exact hlt)
        have e0 : (fsts ls).getD i [] = q0 := by rw [List.getD_eq_getElem?_getD, fsts_get Hp0.out]; rfl
        have e1 : (fsts ls).getD (i + 1) [] = q1 := by rw [List.getD_eq_getElem?_getD, fsts_get Hp1.out]; rfl
        rw [e0, e1] at hstep
        have hst := Hst.out
        rw [hstep] at hst
        have Hst2 : Hid _ := hst
        obtain ⟨X, hX⟩ : ∃ X, X = x0 + x1 := ⟨_, rfl⟩
        rw [← hX] at hblk
        have HX : Hid (X = W wt (q0 ++ q1)) := by show _ = _; rw [W_append, hX, Hx0.out, Hx1.out]
        have hXb : X ≤ 9223372036854775806 := by omega
        obtain ⟨ay, ly, cy, rfl⟩ := hry.form
        have Hblk : Hid _ := hblk
        have Hry : Hid (Reads .i64 wc (.slice ay ly cy) (q0 ++ q1)) := hry
        have Hyb : Hid _ := hyb
        have HyN : Hid (∀ k, (Value.slice ay ly cy).ownBlock = some k → w.heap.size ≤ k) := fun k hk => Nat.le_trans hf.size (hyb k hk).1
        have Hoc : Hid (OwnI wt wc u5 rs) := Ho.out.keep hfc
        have Hu5 : Hid (∀ k, u5.ownBlock = some k → k < wr.heap.size) := Ho.out.lt
        have hfwc := hf.none hfc
        have hglt : g < wc.heap.size := lt_of_block hblk
        clear hst hstep e0 e1 hX hblk hry hyb k0 k1 j0 j1 hw0 hw1 hsum hwr hi1 hi2 hi3 hi4 hi5
        go_wp2_with fail
        go_loopg [5, 6] (nc - n) (fun gg S N wi => ∃ (m : Nat) (ts : List Pk), gg = nc - m ∧ m ≤ nc ∧ N = .int .i64 (m : Int) ∧ OwnI wt wi S ts ∧ ts.length ≤ m + i ∧ fsts ts ++ mg wt ((fsts cs).drop m) ((q0 ++ q1) :: pk ((fsts ls).drop (i + 2))) = mg wt (fsts cs) (pk (fsts ls)) ∧ Fr w wi (fun _ => False) ∧ Off S ts ∧ (∀ k, S.ownBlock = some k → w.heap.size ≤ k ∧ k ≠ g ∧ (Value.slice ay ly cy).ownBlock ≠ some k) ∧
          wi.heap[g]? = some (.cells #[.int .i64 (X : Int), .slice ay ly cy] 71 (0, 0)) ∧ Reads .i64 wi (.slice ay ly cy) (q0 ++ q1) ∧ (∀ k, (Value.slice ay ly cy).ownBlock = some k → k < wi.heap.size) ∧ New w.heap.size cs ts)
        case atStart => exact ⟨n, rs, rfl, hn, rfl, Hoc.out, hrl, Hst2.out, hfwc, Hoff.out, fun k hk => ⟨Hnew.out k hk, by have := Hu5.out k hk; omega, fun h => by have := Hu5.out k hk; have := (Hyb.out k h).1; omega⟩, Hblk.out, Hry.out, fun k hk => (Hyb.out k hk).2.2, Hnw0.out⟩
        case round =>
          obtain ⟨m, ts, hgg, hm, rfl, hoi, htl, hti, hfi, hofi, hSi, hbi, hri, hyl, hnt⟩ := hrel
          have Hnt : Hid _ := hnt
          clear hnt
          have Hylt : Hid _ := hyl
          clear hyl
          have Hgg : Hid _ := hgg
          have Hti : Hid _ := hti
          have hw : ∀ x, Fr wr.drew x (fun _ => False) → x.cell? ⟨g, 0, none⟩ = some (.int .i64 (X : Int)) := fun x hx => two_cell0 (((Fr.refl wr (fun _ => False)).drew.none hx).kept hbi (fun h => h))
          clear hgg hti
          by_cases hmc : m < nc
          · obtain ⟨pc, hpc⟩ : ∃ p, cs[m]? = some p := ⟨_, List.getElem?_eq_getElem (by rw [← Hnc.out]; exact hmc)⟩
            obtain ⟨b2, off2, cp2, e, cc0, cd0, rc0⟩ := (Hc.out.keep hfi).get m pc hpc
            simp only [Value.slice.injEq] at e
            obtain ⟨rfl, -, rfl⟩ := e
            obtain ⟨sc, yc⟩ := pc
            obtain ⟨C, hC⟩ : ∃ C, C = W wt sc := ⟨_, rfl⟩
            rw [← hC] at cc0
            have hb2 : b2 < wr.heap.size := World.block_lt_of_cell? _ _ cc0
            have kc : ∀ x, Fr wr.drew x (fun _ => False) → x.cell? ⟨b2, off2 + m * 2, none⟩ = some (.int .i64 (C : Int)) := fun x hx => by
              rw [World.cell?_of_block (w := wr) (hx.block b2 hb2 (fun h => h))]
              exact cc0
            obtain ⟨ac', lc', cc', rfl⟩ := rc0.form
            have Hpc : Hid _ := hpc
            have HC : Hid _ := hC
            have hm1 : (m : Int) < (nc : Int) := by omega
            clear hpc hC
            by_cases hle : C ≤ X
            · have hd : decide ((C : Int) ≤ (X : Int)) = true := by simp; omega
              have Hbi : Hid _ := hbi
              have Hri : Hid (Reads .i64 wr (.slice ay ly cy) (q0 ++ q1)) := hri
              have Hrc : Hid (Reads .i64 wr (.slice ac' lc' cc') sc) := rc0
              have Hcc : Hid _ := cc0
              have Hcd : Hid _ := cd0
              clear hbi hri rc0 cc0 cd0
              go_wp2
              refine wp_region_all (fun _ => False) [.c ?_, .c ?_, .c ?_, .c ?_, .c ?_, .c ?_, .c ?_, .c ?_, .c ?_, .c ?_, .c ?_, .c ?_, .c ?_, .c ?_] (by kernel_rfl) (by kernel_rfl) rfl ?last ?walk
              case last => repeat (first | exact Lasts.nil | refine Lasts.c ?_)
              case walk =>
                repeat (first | (refine wpAll_take rfl rfl (fun x hx => ?_) ?_; (focus (go_simp; with_reducible rfl)); simp only [Act.put, List.setIfInBounds_toArray, List.set_cons_zero, List.set_cons_succ]) | (refine wpAll_pass rfl rfl ?_ ?_; (focus rfl); simp only [Act.put, List.setIfInBounds_toArray, List.set_cons_zero, List.set_cons_succ]))
                refine wpAll_nil (fun wx hfx _ => ?_)
                replace hfx := (Fr.refl wr (fun _ => False)).drew.none hfx
                have cx0 : wx.cell? ⟨b2, off2 + m * 2, none⟩ = some (.int .i64 (C : Int)) := by rw [World.cell?_of_block (w := wr) (hfx.block b2 hb2 (fun h => h))]; exact Hcc.out
                have cx1 : wx.cell? ⟨b2, off2 + m * 2 + 1, none⟩ = some (.slice ac' lc' cc') := by rw [World.cell?_of_block (w := wr) (hfx.block b2 hb2 (fun h => h))]; exact Hcd.out
                have hox := hoi.keep hfx
                have hscb : ∀ k, (Value.slice ac' lc' cc').ownBlock = some k → 0 < sc.length → k < w.heap.size := fun k hk hl => good_older Hc.out.2 (sc, .slice ac' lc' cc') (List.mem_of_getElem? Hpc.out) k hk hl
                obtain ⟨v5, w5, hrun5, ho5, hf5, hm5⟩ := app_item_lit wt wx u5 ts sc (.slice ac' lc' cc') (C : Int) (by rw [HC.out]) hox (Hrc.out.keep hfx) (by omega) (fun p hp k hk hl => by
                  rcases List.mem_append.1 hp with h | h
                  · exact hofi p h k hk hl
                  · simp at h
                    subst h
                    intro h2
                    have := (hSi k h2).1
                    have := hscb k hk hl
                    omega)
                have hfwx := hfi.none hfx
                have Hro : Hid (OwnI wt w5 v5 (ts ++ [(sc, .slice ac' lc' cc')])) := ho5
                have Hfo : Hid (Fr w w5 (fun _ => False)) := hfwx.newer hf5 (fun k hk => (hSi k hk).1)
                have Hbo : Hid _ := hf5.kept (hfx.kept Hbi.out (fun h => h)) (fun h => (hSi g h).2.1 rfl)
                have Hrr : Hid (Reads .i64 w5 (.slice ay ly cy) (q0 ++ q1)) := (Hri.out.keep hfx).frame hf5 (fun k hk h => (hSi k h).2.2 hk)
                have Hnw : Hid (∀ k, v5.ownBlock = some k → w.heap.size ≤ k ∧ k ≠ g ∧ (Value.slice ay ly cy).ownBlock ≠ some k) := fun k hk => by
                  rcases hm5 k hk with h | h
                  · exact hSi k h
                  · have h1 := hfwx.size
                    have h2 := hfx.size
                    have h3 := lt_of_block Hbi.out
                    refine ⟨by omega, by omega, fun h4 => ?_⟩
                    have := Hylt.out k h4
                    omega
                have Hyo : Hid (∀ k, (Value.slice ay ly cy).ownBlock = some k → k < w5.heap.size) := fun k hk => by have := Hylt.out k hk; have := hfx.size; have := hf5.size; omega
                have Hof : Hid (Off v5 (ts ++ [(sc, .slice ac' lc' cc')])) := fun p hp k hk hl h5 => by
                  have hlt5 := good_older (hox.2.append (fun p hp => by simp at hp; subst hp; exact Hrc.out.keep hfx)) p hp k hk hl
                  rcases hm5 k h5 with h | h
                  · rcases List.mem_append.1 hp with h2 | h2
                    · exact hofi p h2 k hk hl h
                    · simp at h2
                      subst h2
                      have := (hSi k h).1
                      have := hscb k hk hl
                      omega
                  · omega
                clear ho5 hf5 hm5
                go_wp2_with (at_builtin; refine wpList_append_run rfl (.tmp 56) (.tmp 61) 68 rfl rfl rfl hrun5 ?_)
                go_roundg (nc - (m + 1))
                case rel =>
                  refine ⟨m + 1, _, rfl, by omega, by go_num, Hro.out, by simp; omega, ?_, Hfo.out, Hof.out, Hnw.out, Hbo.out, Hrr.out, Hyo.out, New.append Hnt.out (fun p hp => by simp at hp; subst hp; exact .inl (List.mem_of_getElem? Hpc.out))⟩
                  have := Hti.out
                  rw [mg_take_coin wt (fsts_get Hpc.out) (by rw [← HC.out, ← HX.out]; exact hle)] at this
                  rw [← this]
                  simp [fsts]
                case measure => rw [Hgg.out]; omega
            · have hd : decide ((C : Int) ≤ (X : Int)) = false := by simp; omega
              have Hex : Hid (∀ c, (fsts cs)[m]? = some c → W wt (q0 ++ q1) < W wt c) := fun c hc => by
                rw [fsts_get Hpc.out] at hc
                simp only [Option.some.injEq] at hc
                rw [← hc, ← HC.out, ← HX.out]
                omega
              go_wp2
              refine wp_region_all (fun _ => False) [.c ?_, .c ?_, .c ?_, .c ?_, .c ?_, .c ?_, .c ?_, .c ?_, .c ?_, .c ?_, .c ?_, .c ?_, .c ?_, .c ?_] (by kernel_rfl) (by kernel_rfl) rfl ?last ?walk
              case last => repeat (first | exact Lasts.nil | refine Lasts.c ?_)
              case walk =>
                repeat (first | (refine wpAll_take rfl rfl (fun x hx => ?_) ?_; (focus (go_simp; with_reducible rfl)); simp only [Act.put, List.setIfInBounds_toArray, List.set_cons_zero, List.set_cons_succ]) | (refine wpAll_pass rfl rfl ?_ ?_; (focus rfl); simp only [Act.put, List.setIfInBounds_toArray, List.set_cons_zero, List.set_cons_succ]))
                refine wpAll_nil (fun wx hfx _ => ?_)
                replace hfx := (Fr.refl wr (fun _ => False)).drew.none hfx
                have hox := hoi.keep hfx
                have hbx := hfx.kept hbi (fun h => h)
                have hrx := hri.keep hfx
                replace hfx := hfi.none hfx
                obtain ⟨v5, w5, hrun5, ho5, hf5, hm5⟩ := app_item_lit wt wx u5 ts (q0 ++ q1) (.slice ay ly cy) (X : Int) (by rw [HX.out]) hox hrx (by omega) (fun p hp k hk hl => by
                  rcases List.mem_append.1 hp with h | h
                  · exact hofi p h k hk hl
                  · simp at h
                    subst h
                    exact fun h2 => (hSi k h2).2.2 hk)
                have Hro : Hid (OwnI wt w5 v5 (ts ++ [(q0 ++ q1, .slice ay ly cy)])) := ho5
                have Hfo : Hid (Fr w w5 (fun _ => False)) := hfx.newer hf5 (fun k hk => (hSi k hk).1)
                have Hnw : Hid (∀ k, v5.ownBlock = some k → w.heap.size ≤ k) := fun k hk => by
                  rcases hm5 k hk with h | h
                  · exact (hSi k h).1
                  · have := hfx.size; omega
                have Hof : Hid (Off v5 (ts ++ [(q0 ++ q1, .slice ay ly cy)])) := fun p hp k hk hl h5 => by
                  have hlt5 := good_older (hox.2.append (fun p hp => by simp at hp; subst hp; exact hrx)) p hp k hk hl
                  rcases hm5 k h5 with h | h
                  · rcases List.mem_append.1 hp with h2 | h2
                    · exact hofi p h2 k hk hl h
                    · simp at h2
                      subst h2
                      exact (hSi k h).2.2 hk
                  · omega
                have cg0 := two_cell0 hbx
                have cg1 := two_cell1 hbx
                clear ho5 hf5 hm5 hbx hrx hox hfx
                go_wp2_with (at_builtin; refine wpList_append_run rfl (.tmp 65) (.tmp 67) 68 rfl rfl rfl hrun5 ?_)
                go_roundg (nl - (i + 2))
                case rel =>
                  refine ⟨m, i + 2, _, rfl, by omega, hm, rfl, by go_num, Hro.out, by simp; omega, ?_, Hfo.out, Hof.out, Hnw.out, New.append Hnt.out (fun p hp => by simp at hp; subst hp; exact .inr HyN.out)⟩
                  have := Hti.out
                  rw [mg_take_pack wt Hex.out] at this
                  rw [← this]
                  simp [fsts]
                case measure => rw [Hg.out]; omega
          · have hm1 : ¬ (m : Int) < (nc : Int) := by omega
            have hm2 : decide ((m : Int) < (nc : Int)) = false := decide_eq_false hm1
            have Hex : Hid (∀ c, (fsts cs)[m]? = some c → W wt (q0 ++ q1) < W wt c) := fun c hc => by
              have := (List.getElem?_eq_some_iff.1 hc).1
              unfold fsts at this
              rw [List.length_map, ← Hnc.out] at this
              omega
            go_wp2
            refine wp_region_all (fun _ => False) [.c ?_, .c ?_, .c ?_, .c ?_, .c ?_, .c ?_, .c ?_, .c ?_, .c ?_, .c ?_, .c ?_, .c ?_, .c ?_, .c ?_] (by kernel_rfl) (by kernel_rfl) rfl ?last ?walk
            case last => repeat (first | exact Lasts.nil | refine Lasts.c ?_)
            case walk =>
              repeat (first | (refine wpAll_take rfl rfl (fun x hx => ?_) ?_; (focus (go_simp; with_reducible rfl)); simp only [Act.put, List.setIfInBounds_toArray, List.set_cons_zero, List.set_cons_succ]) | (refine wpAll_pass rfl rfl ?_ ?_; (focus rfl); simp only [Act.put, List.setIfInBounds_toArray, List.set_cons_zero, List.set_cons_succ]))
              refine wpAll_nil (fun wx hfx _ => ?_)
              replace hfx := (Fr.refl wr (fun _ => False)).drew.none hfx
              have hox := hoi.keep hfx
              have hbx := hfx.kept hbi (fun h => h)
              have hrx := hri.keep hfx
              replace hfx := hfi.none hfx
              obtain ⟨v5, w5, hrun5, ho5, hf5, hm5⟩ := app_item_lit wt wx u5 ts (q0 ++ q1) (.slice ay ly cy) (X : Int) (by rw [HX.out]) hox hrx (by omega) (fun p hp k hk hl => by
                rcases List.mem_append.1 hp with h | h
                · exact hofi p h k hk hl
                · simp at h
                  subst h
                  exact fun h2 => (hSi k h2).2.2 hk)
              have Hro : Hid (OwnI wt w5 v5 (ts ++ [(q0 ++ q1, .slice ay ly cy)])) := ho5
              have Hfo : Hid (Fr w w5 (fun _ => False)) := hfx.newer hf5 (fun k hk => (hSi k hk).1)
              have Hnw : Hid (∀ k, v5.ownBlock = some k → w.heap.size ≤ k) := fun k hk => by
                rcases hm5 k hk with h | h
                · exact (hSi k h).1
                · have := hfx.size; omega
              have Hof : Hid (Off v5 (ts ++ [(q0 ++ q1, .slice ay ly cy)])) := fun p hp k hk hl h5 => by
                have hlt5 := good_older (hox.2.append (fun p hp => by simp at hp; subst hp; exact hrx)) p hp k hk hl
                rcases hm5 k h5 with h | h
                · rcases List.mem_append.1 hp with h2 | h2
                  · exact hofi p h2 k hk hl h
                  · simp at h2
                    subst h2
                    exact (hSi k h).2.2 hk
                · omega
              have cg0 := two_cell0 hbx
              have cg1 := two_cell1 hbx
              clear ho5 hf5 hm5 hbx hrx hox hfx
              go_wp2_with (at_builtin; refine wpList_append_run rfl (.tmp 65) (.tmp 67) 68 rfl rfl rfl hrun5 ?_)
              go_roundg (nl - (i + 2))
              case rel =>
                refine ⟨m, i + 2, _, rfl, by omega, hm, rfl, by go_num, Hro.out, by simp; omega, ?_, Hfo.out, Hof.out, Hnw.out, New.append Hnt.out (fun p hp => by simp at hp; subst hp; exact .inr HyN.out)⟩
                have := Hti.out
                rw [mg_take_pack wt Hex.out] at this
                rw [← this]
                simp [fsts]
              case measure => rw [Hg.out]; omega
    · have hlast : pk ((fsts ls).drop i) = [] := by
        have hl1 : ((fsts ls).drop i).length ≤ 1 := by rw [List.length_drop]; unfold fsts; rw [List.length_map, ← Hnl.out]; omega
        match h : (fsts ls).drop i with
        | [] => rfl
        | [_] => rfl
        | _ :: _ :: _ => rw [h] at hl1; simp at hl1
      have hdrop := (Hc.out.keep hf).drop Hnc.out.symm n hn
      have hold : ∀ p ∈ rs ++ cs.drop n, ∀ k, p.2.ownBlock = some k → 0 < p.1.length → u5.ownBlock ≠ some k := fun p hp k hk hl h5 => by
        rcases List.mem_append.1 hp with h | h
        · exact Hoff.out p h k hk hl h5
        · have := good_older Hc.out.2 p (List.mem_of_mem_drop h) k hk hl
          have := Hnew.out k h5
          omega
      obtain ⟨v5, w5, hrun5, ho5, hf5, hm5⟩ := app_items wt wr u5 _ rs (cs.drop n) Ho.out hdrop (by rw [List.length_drop, ← Hnc.out]; omega) hold
      have Hres : Hid (fsts (rs ++ cs.drop n) = mg wt (fsts cs) (pk (fsts ls))) := by
        have := Hst.out
        rw [hlast, mg_nil_right] at this
        show _ = _
        rw [← this]
        simp [fsts, List.map_drop]
      have Hro : Hid (OwnI wt w5 v5 (rs ++ cs.drop n)) := ho5
      have Hfo : Hid (Fr w w5 (fun _ => False)) := hf.newer hf5 (fun k hk => Hnew.out k hk)
      have Hof : Hid (Off v5 (rs ++ cs.drop n)) := fun p hp k hk hl h5 => by
        have hlt5 := good_older (Ho.out.2.append hdrop.2) p hp k hk hl
        rcases hm5 k h5 with h | h
        · exact hold p hp k hk hl h
        · omega
      clear hlast hdrop hold ho5 hf5 hm5
      go_wp2_with (at_builtin; refine wpList_append_run rfl (.tmp 69) (.tmp 72) 68 rfl rfl rfl hrun5 ?_)
      all_goals (go_ret; first | exact ⟨v5, rfl, rs ++ cs.drop n, Hro.out, Hres.out, Hfo.out, Hof.out, New.append Hnw0.out (fun p hp => .inl (List.mem_of_mem_drop hp))⟩ | exact ⟨v5, rs ++ cs.drop n, rfl, Hro.out, Hres.out, Hfo.out, Hof.out, New.append Hnw0.out (fun p hp => .inl (List.mem_of_mem_drop hp))⟩)

end Go.Proofs.Ytclfbdfgmeliaaa

/-
  In RInts' place, for a seat without the reference's Cost.
-/


/-
  Package-merge by places: items that keep a weight and a symbol alone; what the first of them hold, list by list backward. Plain mathematics, no program.
-/
namespace Go.Proofs.Ytclfbdfgmeliaaa

/-- The symbol of a coin; none of a package. -/
def symOf : List Nat → Int
  | [s] => (s : Int)
  | _ => -1
/-- A package as its weight and its symbol. -/
def itm (wt : Nat → Nat) (y : List Nat) : Int × Int := ((W wt y : Nat), symOf y)
/-- Is a package. -/
def isP (y : List Nat) : Bool := y.length != 1
def packs (l : List (List Nat)) : Nat := l.countP isP

theorem symOf_one (s : Nat) : symOf [s] = (s : Int) := rfl
theorem symOf_pack {y : List Nat} (h : isP y = true) : symOf y = -1 := by
  match y with
  | [] => rfl
  | [s] => simp [isP] at h
  | _ :: _ :: _ => rfl
theorem symOf_coin {y : List Nat} (h : isP y = false) : ∃ s, y = [s] := by
  match y with
  | [] => simp [isP] at h
  | [s] => exact ⟨s, rfl⟩
  | _ :: _ :: _ => simp [isP] at h
theorem occ_split (s : Nat) : ∀ l : List (List Nat), occ l s = l.count [s] + occ (l.filter isP) s
  | [] => by simp [occ]
  | y :: l => by
    have ih := occ_split s l
    unfold occ at ih ⊢
    rw [List.flatten_cons, List.count_append, ih, List.count_cons]
    by_cases h : isP y = true
    · rw [List.filter_cons_of_pos h, List.flatten_cons, List.count_append]
      have hne : (y == [s]) = false := by
        rw [beq_eq_false_iff_ne]
        rintro rfl
        simp [isP] at h
      rw [hne]
      simp
      omega
    · rw [List.filter_cons_of_neg h]
      obtain ⟨x, rfl⟩ := symOf_coin (by simpa using h)
      by_cases hx : x = s
      · subst hx
        simp
        omega
      · have hne : (([x] : List Nat) == [s]) = false := by
          rw [beq_eq_false_iff_ne]
          intro e
          simp at e
          exact hx e
        rw [hne]
        simp [hx]

theorem mg_filter (wt : Nat → Nat) : ∀ (c p : List (List Nat)), (∀ x ∈ c, isP x = false) → (∀ x ∈ p, isP x = true) → (mg wt c p).filter isP = p
  | [], p, _, hp => by
    rw [mg]
    exact List.filter_eq_self.2 hp
  | c :: cs, [], hc, _ => by
    simp only [mg]
    rw [List.filter_eq_nil_iff]
    intro x hx
    simp [hc x hx]
  | c :: cs, p :: ps, hc, hp => by
    unfold mg
    split
    · rw [List.filter_cons_of_neg (by simp [hc c (by simp)])]
      exact mg_filter wt cs (p :: ps) (fun x hx => hc x (by simp [hx])) hp
    · rw [List.filter_cons_of_pos (hp p (by simp)), mg_filter wt (c :: cs) ps hc (fun x hx => hp x (by simp [hx]))]
termination_by c p => c.length + p.length

theorem coin_isP {cs : List Nat} : ∀ x ∈ coin cs, isP x = false := by
  intro x hx
  simp only [coin, List.mem_map] at hx
  obtain ⟨s, _, rfl⟩ := hx
  simp [isP]
theorem pk_isP : ∀ (l : List (List Nat)), (∀ y ∈ l, y ≠ []) → ∀ x ∈ pk l, isP x = true
  | [], _, x, hx => by simp [pk] at hx
  | [_], _, x, hx => by simp [pk] at hx
  | a :: b :: r, h, x, hx => by
    rw [pk, List.mem_cons] at hx
    rcases hx with rfl | hx
    · have h1 := List.length_pos_iff.2 (h a (by simp))
      have h2 := List.length_pos_iff.2 (h b (by simp))
      simp [isP]
      omega
    · exact pk_isP r (fun y hy => h y (by simp [hy])) x hx
/-- What a package of a list is made of. -/
theorem pk_mem : ∀ (l : List (List Nat)) (x : List Nat), x ∈ pk l → ∃ a ∈ l, ∃ b ∈ l, x = a ++ b
  | [], x, hx => by simp [pk] at hx
  | [_], x, hx => by simp [pk] at hx
  | a :: b :: r, x, hx => by
    rw [pk, List.mem_cons] at hx
    rcases hx with rfl | hx
    · exact ⟨a, by simp, b, by simp, rfl⟩
    · obtain ⟨u, hu, v, hv, e⟩ := pk_mem r x hx
      exact ⟨u, by simp [hu], v, by simp [hv], e⟩

section
variable (wt : Nat → Nat) (cs : List Nat)
theorem lv_in : ∀ (k : Nat) (y : List Nat), y ∈ lv wt cs k → y ≠ [] ∧ y.length ≤ 2 ^ k ∧ ∀ s ∈ y, s ∈ cs
  | 0, y, h => by
    simp only [lv, coin, List.mem_map] at h
    obtain ⟨s, hs, rfl⟩ := h
    simp [hs]
  | k + 1, y, h => by
    rw [lv, mg_mem] at h
    rcases h with h | h
    · simp only [coin, List.mem_map] at h
      obtain ⟨s, hs, rfl⟩ := h
      refine ⟨by simp, ?_, by simp [hs]⟩
      have := Nat.two_pow_pos (k + 1)
      simp
      omega
    · obtain ⟨a, ha, b, hb, rfl⟩ := pk_mem _ _ h
      obtain ⟨a1, a2, a3⟩ := lv_in k a ha
      obtain ⟨b1, b2, b3⟩ := lv_in k b hb
      refine ⟨by simp [a1], ?_, fun s hs => ?_⟩
      · rw [List.length_append, Nat.pow_succ]; omega
      · rcases List.mem_append.1 hs with hs | hs
        · exact a3 s hs
        · exact b3 s hs
theorem W_le {B : Nat} (hB : ∀ s, wt s ≤ B) (y : List Nat) : W wt y ≤ y.length * B := by
  induction y with
  | nil => simp [W]
  | cons a y ih =>
    simp only [W, List.map_cons, List.sum_cons, List.length_cons] at ih ⊢
    have := hB a
    rw [Nat.succ_mul]
    omega
theorem lv_W {B : Nat} (hB : ∀ s, wt s ≤ B) (k : Nat) (y : List Nat) (h : y ∈ lv wt cs k) : W wt y ≤ 2 ^ k * B :=
  Nat.le_trans (W_le wt hB y) (Nat.mul_le_mul_right _ (lv_in wt cs k y h).2.1)
theorem lv_long : ∀ k, (lv wt cs k).length ≤ 2 * cs.length
  | 0 => by simp [lv, coin]; omega
  | k + 1 => by
    have := lv_long k
    rw [lv, mg_length, coin_length, pk_length]
    omega

/-- The first t of a list: its coins, and the packages of the first so many of the list ahead. -/
theorem lv_tally (k t : Nat) (s : Nat) : 2 * packs ((lv wt cs (k + 1)).take t) ≤ (lv wt cs k).length ∧
    occ ((lv wt cs (k + 1)).take t) s = ((lv wt cs (k + 1)).take t).count [s] + occ ((lv wt cs k).take (2 * packs ((lv wt cs (k + 1)).take t))) s := by
  have hf : (lv wt cs (k + 1)).filter isP = pk (lv wt cs k) := by
    rw [lv]
    exact mg_filter wt _ _ coin_isP (pk_isP _ (fun y hy => (lv_in wt cs k y hy).1))
  have hp : ((lv wt cs (k + 1)).take t).filter isP <+: pk (lv wt cs k) := by
    rw [← hf]
    exact (List.take_prefix t _).filter _
  have hq := List.prefix_iff_eq_take.1 hp
  have hn : (((lv wt cs (k + 1)).take t).filter isP).length = packs ((lv wt cs (k + 1)).take t) := by
    unfold packs
    rw [List.countP_eq_length_filter]
  rw [hn] at hq
  have hle : packs ((lv wt cs (k + 1)).take t) ≤ (pk (lv wt cs k)).length := by
    rw [← hn]
    exact hp.length_le
  have hle2 : 2 * packs ((lv wt cs (k + 1)).take t) ≤ (lv wt cs k).length := by
    rw [pk_length] at hle
    omega
  refine ⟨hle2, ?_⟩
  rw [occ_split, hq, pk_take _ _ hle]
  unfold occ
  rw [pk_flatten _ (by rw [List.length_take, Nat.min_eq_left hle2]; omega)]
theorem lv_tally0 (t s : Nat) : occ ((lv wt cs 0).take t) s = ((lv wt cs 0).take t).count [s] := by
  rw [occ_split]
  have : ((lv wt cs 0).take t).filter isP = [] := by
    rw [List.filter_eq_nil_iff]
    intro x hx
    have := coin_isP x (List.mem_of_mem_take hx)
    simp [this]
  rw [this]
  simp [occ]
theorem packs_take0 (t : Nat) : packs ((lv wt cs 0).take t) = 0 := by
  unfold packs
  rw [List.countP_eq_zero]
  intro x hx
  have := coin_isP x (List.mem_of_mem_take hx)
  simp [this]
end

/-! By weight, then by symbol. -/
def lexLe (wt : Nat → Nat) (a b : Nat) : Prop := wt a < wt b ∨ wt a = wt b ∧ a ≤ b
theorem ins_lex (wt : Nat → Nat) (s : Nat) : ∀ l : List Nat, (∀ x ∈ l, x ≤ s) → l.Pairwise (lexLe wt) → (insSym wt s l).Pairwise (lexLe wt)
  | [], _, _ => by simp [insSym]
  | y :: ys, hle, h => by
    have h' := h
    rw [List.pairwise_cons] at h
    unfold insSym
    split
    · rename_i hlt
      rw [List.pairwise_cons]
      refine ⟨fun z hz => ?_, h'⟩
      rcases List.mem_cons.1 hz with rfl | hz
      · exact .inl hlt
      · rcases h.1 z hz with h1 | ⟨h1, h2⟩
        · exact .inl (by omega)
        · exact .inl (by omega)
    · rename_i hlt
      rw [List.pairwise_cons]
      refine ⟨fun z hz => ?_, ins_lex wt s ys (fun x hx => hle x (by simp [hx])) h.2⟩
      rcases List.mem_cons.1 ((ins_perm wt s ys).mem_iff.1 hz) with rfl | hz
      · have := hle y (by simp)
        rcases Nat.lt_or_ge (wt y) (wt z) with h3 | h3
        · exact .inl h3
        · exact .inr ⟨by omega, this⟩
      · exact h.1 z hz
theorem syms_lex (wt : Nat → Nat) : ∀ n, (symsTo wt n).Pairwise (lexLe wt)
  | 0 => List.Pairwise.nil
  | n + 1 => by
    unfold symsTo
    split
    · exact syms_lex wt n
    · exact ins_lex wt n _ (fun x hx => by have := (syms_mem wt n x).1 hx; omega) (syms_lex wt n)
/-- Those of a beginning that weigh anything. -/
def some_ (wt : Nat → Nat) (n : Nat) : List Nat := (List.range n).filter fun s => wt s != 0
theorem some_succ (wt : Nat → Nat) (n : Nat) : some_ wt (n + 1) = if wt n = 0 then some_ wt n else some_ wt n ++ [n] := by
  unfold some_
  rw [List.range_succ, List.filter_append]
  split <;> simp_all
theorem syms_perm (wt : Nat → Nat) : ∀ n, List.Perm (symsTo wt n) (some_ wt n)
  | 0 => by simp [symsTo, some_]
  | n + 1 => by
    rw [some_succ, symsTo]
    split
    · exact syms_perm wt n
    · exact (ins_perm wt n _).trans (((syms_perm wt n).cons n).trans (List.perm_append_comm (l₁ := [n]) (l₂ := some_ wt n)))
/-- A coin. -/
def cItm (wt : Nat → Nat) (s : Nat) : Int × Int := ((wt s : Nat), (s : Int))
theorem itm_coin (wt : Nat → Nat) (cs : List Nat) : (coin cs).map (itm wt) = cs.map (cItm wt) := by
  simp [coin, itm, cItm, symOf, W_one]
/-- What is sorted by weight, then by symbol. -/
def ltI (x y : Int × Int) : Bool := decide (x.1 < y.1 ∨ x.1 = y.1 ∧ x.2 < y.2)
theorem sorted_is (wt : Nat → Nat) (n : Nat) (d : List (Int × Int)) (hp : List.Perm d ((some_ wt n).map (cItm wt))) (hs : d.Pairwise fun a b => ltI b a = false) : d = (symsTo wt n).map (cItm wt) := by
  refine List.Perm.eq_of_pairwise (le := fun a b => ltI b a = false) (fun a b _ _ h1 h2 => ?_) hs ?_ (hp.trans ((syms_perm wt n).map _).symm)
  · unfold ltI at h1 h2
    rw [decide_eq_false_iff_not] at h1 h2
    have e1 : a.1 = b.1 := by omega
    have e2 : a.2 = b.2 := by omega
    exact Prod.ext e1 e2
  · rw [List.pairwise_map]
    refine (syms_lex wt n).imp ?_
    intro a b h
    unfold ltI cItm
    rw [decide_eq_false_iff_not]
    unfold lexLe at h
    simp only
    omega

end Go.Proofs.Ytclfbdfgmeliaaa

/-
  What an error of a history says of its beginnings, and of what is behind it; that a bent history's numbers fit: plain mathematics.
-/
import Derived.Test.YthdlhdeaeaahoaaJ2
import Derived.Test.YthdlhdeaeaahoaaXBent
namespace Go.Proofs.Ythdlhdeaeaahoaa
open Go.RowKit

theorem chk_cases (n : Nat) (now : List Eg) (pv : Option Ev) (i : Nat) (x : Ev) : (∃ e, e ≠ 0 ∧ ∀ r, chkF n now pv i (x :: r) = (i, e)) ∨ (∃ now', ∀ r, chkF n now pv i (x :: r) = chkF n now' (some x) (i + 1) r) := by
  by_cases h : x.1 < 0 ∨ 4611686018427387903 < x.1
  · exact .inl ⟨26, by decide, fun r => chk_limit h⟩
  · cases h1 : eRight x.2.1.1 x.2.1.2 n with
    | false => exact .inl ⟨24, by decide, fun r => chk_vertex h h1⟩
    | true =>
      cases h2 : pv.any fun p => !eBef p x with
      | true => exact .inl ⟨23, by decide, fun r => chk_order h h1 h2⟩
      | false =>
        cases h3 : turnF now x.2.1 x.2.2 with
        | none => exact .inl ⟨25, by decide, fun r => chk_edge h h1 h2 h3⟩
        | some now' => exact .inr ⟨now', fun r => chk_step h h1 h2 h3⟩
theorem chk_take (n : Nat) : ∀ (l : List Ev) (now : List Eg) (pv : Option Ev) (i c : Nat), (chkF n now pv i l).2 = 0 → (chkF n now pv i (l.take c)).2 = 0
  | [], now, pv, i, c, _ => by rw [List.take_nil, chkF]
  | x :: l, now, pv, i, 0, _ => by rw [List.take_zero, chkF]
  | x :: l, now, pv, i, c + 1, h => by
    rw [List.take_succ_cons]
    rcases chk_cases n now pv i x with ⟨e, he, hr⟩ | ⟨now', hr⟩
    · rw [hr] at h
      exact absurd h he
    · rw [hr] at h ⊢
      exact chk_take n l now' _ _ c h
theorem chk_zero (n : Nat) : ∀ (l : List Ev) (now : List Eg) (pv : Option Ev) (i : Nat), (chkF n now pv i l).2 = 0 → (chkF n now pv i l).1 = 0
  | [], now, pv, i, _ => by rw [chkF]
  | x :: l, now, pv, i, h => by
    rcases chk_cases n now pv i x with ⟨e, he, hr⟩ | ⟨now', hr⟩
    · rw [hr] at h
      exact absurd h he
    · rw [hr] at h ⊢
      exact chk_zero n l now' _ _ h
theorem chk_append (n : Nat) (m : List Ev) : ∀ (l : List Ev) (now : List Eg) (pv : Option Ev) (i : Nat), (chkF n now pv i l).2 ≠ 0 → chkF n now pv i (l ++ m) = chkF n now pv i l
  | [], now, pv, i, h => by rw [chkF] at h; exact absurd rfl h
  | x :: l, now, pv, i, h => by
    rw [List.cons_append]
    rcases chk_cases n now pv i x with ⟨e, he, hr⟩ | ⟨now', hr⟩
    · rw [hr, hr]
    · rw [hr] at h
      rw [hr, hr]
      exact chk_append n m l now' _ _ h
theorem check_take {n : Nat} {l : List Ev} (c : Nat) (hl : l.length ≤ 1000000) (h : (checkF n l).2 = 0) : (checkF n (l.take c)).2 = 0 := by
  unfold checkF at h ⊢
  split at h
  · simp at h
  · rename_i hn
    rw [if_neg (by rw [List.length_take]; omega)]
    exact chk_take n l [] none 0 c h
theorem check_zero {n : Nat} {l : List Ev} (h : (checkF n l).2 = 0) : (checkF n l).1 = 0 := by
  unfold checkF at h ⊢
  split at h
  · simp at h
  · rename_i hn
    rw [if_neg hn]
    exact chk_zero n l [] none 0 h
theorem check_append {n : Nat} {l m : List Ev} (hl : l.length + m.length ≤ 1000000) (h : (checkF n l).2 ≠ 0) : checkF n (l ++ m) = checkF n l := by
  by_cases hn : 4294967296 < n
  · unfold checkF
    rw [if_pos (.inl hn), if_pos (.inl hn)]
  · have hs : checkF n l = chkF n [] none 0 l := checkF_small (by omega) hn
    have hs2 : checkF n (l ++ m) = chkF n [] none 0 (l ++ m) := checkF_small (by rw [List.length_append]; exact hl) hn
    rw [hs] at h ⊢
    rw [hs2]
    exact chk_append n m l [] none 0 h

theorem bent_fit {n : Nat} {evs : List Ev} {what at_ : Nat} {z : Int} (hn : n < 18446744073709551616) (hz : -9223372036854775808 ≤ z ∧ z ≤ 9223372036854775807) (hf : ∀ x ∈ evs, EvFit x) : (bentF n evs what at_ z).1 < 18446744073709551616 ∧ (∀ x ∈ (bentF n evs what at_ z).2, EvFit x) ∧ (bentF n evs what at_ z).2.length ≤ evs.length := by
  have hu : u64of z < 18446744073709551616 := by unfold u64of; omega
  have hv : u32of z < 4294967296 := by unfold u32of; omega
  unfold bentF
  cases hx : evs[at_ % evs.length]? with
  | none =>
    dsimp only
    exact ⟨hu, fun x hx => (by cases hx), by simp⟩
  | some x =>
    cases hx0 : evs[0]? with
    | none =>
      dsimp only
      exact ⟨hu, fun x hx => (by cases hx), by simp⟩
    | some x0 =>
      have h1 := hf x (List.mem_of_getElem? hx)
      have h0 := hf x0 (List.mem_of_getElem? hx0)
      have hset : ∀ (l : List Ev) (i : Nat) (y : Ev), (∀ x ∈ l, EvFit x) → EvFit y → ∀ x ∈ l.set i y, EvFit x := fun l i y hl hy x hx => by
        rcases List.mem_or_eq_of_mem_set hx with h | h
        · exact hl x h
        · rw [h]; exact hy
      obtain ⟨⟨b1, b2⟩, b3, b4⟩ := h1
      dsimp only
      split
      · exact ⟨hu, hf, Nat.le_refl _⟩
      split
      · exact ⟨hn, hset _ _ _ hf ⟨hz, b3, b4⟩, by simp⟩
      split
      · exact ⟨hn, hset _ _ _ hf ⟨⟨b1, b2⟩, hv, b4⟩, by simp⟩
      split
      · exact ⟨hn, hset _ _ _ hf ⟨⟨b1, b2⟩, b3, hv⟩, by simp⟩
      split
      · exact ⟨hn, hset _ _ _ hf ⟨⟨b1, b2⟩, b3, b4⟩, by simp⟩
      split
      · exact ⟨hn, hset _ _ _ (hset _ _ _ hf h0) ⟨⟨b1, b2⟩, b3, b4⟩, by simp⟩
      split
      · refine ⟨hn, fun y hy => ?_, by simp; omega⟩
        rcases List.mem_append.1 hy with hy | hy
        · exact hf y (List.mem_of_mem_take hy)
        · exact hf y (List.mem_of_mem_drop hy)
      · exact ⟨by omega, hf, Nat.le_refl _⟩

end Go.Proofs.Ythdlhdeaeaahoaa

/-
  What an error of a history says of its beginnings, and of what is behind it; that a bent history's numbers fit: plain mathematics.
-/
import Derived.Test.YtnffjafddbbjaaaGreatDoorJ2
import Derived.Test.YtnffjafddbbjaaaGreatDoorXBent
namespace Go.Proofs.YtnffjafddbbjaaaGreatDoor
open Go.RowKit

theorem bent_fit {n : Nat} {evs : List Ev} {what at_ : Nat} {z : Int} (hn : n < 18446744073709551616) (hz : -9223372036854775808 ≤ z ∧ z ≤ 9223372036854775807) (hf : ∀ x ∈ evs, EvFit x) : (bentF n evs what at_ z).1 < 18446744073709551616 ∧ (∀ x ∈ (bentF n evs what at_ z).2, EvFit x) ∧ (bentF n evs what at_ z).2.length ≤ evs.length := by
  have hu : u64of z < 18446744073709551616 := by unfold u64of; omega
  have hv : u32of z < 4294967296 := by unfold u32of; omega
  unfold bentF
  cases hx : evs[at_ % evs.length]? with
  | none =>
    dsimp only
    exact ⟨hu, fun x hx => (by cases hx), by simp⟩
  | some x =>
    cases hx0 : evs[0]? with
    | none =>
      dsimp only
      exact ⟨hu, fun x hx => (by cases hx), by simp⟩
    | some x0 =>
      have h1 := hf x (List.mem_of_getElem? hx)
      have h0 := hf x0 (List.mem_of_getElem? hx0)
      have hset : ∀ (l : List Ev) (i : Nat) (y : Ev), (∀ x ∈ l, EvFit x) → EvFit y → ∀ x ∈ l.set i y, EvFit x := fun l i y hl hy x hx => by
        rcases List.mem_or_eq_of_mem_set hx with h | h
        · exact hl x h
        · rw [h]; exact hy
      obtain ⟨⟨b1, b2⟩, b3, b4⟩ := h1
      dsimp only
      split
      · exact ⟨hu, hf, Nat.le_refl _⟩
      split
      · exact ⟨hn, hset _ _ _ hf ⟨hz, b3, b4⟩, by simp⟩
      split
      · exact ⟨hn, hset _ _ _ hf ⟨⟨b1, b2⟩, hv, b4⟩, by simp⟩
      split
      · exact ⟨hn, hset _ _ _ hf ⟨⟨b1, b2⟩, b3, hv⟩, by simp⟩
      split
      · exact ⟨hn, hset _ _ _ hf ⟨⟨b1, b2⟩, b3, b4⟩, by simp⟩
      split
      · exact ⟨hn, hset _ _ _ (hset _ _ _ hf h0) ⟨⟨b1, b2⟩, b3, b4⟩, by simp⟩
      split
      · refine ⟨hn, fun y hy => ?_, by simp; omega⟩
        rcases List.mem_append.1 hy with hy | hy
        · exact hf y (List.mem_of_mem_take hy)
        · exact hf y (List.mem_of_mem_drop hy)
      · exact ⟨by omega, hf, Nat.le_refl _⟩

end Go.Proofs.YtnffjafddbbjaaaGreatDoor

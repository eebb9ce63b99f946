/-
  Helps of table's laws: a history later than another.
-/
import Derived.Test.YtnffjafddbbjaaaGreatDoorTI
import Derived.Test.YtnffjafddbbjaaaGreatDoorJ3
import Derived.Test.YtnffjafddbbjaaaGreatDoorSHelp
import Derived.Test.YtnffjafddbbjaaaGreatDoorJ10
import Derived.Test.YtnffjafddbbjaaaGreatDoorXSame
namespace Go.Proofs.YtnffjafddbbjaaaGreatDoor
open Go.RowKit

theorem late_fit {E : List Ev} (hE : ∀ x ∈ E, 0 ≤ x.1 ∧ x.1 ≤ 4611686018427387903) (hf : ∀ x ∈ E, EvFit x) : ∀ x ∈ lateF E, EvFit x := fun x hx => by
  unfold lateF at hx
  cases h : E.getLast? with
  | none => rw [h] at hx; cases hx
  | some y =>
    rw [h] at hx
    obtain ⟨a, ha, rfl⟩ := List.mem_map.1 hx
    have h1 := hE a ha
    have h2 := hE y (List.mem_of_getLast? h)
    have h3 := hf a ha
    unfold EvFit at h3 ⊢
    dsimp only
    omega

end Go.Proofs.YtnffjafddbbjaaaGreatDoor

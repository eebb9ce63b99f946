/-
  The table of a history, by its events. Plain mathematics.
-/
import Derived.Test.YtnffjafddbbjaaaGreatDoorJ3
namespace Go.Proofs.YtnffjafddbbjaaaGreatDoor
open Go.RowKit

def tabE (n : Nat) (evs : List Ev) : List Nat := tabL n (livesE [] evs)
theorem prTabE_ok {n : Nat} {evs : List Ev} (h : (checkF n evs).2 = 0) : prTab n evs = strOf (tabE n evs) := prTab_ok h
theorem tabE_lt {n : Nat} {evs : List Ev} (h : (checkF n evs).2 = 0) : ∀ x ∈ tabE n evs, x < 256 := tabL_lt (check_in h).1 (lives_in h)
theorem tabE_len {n : Nat} {evs : List Ev} (h : (checkF n evs).2 = 0) : (tabE n evs).length ≤ 30 + 90 * evs.length := by
  have h1 := tabL_len (n := n) (check_in h).1 (lives_in h)
  have h2 := lives_length evs (good_check h).2.2.2
  unfold tabE
  omega
theorem tabE_pos (n : Nat) (evs : List Ev) : 0 < (tabE n evs).length := by unfold tabE tabL; rw [List.length_append]; show 0 < 5 + _; omega
theorem tabE_cut {n : Nat} {evs : List Ev} {m : Nat} {s : ByteArray} {c : Sc} (_hl : evs.length ≤ 1000000) (hok : (checkF n evs).2 = 0) (hm : m < (tabE n evs).length) (hs : s = strOf ((tabE n evs).take m)) (hc : c = adv ((tabE n evs).take m) ⟨0, 1, 1, 0⟩) :
    (1 < c.line ∧ c.col = 1 → (parseTab s).err = 0) ∧ (¬ (1 < c.line ∧ c.col = 1) → (parseTab s).err = 20 ∧ (parseTab s).line = c.line ∧ (parseTab s).col ≤ c.col) :=
  tparse_cut (by rw [lives_check hok]) (check_in hok).1 (lives_in hok) hm hs hc

end Go.Proofs.YtnffjafddbbjaaaGreatDoor

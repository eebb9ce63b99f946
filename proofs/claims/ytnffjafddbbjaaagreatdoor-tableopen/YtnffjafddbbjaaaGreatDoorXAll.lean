/-
  Small list lemmas.
-/
import Derived.Test.YtnffjafddbbjaaaGreatDoorJ2
import Derived.Test.YtnffjafddbbjaaaGreatDoorJ1
import Derived.Deep.LoopGhost
namespace Go.Proofs.YtnffjafddbbjaaaGreatDoor
open Go.RowKit

theorem same_all {α : Type} {a b : List α} {n : Nat} (ha : a.length = n) (hb : b.length = n) (h : ∀ j, j < n → a[j]? = b[j]?) : a = b := by
  refine List.ext_getElem? fun j => ?_
  by_cases hj : j < n
  · exact h j hj
  · rw [List.getElem?_eq_none (by omega), List.getElem?_eq_none (by omega)]
theorem takeWhile_len {α : Type} {p : α → Bool} {l : List α} {k : Nat} (hk : k ≤ l.length) (h : ∀ j x, j < k → l[j]? = some x → p x = true) (h2 : ∀ x, l[k]? = some x → p x = false) : (l.takeWhile p).length = k := by
  induction l generalizing k with
  | nil => simp at hk; simp [hk]
  | cons y l ih =>
    cases k with
    | zero =>
      rw [List.takeWhile_cons, if_neg (by rw [h2 y rfl]; decide)]
      rfl
    | succ k =>
      rw [List.takeWhile_cons, if_pos (h 0 y (by omega) rfl)]
      rw [List.length_cons, ih (k := k) (by simpa using hk) (fun j x hj hx => h (j + 1) x (by omega) (by simpa using hx)) (fun x hx => h2 x (by simpa using hx))]

end Go.Proofs.YtnffjafddbbjaaaGreatDoor

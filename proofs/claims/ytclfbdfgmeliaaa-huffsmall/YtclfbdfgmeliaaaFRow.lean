/-
  Numbers of places that a call owns; rows of unlike elements lie apart.
-/
import Derived.Test.YtclfbdfgmeliaaaRows
import Derived.Test.YtclfbdfgmeliaaaMem
namespace Go.Proofs.Ytclfbdfgmeliaaa
open Go.RowKit

theorem own_apart {w : World} {e e' : TypeId} {s s' : Nat} {v v' : Value} {n n' : Nat} {xs xs' : List Value} (h : w.ownsRow 0 e s v n xs) (h' : w.ownsRow 0 e' s' v' n' xs') (hne : e ≠ e') : ∀ k, v'.ownBlock = some k → v.ownBlock ≠ some k := by
  intro k hk1 hk2
  rcases h.2 with ⟨rfl, -⟩ | ⟨g, cap, cur, rfl, -, hg, -⟩
  · simp [Value.ownBlock] at hk2
  · rcases h'.2 with ⟨rfl, -⟩ | ⟨g', cap', cur', rfl, -, hg', -⟩
    · simp [Value.ownBlock] at hk1
    · simp [Value.ownBlock] at hk1 hk2
      subst hk1 hk2
      rw [hg] at hg'
      simp only [Option.some.injEq, Obj.cells.injEq] at hg'
      exact hne hg'.2.1
/-- Numbers that the call owns. -/
def OwnC (w : World) (v : Value) (bs : List Nat) : Prop := w.ownsRow 0 3 1 v bs.length (row .i64 bs)
/-- A number of each place. -/
def fnRow (n : Nat) (f : Nat → Nat) : List Nat := (List.range n).map f
theorem fnRow_length (n : Nat) (f : Nat → Nat) : (fnRow n f).length = n := by simp [fnRow]
theorem fnRow_get (n : Nat) (f : Nat → Nat) (s : Nat) (h : s < n) : (fnRow n f)[s]? = some (f s) := by simp [fnRow, h]
theorem fnRow_set (n : Nat) (f f' : Nat → Nat) (s x : Nat) (hs : f' s = x) (ho : ∀ t, t ≠ s → f' t = f t) : (fnRow n f).set s x = fnRow n f' := by
  apply List.ext_getElem?
  intro t
  rw [List.getElem?_set]
  by_cases ht : t < n
  · rw [fnRow_get n f' t ht]
    by_cases hst : s = t
    · subst hst
      rw [if_pos rfl, if_pos (by rw [fnRow_length]; exact ht), hs]
    · rw [if_neg hst, fnRow_get n f t ht, ho t (fun e => hst e.symm)]
  · have h1 : (fnRow n f')[t]? = none := List.getElem?_eq_none (by rw [fnRow_length]; omega)
    rw [h1]
    by_cases hst : s = t
    · rw [if_pos hst, if_neg (by rw [fnRow_length]; omega)]
    · rw [if_neg hst]
      exact List.getElem?_eq_none (by rw [fnRow_length]; omega)

end Go.Proofs.Ytclfbdfgmeliaaa

/-
  A map from edges to ints: what it has at each; put, delete.
-/
import Derived.Test.YtanimgfhabkmcaaEKey
namespace Go.Proofs.Ytanimgfhabkmcaa
open Go.RowKit Go.Maps

/-- What a datum has at each edge. -/
def AtE (D : DataW Unit) (f : Eg → Option Int) : Prop := ∀ e, EgFit e → has D (eKey e) = (f e).isSome ∧ ∀ v, f e = some v → D.atKey (eKey e) (.lit (.int .i64 0)) = .lit (.int .i64 v)
/-- Block b is a map with elements of type E (of kind int64) that has f, of at most n entries. -/
def OwnI (E : TypeId) (w : World) (b n : Nat) (f : Eg → Option Int) : Prop := ∃ D : DataW Unit, w.ownsMap Try.prog 54 (plainElem Try.prog E) b n D ∧ AtE D f
theorem ownI_new (E : TypeId) (w : World) : OwnI E (w.alloc (.map #[] 0)) w.heap.size 0 (fun _ => none) := ⟨_, World.ownsMap_made w _ _ _, fun e _ => ⟨by simp [has_eq], fun v h => by cases h⟩⟩
theorem OwnI.frame {E : TypeId} {w w' : World} {b n : Nat} {f : Eg → Option Int} {S : Nat → Prop} (h : OwnI E w b n f) (g : Fr w w' S) (hs : ¬ S b) : OwnI E w' b n f := by
  obtain ⟨D, ⟨es, clock, hb, r⟩, hD⟩ := h
  exact ⟨D, ⟨es, clock, g.kept hb hs, r⟩, hD⟩
theorem OwnI.lt {E : TypeId} {w : World} {b n : Nat} {f : Eg → Option Int} (h : OwnI E w b n f) : b < w.heap.size := by
  obtain ⟨D, ho, -⟩ := h
  exact ho.lt
theorem OwnI.mono {E : TypeId} {w : World} {b n m : Nat} {f : Eg → Option Int} (h : OwnI E w b n f) (hm : n ≤ m) : OwnI E w b m f := by
  obtain ⟨D, ho, hD⟩ := h
  exact ⟨D, ho.mono hm, hD⟩
set_option maxRecDepth 8000 in
theorem atE_put {D : DataW Unit} {f : Eg → Option Int} {e : Eg} {v : Int} (he : EgFit e) (hi : IsMap D) (hD : AtE D f) : AtE (D.put (eKey e) (.lit (.int .i64 v))) (fun x => if x = e then some v else f x) := by
  intro x hx
  dsimp only
  by_cases hxe : x = e
  · subst hxe
    rw [if_pos rfl]
    exact ⟨has_put_same hi (mLaw.key (eKey_is _ hx)) _, fun u hu => by simp only [Option.some.injEq] at hu; subst hu; exact atKey_put_same hi (mLaw.key (eKey_is _ hx)) _ _⟩
  · have hne : eKey x ≠ eKey e := fun h => hxe (eKey_inj hx he h)
    rw [if_neg hxe]
    obtain ⟨h1, h2⟩ := hD x hx
    exact ⟨by rw [has_put_other hne]; exact h1, fun u hu => by rw [atKey_put_other hne]; exact h2 u hu⟩
set_option maxRecDepth 8000 in
theorem atE_del {D : DataW Unit} {f : Eg → Option Int} {e : Eg} (he : EgFit e) (hD : AtE D f) : AtE (D.del (eKey e)) (fun x => if x = e then none else f x) := by
  intro x hx
  dsimp only
  by_cases hxe : x = e
  · subst hxe
    rw [if_pos rfl]
    exact ⟨has_del_same, fun u hu => by cases hu⟩
  · have hne : eKey x ≠ eKey e := fun h => hxe (eKey_inj hx he h)
    rw [if_neg hxe]
    obtain ⟨h1, h2⟩ := hD x hx
    exact ⟨by rw [has_del_other hne]; exact h1, fun u hu => by rw [atKey_del_other hne]; exact h2 u hu⟩
set_option maxRecDepth 8000 in
/-- What a look-up answers. -/
theorem atE_look {D : DataW Unit} {f : Eg → Option Int} {e : Eg} {c : Int} (he : EgFit e) (hD : AtE D f) (hc : D.atKey (eKey e) (.lit (.int .i64 0)) = .lit (.int .i64 c)) : c = (f e).getD 0 := by
  obtain ⟨h1, h2⟩ := hD e he
  cases hf : f e with
  | some v =>
    have := h2 v hf
    rw [hc] at this
    simp only [DataW.lit.injEq, Lit.int.injEq, true_and] at this
    rw [this]
    rfl
  | none =>
    rw [hf] at h1
    rw [atKey_of_not_has h1] at hc
    simp only [DataW.lit.injEq, Lit.int.injEq, true_and] at hc
    rw [← hc]
    rfl

end Go.Proofs.Ytanimgfhabkmcaa

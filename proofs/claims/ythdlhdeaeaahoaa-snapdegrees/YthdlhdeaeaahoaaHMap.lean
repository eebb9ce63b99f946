/-
  A set of edges in a map: who is in it; look up, put, delete.
-/
import Derived.Test.YthdlhdeaeaahoaaEKey
namespace Go.Proofs.Ythdlhdeaeaahoaa
open Go.RowKit Go.Maps

theorem mZero (w : World) : (zeroValue 84).run Try.prog w = .ok (.agg #[]) w := by kernel_rfl
/-- Block b is a map that has just the edges of l, of at most n entries. -/
def OwnM (w : World) (b n : Nat) (l : List Eg) : Prop := ∃ D : DataW Unit, w.ownsMap Try.prog 48 unitElem b n D ∧ ∀ e, EgFit e → has D (eKey e) = decide (e ∈ l)

theorem ownM_new (w : World) : OwnM (w.alloc (.map #[] 0)) w.heap.size 0 [] := ⟨_, World.ownsMap_made w _ _ _, fun e _ => by simp [has_eq]⟩
theorem OwnM.frame {w w' : World} {b n : Nat} {l : List Eg} {S : Nat → Prop} (h : OwnM w b n l) (f : Fr w w' S) (hs : ¬ S b) : OwnM w' b n l := by
  obtain ⟨D, ⟨es, clock, hb, r⟩, hD⟩ := h
  exact ⟨D, ⟨es, clock, f.kept hb hs, r⟩, hD⟩
theorem OwnM.lt {w : World} {b n : Nat} {l : List Eg} (h : OwnM w b n l) : b < w.heap.size := by
  obtain ⟨D, ho, -⟩ := h
  exact ho.lt
theorem OwnM.mono {w : World} {b n m : Nat} {l : List Eg} (h : OwnM w b n l) (hm : n ≤ m) : OwnM w b m l := by
  obtain ⟨D, ho, hD⟩ := h
  exact ⟨D, ho.mono hm, hD⟩
set_option maxRecDepth 8000 in
theorem has_put_all {D : DataW Unit} {l l' : List Eg} {e : Eg} (he : EgFit e) (hi : IsMap D) (hD : ∀ x, EgFit x → has D (eKey x) = decide (x ∈ l)) (hl : ∀ x, x ∈ l' ↔ (x ∈ l ∧ x ≠ e) ∨ x = e) :
    ∀ x, EgFit x → has (D.put (eKey e) (.agg [])) (eKey x) = decide (x ∈ l') := by
  intro x hx
  by_cases hxe : x = e
  · subst hxe
    rw [has_put_same hi (mLaw.key (eKey_is _ hx))]
    exact (decide_eq_true ((hl _).2 (.inr rfl))).symm
  · rw [has_put_other (fun h => hxe (eKey_inj hx he h)), hD x hx]
    exact decide_eq_decide.2 ⟨fun h => (hl _).2 (.inl ⟨h, hxe⟩), fun h => by
      rcases (hl _).1 h with h | h
      · exact h.1
      · exact absurd h hxe⟩
set_option maxRecDepth 8000 in
theorem has_del_all {D : DataW Unit} {l l' : List Eg} {e : Eg} (he : EgFit e) (hD : ∀ x, EgFit x → has D (eKey x) = decide (x ∈ l)) (hl : ∀ x, x ∈ l' ↔ x ∈ l ∧ x ≠ e) :
    ∀ x, EgFit x → has (D.del (eKey e)) (eKey x) = decide (x ∈ l') := by
  intro x hx
  by_cases hxe : x = e
  · subst hxe
    rw [has_del_same]
    exact (decide_eq_false (fun h => ((hl _).1 h).2 rfl)).symm
  · rw [has_del_other (fun h => hxe (eKey_inj hx he h)), hD x hx]
    exact decide_eq_decide.2 ⟨fun h => (hl _).2 ⟨h, hxe⟩, fun h => ((hl _).1 h).1⟩

end Go.Proofs.Ythdlhdeaeaahoaa

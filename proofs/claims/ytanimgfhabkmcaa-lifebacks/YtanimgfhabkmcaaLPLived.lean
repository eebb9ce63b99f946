/-
  The contract of life's lived: the lives of the events of a history, as they come.
-/
import Derived.Test.YtanimgfhabkmcaaLPSmall
import Derived.Test.YtanimgfhabkmcaaEMapI
import Derived.Test.YtanimgfhabkmcaaLBent
namespace Go.Proofs.Ytanimgfhabkmcaa
open Go.RowKit Go.Maps

/-- Lives of which some still go on, as they'll be. -/
def fillL (L : List Lf) (r : List Ev) : List Lf := L.map (fun z => if z.2.2 = -1 then (z.1, z.2.1, endF z.1 r) else z)
/-- What is so of the lives that go on and the places kept of them. -/
def OpenL (now : List Eg) (f : Eg → Option Int) (L : List Lf) : Prop :=
  (∀ e ∈ now, ∃ (j : Nat) (s : Int), f e = some (j : Int) ∧ L[j]? = some (e, s, -1)) ∧ ∀ (j : Nat) (z : Lf), L[j]? = some z → z.2.2 = -1 → z.1 ∈ now ∧ f z.1 = some (j : Int)
theorem fill_end (L : List Lf) : fillL L [] = L := by
  unfold fillL
  conv => rhs; rw [← List.map_id L]
  refine List.map_congr_left (fun z _ => ?_)
  split
  · rename_i h
    obtain ⟨e, s, q⟩ := z
    dsimp only at h
    subst h
    rfl
  · rfl
theorem fill_skip {L : List Lf} {x : Ev} {r : List Ev} (h : ∀ z ∈ L, z.2.2 = -1 → z.1 ≠ x.2.1) : fillL L (x :: r) = fillL L r := by
  unfold fillL
  refine List.map_congr_left (fun z hz => ?_)
  split
  · rename_i h1
    rw [endF_ne (fun e => h z hz h1 e.symm)]
  · rfl
/-- An edge comes. -/
theorem open_come {now now' : List Eg} {f : Eg → Option Int} {L : List Lf} {t : Int} {e : Eg} (h : OpenL now f L) (ht : turnF now e true = some now') : OpenL now' (fun x => if x = e then some (L.length : Int) else f x) (L ++ [(e, t, -1)]) := by
  have hne := (turn_come ht).1
  refine ⟨fun x hx => ?_, fun j z hz hq => ?_⟩
  · rcases (mem_turn ht x).1 hx with ⟨h1, h2⟩ | ⟨-, h1⟩
    · obtain ⟨j, s, h3, h4⟩ := h.1 x h1
      exact ⟨j, s, (if_neg h2).trans h3, by rw [List.getElem?_append_left (List.getElem?_eq_some_iff.1 h4).1]; exact h4⟩
    · subst h1
      exact ⟨L.length, t, if_pos rfl, by simp⟩
  · by_cases hj : j < L.length
    · rw [List.getElem?_append_left hj] at hz
      obtain ⟨h1, h2⟩ := h.2 j z hz hq
      have h3 : z.1 ≠ e := fun he => hne (he ▸ h1)
      exact ⟨(mem_turn ht _).2 (.inl ⟨h1, h3⟩), (if_neg h3).trans h2⟩
    · have hj2 : j = L.length := by
        have := (List.getElem?_eq_some_iff.1 hz).1
        simp at this
        omega
      subst hj2
      simp at hz
      subst hz
      exact ⟨(mem_turn ht _).2 (.inr ⟨rfl, rfl⟩), if_pos rfl⟩
theorem fill_come {now now' : List Eg} {f : Eg → Option Int} {L : List Lf} {t : Int} {e : Eg} {r : List Ev} (h : OpenL now f L) (ht : turnF now e true = some now') :
    fillL (L ++ [(e, t, -1)]) r ++ addsL r = fillL L ((t, e, true) :: r) ++ addsL ((t, e, true) :: r) := by
  have hne := (turn_come ht).1
  have h1 : fillL L ((t, e, true) :: r) = fillL L r := fill_skip (fun z hz hq he => by
    obtain ⟨j, hj⟩ := List.getElem?_of_mem hz
    have h9 : z.1 = e := he
    exact hne (by rw [← h9]; exact (h.2 j z hj hq).1))
  have h2 : addsL ((t, e, true) :: r) = (e, t, endF e r) :: addsL r := if_pos rfl
  have h3 : fillL (L ++ [(e, t, -1)]) r = fillL L r ++ [(e, t, endF e r)] := by unfold fillL; simp
  rw [h1, h2, h3, List.append_assoc]
  rfl
/-- An edge goes. -/
theorem open_place {now now' : List Eg} {f : Eg → Option Int} {L : List Lf} {e : Eg} (h : OpenL now f L) (ht : turnF now e false = some now') : ∃ (j : Nat) (s : Int), f e = some (j : Int) ∧ L[j]? = some (e, s, -1) := h.1 e (turn_go ht).1
theorem open_go {now now' : List Eg} {f : Eg → Option Int} {L : List Lf} {t s : Int} {e : Eg} {j : Nat} (h : OpenL now f L) (ht : turnF now e false = some now') (h0 : 0 ≤ t) (hf : f e = some (j : Int)) (hj : L[j]? = some (e, s, -1)) : OpenL now' f (L.set j (e, s, t)) := by
  have hjl := (List.getElem?_eq_some_iff.1 hj).1
  refine ⟨fun x hx => ?_, fun i z hz hq => ?_⟩
  · rcases (mem_turn ht x).1 hx with ⟨h1, h2⟩ | ⟨h1, -⟩
    · obtain ⟨i, s', h3, h4⟩ := h.1 x h1
      have hij : j ≠ i := fun hij => by
        subst hij
        rw [hj] at h4
        simp only [Option.some.injEq, Prod.mk.injEq] at h4
        exact h2 h4.1.symm
      exact ⟨i, s', h3, by rw [List.getElem?_set_ne hij]; exact h4⟩
    · cases h1
  · by_cases hij : j = i
    · subst hij
      rw [List.getElem?_set_self hjl] at hz
      simp only [Option.some.injEq] at hz
      subst hz
      dsimp only at hq
      omega
    · rw [List.getElem?_set_ne hij] at hz
      obtain ⟨h1, h2⟩ := h.2 i z hz hq
      refine ⟨(mem_turn ht _).2 (.inl ⟨h1, fun he => ?_⟩), h2⟩
      rw [he, hf] at h2
      simp only [Option.some.injEq] at h2
      omega
theorem fill_go {now : List Eg} {f : Eg → Option Int} {L : List Lf} {t s : Int} {e : Eg} {j : Nat} {r : List Ev} (h : OpenL now f L) (h0 : 0 ≤ t) (hf : f e = some (j : Int)) (hj : L[j]? = some (e, s, -1)) :
    fillL (L.set j (e, s, t)) r ++ addsL r = fillL L ((t, e, false) :: r) ++ addsL ((t, e, false) :: r) := by
  have h2 : addsL ((t, e, false) :: r) = addsL r := if_neg (by simp)
  have hjl := (List.getElem?_eq_some_iff.1 hj).1
  have h1 : fillL (L.set j (e, s, t)) r = fillL L ((t, e, false) :: r) := by
    refine List.ext_getElem? (fun i => ?_)
    unfold fillL
    rw [List.getElem?_map, List.getElem?_map]
    by_cases hij : j = i
    · subst hij
      rw [List.getElem?_set_self hjl, hj]
      have e1 : ¬ t = -1 := by omega
      simp only [Option.map_some, if_neg e1, if_true]
      rw [endF_eq (x := (t, e, false)) (r := r) rfl]
    · rw [List.getElem?_set_ne hij]
      cases hz : L[i]? with
      | none => rfl
      | some z =>
        simp only [Option.map_some, Option.some.injEq]
        split
        · rename_i hq
          rw [endF_ne (x := (t, e, false)) (r := r) (fun he => by
            obtain ⟨-, h3⟩ := h.2 i z hz hq
            dsimp only at he
            rw [← he, hf] at h3
            simp only [Option.some.injEq] at h3
            omega)]
        · rfl
  rw [h1, h2]

end Go.Proofs.Ytanimgfhabkmcaa

/-
  Events that may be: what becomes of the graph; plain mathematics.
-/
import Derived.Test.YthdlhdeaeaahoaaXSeatM
import Derived.Test.YthdlhdeaeaahoaaJ2
namespace Go.Proofs.Ythdlhdeaeaahoaa
open Go.RowKit

/-- Events that may be, from a graph on. -/
def Good (n : Nat) : List Eg → List Ev → Prop
  | _, [] => True
  | now, x :: r => (0 ≤ x.1 ∧ x.1 ≤ 4611686018427387903 ∧ eRight x.2.1.1 x.2.1.2 n = true) ∧ ∃ now', turnF now x.2.1 x.2.2 = some now' ∧ Good n now' r
theorem good_of (n : Nat) : ∀ (evs : List Ev) (now : List Eg) (pv : Option Ev) (i : Nat), (chkF n now pv i evs).2 = 0 → Good n now evs ∧ Srt evs ∧ (∀ p, pv = some p → ∀ x ∈ evs, eBef p x = true)
  | [], now, pv, i, _ => ⟨trivial, List.Pairwise.nil, fun _ _ x hx => by cases hx⟩
  | x :: r, now, pv, i, h => by
    rw [chkF] at h
    split at h
    · simp at h
    · rename_i h1
      split at h
      · simp at h
      · rename_i h2
        split at h
        · simp at h
        · rename_i h3
          split at h
          · simp at h
          · rename_i now' h4
            obtain ⟨g1, g2, g3⟩ := good_of n r now' (some x) (i + 1) h
            have hs : Srt (x :: r) := List.pairwise_cons.2 ⟨g3 x rfl, g2⟩
            refine ⟨⟨⟨by omega, by omega, by simpa using h2⟩, now', h4, g1⟩, hs, fun p hp y hy => ?_⟩
            subst hp
            have hpx : eBef p x = true := by simpa using h3
            rcases List.mem_cons.1 hy with rfl | hy
            · exact hpx
            · exact eBef_trans hpx (g3 x rfl y hy)
theorem good_check {n : Nat} {evs : List Ev} (h : (checkF n evs).2 = 0) : n ≤ 4294967296 ∧ evs.length ≤ 2147483648 ∧ Good n [] evs ∧ Srt evs := by
  unfold checkF at h
  split at h
  · cases h
  · rename_i h1
    obtain ⟨g1, g2, -⟩ := good_of n evs [] none 0 h
    exact ⟨by omega, by omega, g1, g2⟩

theorem good_times {n : Nat} : ∀ {evs : List Ev} {now : List Eg}, Good n now evs → ∀ x ∈ evs, 0 ≤ x.1 ∧ x.1 ≤ 4611686018427387903 ∧ eRight x.2.1.1 x.2.1.2 n = true
  | [], _, _, x, hx => by cases hx
  | y :: r, now, h, x, hx => by
    obtain ⟨h1, now', -, h2⟩ := h
    rcases List.mem_cons.1 hx with rfl | hx
    · exact h1
    · exact good_times h2 x hx
theorem turn_add {l l' : List Eg} {e : Eg} {add : Bool} (h : turnF l e add = some l') : eRising l = true ∧ add = !decide (e ∈ l) := by
  unfold turnF at h
  split at h
  · cases h
  · rename_i hn
    refine ⟨?_, ?_⟩
    · cases hh : eRising l with
      | true => rfl
      | false => exact absurd (.inl hh) hn
    · by_cases hm : e ∈ l <;> cases add <;> simp_all
theorem turn_come {l l' : List Eg} {e : Eg} (h : turnF l e true = some l') : e ∉ l ∧ l'.Perm (e :: l) := by
  have h1 := (turn_add h).2
  have hm : e ∉ l := by simpa using h1
  refine ⟨hm, (List.perm_ext_iff_of_nodup (rising_nodup (turn_rising h)) (List.nodup_cons.2 ⟨hm, rising_nodup (turn_add h).1⟩)).2 (fun x => ?_)⟩
  rw [mem_turn h, List.mem_cons]
  constructor
  · rintro (⟨h2, h3⟩ | ⟨-, h2⟩)
    · exact .inr h2
    · exact .inl h2
  · rintro (h2 | h2)
    · exact .inr ⟨rfl, h2⟩
    · exact .inl ⟨h2, fun he => hm (he ▸ h2)⟩
theorem turn_go {l l' : List Eg} {e : Eg} (h : turnF l e false = some l') : e ∈ l ∧ e ∉ l' ∧ l.Perm (e :: l') := by
  have h1 := (turn_add h).2
  have hm : e ∈ l := by simpa using h1
  have hm' : e ∉ l' := fun h2 => by
    rw [mem_turn h] at h2
    rcases h2 with ⟨-, h3⟩ | ⟨h3, -⟩
    · exact h3 rfl
    · cases h3
  refine ⟨hm, hm', (List.perm_ext_iff_of_nodup (rising_nodup (turn_add h).1) (List.nodup_cons.2 ⟨hm', rising_nodup (turn_rising h)⟩)).2 (fun x => ?_)⟩
  rw [List.mem_cons, mem_turn h]
  constructor
  · intro h2
    by_cases hx : x = e
    · exact .inl hx
    · exact .inr (.inl ⟨h2, hx⟩)
  · rintro (h2 | ⟨h2, -⟩ | ⟨h2, -⟩)
    · exact h2 ▸ hm
    · exact h2
    · cases h2

theorem rising_ext {l m : List Eg} (hl : eRising l = true) (hm : eRising m = true) (h : ∀ x, x ∈ l ↔ x ∈ m) : l = m :=
  List.Perm.eq_of_pairwise (le := fun a b => eLess a b = true) (fun x y _ _ h k => by rw [eLess_asymm h] at k; cases k) (eRising_pw.1 hl) (eRising_pw.1 hm) ((List.perm_ext_iff_of_nodup (rising_nodup hl) (rising_nodup hm)).2 h)
theorem turn_there {l l' : List Eg} {e : Eg} {add : Bool} (h : turnF l e add = some l') : decide (e ∈ l') = add := by
  have hm := mem_turn h
  cases add with
  | true => exact decide_eq_true ((hm e).2 (.inr ⟨rfl, rfl⟩))
  | false => exact decide_eq_false (fun hh => by rcases (hm e).1 hh with ⟨-, h2⟩ | ⟨h2, -⟩ <;> simp at h2)
/-- A turn, turned back. -/
theorem turn_back {l l' : List Eg} {e : Eg} {add : Bool} (h : turnF l e add = some l') : turnF l' e (!add) = some l := by
  have hl := (turn_add h).1
  have hl' := turn_rising h
  have hm := mem_turn h
  have hin : decide (e ∈ l') = add := by
    cases add with
    | true => exact decide_eq_true ((hm e).2 (.inr ⟨rfl, rfl⟩))
    | false => exact decide_eq_false (fun hh => by rcases (hm e).1 hh with ⟨-, h2⟩ | ⟨h2, -⟩ <;> simp at h2)
  obtain ⟨l'', h2⟩ := turn_some (l := l') (e := e) (add := !add) hl' (by rw [hin])
  rw [h2]
  have h3 := mem_turn h2
  refine congrArg some (rising_ext (turn_rising h2) hl (fun x => ?_))
  have h4 := (turn_add h).2
  rw [h3, hm]
  by_cases hx : x = e
  · subst hx
    cases add <;> simp_all
  · simp [hx]
theorem aft_rising : ∀ (l : List Ev) (now : List Eg), eRising now = true → eRising (aftF now l) = true
  | [], _, h => h
  | x :: r, now, h => by
    rw [aftF]
    refine aft_rising r _ ?_
    cases ht : turnF now x.2.1 x.2.2 with
    | none => rfl
    | some now' => exact turn_rising ht
theorem aft_length : ∀ (l : List Ev) (now : List Eg), (aftF now l).length ≤ now.length + l.length
  | [], _ => by simp [aftF]
  | x :: r, now => by
    rw [aftF]
    have h1 := aft_length r ((turnF now x.2.1 x.2.2).getD [])
    have h2 : ((turnF now x.2.1 x.2.2).getD []).length ≤ now.length + 1 := by
      cases ht : turnF now x.2.1 x.2.2 with
      | none => simp
      | some now' => exact turn_length ht
    rw [List.length_cons]
    omega
theorem aft_mem : ∀ (l : List Ev) (now : List Eg) (e : Eg), e ∈ aftF now l → e ∈ now ∨ ∃ x ∈ l, x.2.1 = e
  | [], _, e, h => .inl h
  | x :: r, now, e, h => by
    rw [aftF] at h
    rcases aft_mem r _ e h with h1 | ⟨y, h1, h2⟩
    · cases ht : turnF now x.2.1 x.2.2 with
      | none => rw [ht] at h1; cases h1
      | some now' =>
        rw [ht, Option.getD_some] at h1
        rcases (mem_turn ht e).1 h1 with h2 | h2
        · exact .inl h2.1
        · exact .inr ⟨x, List.mem_cons_self .., h2.2.symm⟩
    · exact .inr ⟨y, List.mem_cons_of_mem _ h1, h2⟩
theorem after_err (n : Nat) (evs : List Ev) (k : Int) : (afterF n evs k).2 = (checkF n evs).2 := by
  unfold afterF
  split
  · rename_i h; exact h.symm
  · rfl
theorem at_err (n : Nat) (evs : List Ev) (t : Int) : (atF n evs t).2 = (checkF n evs).2 := after_err n evs _
theorem after_none {n : Nat} {evs : List Ev} {k : Int} (h : (checkF n evs).2 ≠ 0) : (afterF n evs k).1 = [] := by
  unfold afterF
  rw [if_neg h]
theorem after_length (n : Nat) (evs : List Ev) (k : Int) : (afterF n evs k).1.length ≤ evs.length := by
  unfold afterF
  split
  · dsimp only
    refine Nat.le_trans (aft_length _ _) ?_
    rw [List.length_nil, Nat.zero_add, List.length_take]
    exact Nat.min_le_right _ _
  · simp
theorem after_fit {n : Nat} {evs : List Ev} {k : Int} (hf : ∀ x ∈ evs, EvFit x) : ∀ e ∈ (afterF n evs k).1, EgFit e := by
  unfold afterF
  split
  · intro e he
    rcases aft_mem _ _ e he with h | ⟨x, h, rfl⟩
    · cases h
    · exact (hf x (List.mem_of_mem_take h)).2
  · intro e he
    cases he
theorem after_rising (n : Nat) (evs : List Ev) (k : Int) : eRising (afterF n evs k).1 = true := by
  unfold afterF
  split
  · exact aft_rising _ [] rfl
  · rfl
/-- What one event more makes. -/
theorem good_step {n : Nat} : ∀ {evs : List Ev} {now : List Eg} {i : Nat} {x : Ev}, Good n now evs → evs[i]? = some x → turnF (aftF now (evs.take i)) x.2.1 x.2.2 = some (aftF now (evs.take (i + 1)))
  | [], _, _, _, _, hx => by simp at hx
  | y :: r, now, 0, x, hg, hx => by
    obtain ⟨-, now', ht, -⟩ := hg
    simp only [List.getElem?_cons_zero, Option.some.injEq] at hx
    subst hx
    rw [List.take_zero, aftF, List.take_succ_cons, List.take_zero, aftF, aftF, ht, Option.getD_some]
  | y :: r, now, i + 1, x, hg, hx => by
    obtain ⟨-, now', ht, hg'⟩ := hg
    rw [List.take_succ_cons, aftF, ht, Option.getD_some, List.take_succ_cons, aftF, ht, Option.getD_some]
    exact good_step hg' (by simpa using hx)

end Go.Proofs.Ythdlhdeaeaahoaa

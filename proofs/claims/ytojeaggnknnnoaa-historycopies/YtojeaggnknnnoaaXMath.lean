/-
  Events, graphs, histories: plain mathematics, no program.
-/
import Derived.Test.YtojeaggnknnnoaaEMath
namespace Go.Proofs.Ytojeaggnknnnoaa
open Go.RowKit

abbrev Eg := Nat × Nat
abbrev Ev := Int × Eg × Bool

theorem eLess_trans {a b c : Eg} (h : eLess a b = true) (k : eLess b c = true) : eLess a c = true := by
  unfold eLess at *
  simp only [decide_eq_true_eq] at *
  omega
theorem eLess_irrefl (a : Eg) : eLess a a = false := by unfold eLess; simp
theorem eLess_ne {a b : Eg} (h : eLess a b = false) (hne : a ≠ b) : eLess b a = true := by
  obtain ⟨a1, a2⟩ := a
  obtain ⟨b1, b2⟩ := b
  unfold eLess at *
  simp only [decide_eq_true_eq, decide_eq_false_iff_not, ne_eq, Prod.mk.injEq] at *
  omega
theorem eLess_asymm {a b : Eg} (h : eLess a b = true) : eLess b a = false := by
  unfold eLess at *
  simp only [decide_eq_true_eq, decide_eq_false_iff_not] at *
  omega

theorem eRising_pw {l : List Eg} : eRising l = true ↔ l.Pairwise (fun a b => eLess a b = true) := by
  induction l with
  | nil => simp [eRising]
  | cons x l ih =>
    cases l with
    | nil => simp [eRising]
    | cons y r =>
      rw [eRising, Bool.and_eq_true, ih]
      constructor
      · intro ⟨h1, h2⟩
        refine List.pairwise_cons.2 ⟨fun z hz => ?_, h2⟩
        rcases List.mem_cons.1 hz with rfl | hz
        · exact h1
        · exact eLess_trans h1 ((List.pairwise_cons.1 h2).1 z hz)
      · intro h
        have h := List.pairwise_cons.1 h
        exact ⟨h.1 y (List.mem_cons_self ..), h.2⟩
theorem rising_nodup {l : List Eg} (h : eRising l = true) : l.Nodup := by
  rw [eRising_pw] at h
  refine List.Pairwise.imp (fun {a b} hab e => ?_) h
  subst e
  rw [eLess_irrefl] at hab
  cases hab

/-- Where an edge would stand; what becomes of a graph. -/
def posF (l : List Eg) (e : Eg) : Nat := (l.takeWhile (fun x => eLess x e)).length
def turnF (l : List Eg) (e : Eg) (add : Bool) : Option (List Eg) :=
  if eRising l = false ∨ add = decide (e ∈ l) then none
  else if add = true then some (l.take (posF l e) ++ e :: l.drop (posF l e)) else some (l.take (l.idxOf e) ++ l.drop (l.idxOf e + 1))

theorem posF_le (l : List Eg) (e : Eg) : posF l e ≤ l.length := by
  unfold posF
  exact (List.takeWhile_sublist _).length_le
theorem posF_take (l : List Eg) (e : Eg) : l.take (posF l e) = l.takeWhile (fun x => eLess x e) := by
  unfold posF
  induction l with
  | nil => rfl
  | cons x l ih =>
    rw [List.takeWhile_cons]
    split
    · simp [ih]
    · rfl
theorem posF_drop (l : List Eg) (e : Eg) : l.drop (posF l e) = l.dropWhile (fun x => eLess x e) := by
  unfold posF
  induction l with
  | nil => rfl
  | cons x l ih =>
    rw [List.takeWhile_cons, List.dropWhile_cons]
    split
    · simp [ih]
    · rfl
/-- A place that has only lesser ones ahead, and no lesser one at it. -/
theorem posF_is {l : List Eg} {e : Eg} {k : Nat} (hk : k ≤ l.length) (h : ∀ j x, j < k → l[j]? = some x → eLess x e = true) (h2 : ∀ x, l[k]? = some x → eLess x e = false) : posF l e = k := by
  unfold posF
  induction l generalizing k with
  | nil => simp at hk; simp [hk]
  | cons y l ih =>
    cases k with
    | zero =>
      rw [List.takeWhile_cons, if_neg (by rw [h2 y rfl]; decide)]
      rfl
    | succ k =>
      rw [List.takeWhile_cons, if_pos (h 0 y (by omega) rfl)]
      rw [List.length_cons, ih (k := k) (by simpa using hk) (fun j x hj hx => h (j + 1) x (by omega) (by simpa using hx)) (fun x hx => h2 x (by simpa using hx))]

theorem mem_takeWhile_less {l : List Eg} {e x : Eg} (h : x ∈ l.takeWhile (fun x => eLess x e)) : eLess x e = true := by
  induction l with
  | nil => simp at h
  | cons y l ih =>
    rw [List.takeWhile_cons] at h
    split at h
    · rename_i hy
      rcases List.mem_cons.1 h with rfl | h
      · exact hy
      · exact ih h
    · simp at h
theorem dropWhile_great {l : List Eg} {e : Eg} (hr : eRising l = true) (hm : e ∉ l) : ∀ x ∈ l.dropWhile (fun x => eLess x e), eLess e x = true := by
  induction l with
  | nil => simp
  | cons y l ih =>
    rw [eRising_pw, List.pairwise_cons] at hr
    rw [List.dropWhile_cons]
    split
    · exact ih (eRising_pw.2 hr.2) (fun h => hm (List.mem_cons_of_mem _ h))
    · rename_i hy
      have hey : eLess e y = true := eLess_ne (by simpa using hy) (fun h => hm (h ▸ List.mem_cons_self ..))
      intro x hx
      rcases List.mem_cons.1 hx with rfl | hx
      · exact hey
      · exact eLess_trans hey (hr.1 x hx)

theorem erase_at (l : List Eg) (e : Eg) : l.take (l.idxOf e) ++ l.drop (l.idxOf e + 1) = l.eraseIdx (l.idxOf e) := (List.eraseIdx_eq_take_drop_succ ..).symm

theorem turn_rising {l l' : List Eg} {e : Eg} {add : Bool} (h : turnF l e add = some l') : eRising l' = true := by
  unfold turnF at h
  split at h
  · cases h
  · rename_i hn
    have hr : eRising l = true := by
      cases hh : eRising l with
      | true => rfl
      | false => exact absurd (.inl hh) hn
    split at h
    · rename_i ha
      simp only [Option.some.injEq] at h
      subst h
      have hm : e ∉ l := fun hm => hn (.inr (by rw [ha]; simp [hm]))
      rw [posF_take, posF_drop, eRising_pw]
      have hpw := eRising_pw.1 hr
      rw [List.pairwise_append]
      refine ⟨hpw.sublist (List.takeWhile_sublist _), ?_, ?_⟩
      · rw [List.pairwise_cons]
        exact ⟨dropWhile_great hr hm, hpw.sublist (List.dropWhile_sublist _)⟩
      · intro a ha b hb
        have hl := mem_takeWhile_less ha
        rcases List.mem_cons.1 hb with rfl | hb
        · exact hl
        · exact eLess_trans hl (dropWhile_great hr hm b hb)
    · simp only [Option.some.injEq] at h
      subst h
      rw [erase_at, eRising_pw]
      exact (eRising_pw.1 hr).sublist (List.eraseIdx_sublist ..)

/-- Which edges are there then. -/
theorem mem_turn {l l' : List Eg} {e : Eg} {add : Bool} (h : turnF l e add = some l') (x : Eg) : x ∈ l' ↔ (x ∈ l ∧ x ≠ e) ∨ (add = true ∧ x = e) := by
  unfold turnF at h
  split at h
  · cases h
  · rename_i hn
    have hr : eRising l = true := by
      cases hh : eRising l with
      | true => rfl
      | false => exact absurd (.inl hh) hn
    split at h
    · rename_i ha
      simp only [Option.some.injEq] at h
      subst h
      have hm : e ∉ l := fun hm => hn (.inr (by rw [ha]; simp [hm]))
      rw [List.mem_append, List.mem_cons, ha]
      have hs : x ∈ l ↔ x ∈ l.take (posF l e) ∨ x ∈ l.drop (posF l e) := by rw [← List.mem_append, List.take_append_drop]
      constructor
      · rintro (h | rfl | h)
        · exact .inl ⟨hs.2 (.inl h), fun hx => hm (hx ▸ hs.2 (.inl h))⟩
        · exact .inr ⟨rfl, rfl⟩
        · exact .inl ⟨hs.2 (.inr h), fun hx => hm (hx ▸ hs.2 (.inr h))⟩
      · rintro (⟨h, _⟩ | ⟨_, h⟩)
        · rcases hs.1 h with h | h
          · exact .inl h
          · exact .inr (.inr h)
        · exact .inr (.inl h)
    · rename_i ha
      simp only [Option.some.injEq] at h
      subst h
      have ha' : add = false := by cases add <;> simp_all
      have hm : e ∈ l := by
        cases Decidable.em (e ∈ l) with
        | inl h => exact h
        | inr h => exact absurd (.inr (by rw [ha']; simp [h])) hn
      rw [ha', erase_at]
      have hnd := rising_nodup hr
      rw [← List.erase_eq_eraseIdx_of_idxOf rfl, hnd.mem_erase_iff]
      simp [and_comm]
theorem turn_some {l : List Eg} {e : Eg} {add : Bool} (hr : eRising l = true) (h : add = !decide (e ∈ l)) : ∃ l', turnF l e add = some l' := by
  unfold turnF
  rw [if_neg (by rw [hr, h]; cases decide (e ∈ l) <;> simp)]
  split
  · exact ⟨_, rfl⟩
  · exact ⟨_, rfl⟩
theorem turn_length {l l' : List Eg} {e : Eg} {add : Bool} (h : turnF l e add = some l') : l'.length ≤ l.length + 1 := by
  unfold turnF at h
  split at h
  · cases h
  · split at h <;> simp only [Option.some.injEq] at h <;> subst h <;> simp <;> omega

/-- Ahead of it: by time, then by edge. -/
def eBef (a b : Ev) : Bool := eBefore a.1 b.1 a.2.1 b.2.1
theorem eBef_iff {a b : Ev} : eBef a b = true ↔ a.1 < b.1 ∨ (a.1 = b.1 ∧ eLess a.2.1 b.2.1 = true) := by unfold eBef eBefore; simp
theorem eBef_trans {a b c : Ev} (h : eBef a b = true) (k : eBef b c = true) : eBef a c = true := by
  rw [eBef_iff] at *
  rcases h with h | ⟨h, g⟩ <;> rcases k with k | ⟨k, f⟩
  · exact .inl (by omega)
  · exact .inl (by omega)
  · exact .inl (by omega)
  · exact .inr ⟨by omega, eLess_trans g f⟩
theorem eBef_asymm {a b : Ev} (h : eBef a b = true) : eBef b a = false := by
  rw [Bool.eq_false_iff, ne_eq, eBef_iff]
  rw [eBef_iff] at h
  rintro (k | ⟨k, g⟩) <;> rcases h with h | ⟨h, f⟩
  · omega
  · omega
  · omega
  · rw [eLess_asymm f] at g; cases g
theorem eBef_ne {a b : Ev} (h : eBef a b = false) (hne : ¬ (b.1 = a.1 ∧ b.2.1 = a.2.1)) : eBef b a = true := by
  rw [Bool.eq_false_iff, ne_eq, eBef_iff] at h
  rw [eBef_iff]
  by_cases h1 : b.1 < a.1
  · exact .inl h1
  · by_cases h2 : a.1 < b.1
    · exact absurd (.inl h2) h
    · have h3 : a.1 = b.1 := by omega
      refine .inr ⟨h3.symm, eLess_ne ?_ (fun e => hne ⟨h3.symm, e.symm⟩)⟩
      rw [Bool.eq_false_iff]
      exact fun g => h (.inr ⟨h3, g⟩)

/-- The first event that is wrong: its place, its error. -/
def chkF (n : Nat) : List Eg → Option Ev → Nat → List Ev → Nat × Nat
  | _, _, _, [] => (0, 0)
  | now, pv, i, x :: r =>
    if x.1 < 0 ∨ 4611686018427387903 < x.1 then (i, 26)
    else if eRight x.2.1.1 x.2.1.2 n = false then (i, 24)
    else if (pv.any fun p => !eBef p x) = true then (i, 23)
    else match turnF now x.2.1 x.2.2 with
      | none => (i, 25)
      | some now' => chkF n now' (some x) (i + 1) r
def checkF (n : Nat) (evs : List Ev) : Nat × Nat := if 4294967296 < n ∨ 2147483648 < evs.length then (0, 26) else chkF n [] none 0 evs

/-- A history of which nothing is wrong. -/
def RightH (n : Nat) (evs : List Ev) : Prop := checkF n evs = (0, 0)

/-- What is there behind events; how many have come. -/
def aftF (now : List Eg) : List Ev → List Eg
  | [] => now
  | x :: r => aftF ((turnF now x.2.1 x.2.2).getD []) r
def uptoF (evs : List Ev) (t : Int) : Nat := (evs.takeWhile (fun x => decide (x.1 ≤ t))).length
def SortedT (evs : List Ev) : Prop := evs.Pairwise (fun a b => a.1 ≤ b.1)

end Go.Proofs.Ytojeaggnknnnoaa

/-
  Lengths that the laws make; the first and the last of some symbols.
-/
import Derived.Test.YtdbbngppdcpcgaaKC
import Derived.Test.YtdbbngppdcpcgaaKLens
namespace Go.Proofs.Ytdbbngppdcpcgaa
open Go.RowKit

theorem ku16 (n : Int) (h : (Lit.int .u16 n).wf = true) : 0 ≤ n ∧ n < (65536 : Nat) := by have := bounds_u16 h; omega
theorem lawLens_one (xs : List Nat) : lawLens xs 0 1 = (lawBase xs).map fun (n : Nat) => (n : Int) := by unfold lawLens; rw [if_neg (by omega)]
theorem lawBase_len (xs : List Nat) (h : xs.length ≤ 256) : (lawBase xs).length = xs.length := by
  unfold lawBase
  have hk : ∀ n, (symsTo (cnt (xs.map cOf)) n).length ≤ n := by
    intro n
    induction n with
    | zero => simp [symsTo]
    | succ n ih =>
      unfold symsTo
      split
      · omega
      · rw [(ins_perm _ n _).length_eq]; simp; omega
  have h2 : (there (xs.map cOf)).length ≤ 256 := Nat.le_trans (hk _) (by rw [List.length_map]; exact h)
  rw [len_pmLens (by rw [List.length_map]; exact h) (Nat.le_trans h2 (by decide)), List.length_map]
theorem codes_nats {l : List Nat} (h : rightB (l.map fun (n : Nat) => (n : Int)) = true) : codesZ (l.map fun (n : Nat) => (n : Int)) = fnRow l.length (codeOf l) := by
  have hn : nats (l.map fun (n : Nat) => (n : Int)) = l := by
    unfold nats
    rw [List.map_map]
    conv => rhs; rw [← List.map_id l]
    apply List.map_congr_left
    intro n _
    simp
  unfold codesZ
  rw [if_pos h, hn, List.length_map]
  rfl
theorem nats_cast (l : List Nat) : nats (l.map fun (n : Nat) => (n : Int)) = l := by
  unfold nats
  rw [List.map_map]
  conv => rhs; rw [← List.map_id l]
  apply List.map_congr_left
  intro n _
  simp
/-- A length, in memory. -/
theorem cell_ln {w : World} {a : Option Addr} {N c : Nat} {l : List Nat} (h : ReadsZ w (.slice a N c) (l.map fun (n : Nat) => (n : Int))) (hN : N = l.length) (s : Nat) (hs : s < N) : ∃ b off, a = some ⟨b, off, none⟩ ∧ ∀ x, Fr w x (fun _ => False) → x.cell? ⟨b, off + s, none⟩ = some (.int .i64 ((ln l s : Nat) : Int)) := by
  obtain ⟨b, off, cp, e, hb, k⟩ := ReadsZ.get h s ((ln l s : Nat) : Int) (by
    rw [List.getElem?_map]
    unfold ln
    rw [List.getD_eq_getElem?_getD, List.getElem?_eq_getElem (by omega)]
    rfl)
  simp only [Value.slice.injEq] at e
  exact ⟨b, off, e.1, k⟩
theorem cell_code {w : World} {a : Option Addr} {N c : Nat} {f : Nat → Nat} (h : Reads .i64 w (.slice a N c) (fnRow N f)) (s : Nat) (hs : s < N) : ∃ b off, a = some ⟨b, off, none⟩ ∧ ∀ x, Fr w x (fun _ => False) → x.cell? ⟨b, off + s, none⟩ = some (.int .i64 ((f s : Nat) : Int)) := by
  obtain ⟨b, off, cp, e, hb, k⟩ := ReadsZ.get h.z s ((f s : Nat) : Int) (by rw [List.getElem?_map, fnRow_get N f s hs]; rfl)
  simp only [Value.slice.injEq] at e
  exact ⟨b, off, e.1, k⟩

/-- The first, the last of the symbols below s that have a code. -/
structure Fst (l : List Nat) (s f : Nat) : Prop where
  lt : f < s
  pos : 0 < ln l f
  le : ∀ t, t < s → 0 < ln l t → ¬ Ahd l (ln l f) f t
structure Lst (l : List Nat) (s f : Nat) : Prop where
  lt : f < s
  pos : 0 < ln l f
  le : ∀ t, t < s → 0 < ln l t → t ≠ f → Ahd l (ln l f) f t
theorem Fst.skip {l : List Nat} {s f : Nat} (h : Fst l s f) (h0 : ln l s = 0 ∨ ln l f ≤ ln l s) : Fst l (s + 1) f :=
  ⟨Nat.lt_succ_of_lt h.lt, h.pos, fun t ht hp => by
    by_cases e : t = s
    · subst e; have := h.lt; unfold Ahd; omega
    · exact h.le t (by omega) hp⟩
theorem Fst.here {l : List Nat} {s : Nat} (hp : 0 < ln l s) (h : ∀ t, t < s → 0 < ln l t → ln l s < ln l t) : Fst l (s + 1) s :=
  ⟨Nat.lt_succ_self s, hp, fun t ht h0 => by
    by_cases e : t = s
    · subst e; unfold Ahd; omega
    · have := h t (by omega) h0; unfold Ahd; omega⟩
theorem Lst.skip {l : List Nat} {s f : Nat} (h : Lst l s f) (h0 : ln l s = 0 ∨ ln l s < ln l f) : Lst l (s + 1) f :=
  ⟨Nat.lt_succ_of_lt h.lt, h.pos, fun t ht hp hne => by
    by_cases e : t = s
    · subst e; unfold Ahd; omega
    · exact h.le t (by omega) hp hne⟩
theorem Lst.here {l : List Nat} {s : Nat} (hp : 0 < ln l s) (h : ∀ t, t < s → 0 < ln l t → ln l t ≤ ln l s) : Lst l (s + 1) s :=
  ⟨Nat.lt_succ_self s, hp, fun t ht h0 hne => by
    have := h t (by omega) h0
    unfold Ahd
    omega⟩
theorem Fst.min {l : List Nat} {s f : Nat} (h : Fst l s f) (t : Nat) (ht : t < s) (hp : 0 < ln l t) : ln l f ≤ ln l t := by
  have := h.le t ht hp
  unfold Ahd at this
  omega
theorem Lst.max {l : List Nat} {s f : Nat} (h : Lst l s f) (t : Nat) (ht : t < s) (hp : 0 < ln l t) : ln l t ≤ ln l f := by
  by_cases e : t = f
  · subst e; exact Nat.le_refl _
  · have := h.le t ht hp e
    unfold Ahd at this
    omega
theorem some_step (l : List Nat) (s : Nat) (h : s < l.length) : someOf (l.take (s + 1)) = someOf (l.take s) + if 0 < ln l s then 1 else 0 := by
  have e : l.take (s + 1) = l.take s ++ [ln l s] := by
    rw [List.take_add_one, List.getElem?_eq_getElem h]
    unfold ln
    rw [List.getD_eq_getElem?_getD, List.getElem?_eq_getElem h]
    rfl
  rw [e]
  unfold someOf
  rw [List.countP_append, List.countP_singleton]
  by_cases h0 : 0 < ln l s <;> simp [h0]
/-- Lengths that may be have one at least. -/
theorem right_some {l : List Nat} (h : RightL l) : 0 < someOf l := by
  rcases h.how with ⟨h1, -⟩ | h1
  · omega
  · rcases Nat.eq_zero_or_pos (someOf l) with h0 | h0
    · exfalso
      have hz : ∀ n ∈ l, ¬ 0 < n := by
        unfold someOf at h0
        rw [List.countP_eq_zero] at h0
        intro n hn
        simpa using h0 n hn
      have := kraft_one l (fun n hn hp => absurd hp (hz n hn))
      rw [h0] at this
      omega
    · exact h0

end Go.Proofs.Ytdbbngppdcpcgaa

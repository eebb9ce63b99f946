/-
  The lengths of codes by package-merge: plain mathematics, no program.
-/
import Derived.Test.YtclfbdfgmeliaaaPMath
namespace Go.Proofs.Ytclfbdfgmeliaaa

/-- A symbol put behind all that weigh no more. -/
def insSym (wt : Nat → Nat) (s : Nat) : List Nat → List Nat
  | [] => [s]
  | y :: ys => if wt s < wt y then s :: y :: ys else y :: insSym wt s ys
/-- The symbols below n that weigh anything, by weight, then by symbol. -/
def symsTo (wt : Nat → Nat) : Nat → List Nat
  | 0 => []
  | n + 1 => if wt n = 0 then symsTo wt n else insSym wt n (symsTo wt n)

theorem ins_perm (wt : Nat → Nat) (s : Nat) : ∀ l, List.Perm (insSym wt s l) (s :: l)
  | [] => List.Perm.refl _
  | y :: ys => by
    unfold insSym
    split
    · exact List.Perm.refl _
    · exact (List.Perm.cons y (ins_perm wt s ys)).trans (List.Perm.swap s y ys)
theorem ins_up (wt : Nat → Nat) (s : Nat) : ∀ l, l.Pairwise (fun a b => wt a ≤ wt b) → (insSym wt s l).Pairwise fun a b => wt a ≤ wt b
  | [], _ => by simp [insSym]
  | y :: ys, h => by
    have h' := h
    rw [List.pairwise_cons] at h
    unfold insSym
    split
    · rename_i hlt
      rw [List.pairwise_cons]
      refine ⟨fun z hz => ?_, h'⟩
      rcases List.mem_cons.1 hz with rfl | hz
      · omega
      · have := h.1 z hz; omega
    · rename_i hlt
      rw [List.pairwise_cons]
      refine ⟨fun z hz => ?_, ins_up wt s ys h.2⟩
      rcases List.mem_cons.1 ((ins_perm wt s ys).mem_iff.1 hz) with rfl | hz
      · omega
      · exact h.1 z hz

theorem syms_up (wt : Nat → Nat) : ∀ n, (symsTo wt n).Pairwise fun a b => wt a ≤ wt b
  | 0 => List.Pairwise.nil
  | n + 1 => by
    unfold symsTo
    split
    · exact syms_up wt n
    · exact ins_up wt n _ (syms_up wt n)
theorem syms_mem (wt : Nat → Nat) : ∀ n s, s ∈ symsTo wt n ↔ s < n ∧ wt s ≠ 0
  | 0, s => by simp [symsTo]
  | n + 1, s => by
    unfold symsTo
    split
    · rename_i h
      rw [syms_mem wt n s]
      constructor
      · rintro ⟨h1, h2⟩; exact ⟨by omega, h2⟩
      · rintro ⟨h1, h2⟩
        refine ⟨?_, h2⟩
        rcases Nat.lt_succ_iff_lt_or_eq.1 h1 with h3 | rfl
        · exact h3
        · exact absurd h h2
    · rename_i h
      rw [(ins_perm wt n _).mem_iff, List.mem_cons, syms_mem wt n s]
      constructor
      · rintro (rfl | ⟨h1, h2⟩)
        · exact ⟨by omega, h⟩
        · exact ⟨by omega, h2⟩
      · rintro ⟨h1, h2⟩
        rcases Nat.lt_succ_iff_lt_or_eq.1 h1 with h3 | rfl
        · exact .inr ⟨h3, h2⟩
        · exact .inl rfl
theorem syms_nodup (wt : Nat → Nat) : ∀ n, (symsTo wt n).Nodup
  | 0 => List.nodup_nil
  | n + 1 => by
    unfold symsTo
    split
    · exact syms_nodup wt n
    · rw [(ins_perm wt n _).nodup_iff, List.nodup_cons]
      exact ⟨fun h => by have := (syms_mem wt n n).1 h; omega, syms_nodup wt n⟩
/-- A sum over all symbols, where those that weigh nothing count nothing. -/
theorem syms_sum (wt f : Nat → Nat) : ∀ n, (∀ s, s < n → wt s = 0 → f s = 0) → ((List.range n).map f).sum = ((symsTo wt n).map f).sum
  | 0, _ => rfl
  | n + 1, h => by
    have ih := syms_sum wt f n (fun s hs => h s (by omega))
    rw [List.range_succ, List.map_append, List.sum_append, ih, symsTo]
    split
    · rename_i h0
      simp [h n (by omega) h0]
    · rw [((ins_perm wt n _).map f).sum_nat]
      simp; omega

/-- How many of each symbol the first 2m - 2 of the last level hold. -/
def pmOcc (wt : Nat → Nat) (cs : List Nat) (most : Nat) (s : Nat) : Nat := occ ((lv wt cs (most - 1)).take (2 * cs.length - 2)) s

section
variable {wt : Nat → Nat} {cs : List Nat} {L : Nat}

theorem pm_fits (hL : 1 ≤ L) (hm2 : 2 ≤ cs.length) (hm : cs.length ≤ 2 ^ L) : 2 * cs.length - 2 ≤ (lv wt cs (L - 1)).length := by
  rw [lv_length, Nat.le_div_iff_mul_le (Nat.two_pow_pos _), show L - 1 + 1 = L by omega]
  obtain ⟨K, rfl⟩ : ∃ K, L = K + 1 := ⟨L - 1, by omega⟩
  rw [show K + 1 - 1 = K by omega]
  rw [Nat.pow_succ] at hm ⊢
  generalize 2 ^ K = x at *
  obtain ⟨m, hm'⟩ : ∃ m, cs.length = m + 2 := ⟨cs.length - 2, by omega⟩
  rw [hm'] at hm ⊢
  rw [show 2 * (m + 2) - 2 = 2 * (m + 1) by omega]
  rw [Nat.mul_sub, Nat.mul_one, show 2 * (m + 1) * x = (m + 1) * (x * 2) by rw [Nat.mul_comm 2 (m + 1), Nat.mul_assoc, Nat.mul_comm 2 x], show (m + 2) * (x * 2) = (m + 1) * (x * 2) + x * 2 by rw [← Nat.succ_mul]]
  omega

structure PmFacts (wt : Nat → Nat) (cs : List Nat) (L : Nat) : Prop where
  most : ∀ s, pmOcc wt cs L s ≤ L
  none : ∀ s, s ∉ cs → pmOcc wt cs L s = 0
  some : ∀ s ∈ cs, 1 ≤ pmOcc wt cs L s
  down : cs.Pairwise fun a b => pmOcc wt cs L b ≤ pmOcc wt cs L a
  kraft : (cs.map fun s => 2 ^ (L - pmOcc wt cs L s)).sum = 2 ^ L
  best : ∀ n : Nat → Nat, (∀ s ∈ cs, n s ≤ L) → (cs.map fun s => 2 ^ (L - n s)).sum ≤ 2 ^ L → (cs.map fun s => wt s * pmOcc wt cs L s).sum ≤ (cs.map fun s => wt s * n s).sum

/-- Widths and Kraft's sum together. -/
theorem wide_kraft (K : Nat) (cs : List Nat) (n : Nat → Nat) : (cs.map fun s => wide2 K (n s)).sum + (cs.map fun s => 2 ^ (K + 1 - n s)).sum = cs.length * 2 ^ (K + 1) := by
  rw [← sum_add, ← sum_const_map]
  refine sum_congr fun s _ => ?_
  unfold wide2
  have : 2 ^ (K + 1 - n s) ≤ 2 ^ (K + 1) := Nat.pow_le_pow_right (by omega) (by omega)
  omega

theorem pm_facts (hup : cs.Pairwise fun a b => wt a ≤ wt b) (hnd : cs.Nodup) (hL : 1 ≤ L) (hm2 : 2 ≤ cs.length) (hm : cs.length ≤ 2 ^ L) : PmFacts wt cs L := by
  have hf := lv_fills wt hup hnd (L - 1) (2 * cs.length - 2) (pm_fits hL hm2 hm)
  obtain ⟨K, rfl⟩ : ∃ K, L = K + 1 := ⟨L - 1, by omega⟩
  rw [show K + 1 - 1 = K by omega] at hf
  have hpm : ∀ s, pmOcc wt cs (K + 1) s = occ ((lv wt cs K).take (2 * cs.length - 2)) s := fun s => rfl
  have hw := wide_kraft K cs (pmOcc wt cs (K + 1))
  have hwd : (cs.map fun s => wide2 K (pmOcc wt cs (K + 1) s)).sum = (2 * cs.length - 2) * 2 ^ K := hf.width
  have hkr : (cs.map fun s => 2 ^ (K + 1 - pmOcc wt cs (K + 1) s)).sum = 2 ^ (K + 1) := by
    rw [hwd] at hw
    rw [Nat.pow_succ] at hw ⊢
    generalize 2 ^ K = x at *
    obtain ⟨m, hm'⟩ : ∃ m, cs.length = m + 1 := ⟨cs.length - 1, by omega⟩
    rw [hm', show 2 * (m + 1) - 2 = 2 * m by omega, Nat.add_mul, Nat.one_mul, show m * (x * 2) = 2 * m * x by rw [Nat.mul_comm 2 m, Nat.mul_assoc, Nat.mul_comm x 2]] at hw
    omega
  refine ⟨hf.most, hf.none, fun s hs => ?_, hf.down, hkr, fun n hn hk => ?_⟩
  · rcases Nat.eq_zero_or_pos (pmOcc wt cs (K + 1) s) with h0 | h0
    · exfalso
      have hpos : ∀ x ∈ cs, 1 ≤ 2 ^ (K + 1 - pmOcc wt cs (K + 1) x) := fun x _ => Nat.two_pow_pos _
      have hs1 : ∀ (l : List Nat), s ∈ l → (∀ x ∈ l, 1 ≤ 2 ^ (K + 1 - pmOcc wt cs (K + 1) x)) → l.length - 1 + 2 ^ (K + 1) ≤ (l.map fun s => 2 ^ (K + 1 - pmOcc wt cs (K + 1) s)).sum := by
        intro l
        induction l with
        | nil => intro h; cases h
        | cons a l ih =>
          intro h hp
          simp only [List.map_cons, List.sum_cons, List.length_cons]
          by_cases hl : s ∈ l
          · have := ih hl (fun x hx => hp x (by simp [hx]))
            have := hp a (by simp)
            have : 0 < l.length := List.length_pos_of_mem hl
            omega
          · have hsa : s = a := by
              rcases List.mem_cons.1 h with h | h
              · exact h
              · exact absurd h hl
            rw [← hsa, h0]
            have : l.length ≤ (l.map fun s => 2 ^ (K + 1 - pmOcc wt cs (K + 1) s)).sum := by
              have := sum_le (l := l) (f := fun _ => 1) (g := fun s => 2 ^ (K + 1 - pmOcc wt cs (K + 1) s)) (fun x hx => hp x (by simp [hx]))
              rw [sum_const_map] at this
              omega
            rw [Nat.sub_zero]
            omega
      have := hs1 cs hs hpos
      omega
    · exact h0
  · have hb := lv_best wt hup K (2 * cs.length - 2) n hn ?_
    · have hc := hf.cost
      unfold SW at hb
      rw [hc] at hb
      exact hb
    · have hw2 := wide_kraft K cs n
      rw [hwd] at hw
      omega

end
end Go.Proofs.Ytclfbdfgmeliaaa

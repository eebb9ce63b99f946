/-
  Lists of counts as the statements make them; costs and lengths of these.
-/
import Derived.Test.YtjjanlpkhoeejaaMC
import Derived.Test.YtjjanlpkhoeejaaRCounts
namespace Go.Proofs.Ytjjanlpkhoeejaa
open Go.RowKit

theorem small_u16 (n : Int) (h : (Lit.int .u16 n).wf = true) : 0 ≤ n ∧ n < (65536 : Nat) := by have := bounds_u16 h; omega
theorem madeOf_le (k x : Nat) (hx : x < 65536) : madeOf k x ≤ 549755813888 := by
  have p40 : 2 ^ (x % 40) ≤ 549755813888 := Nat.le_trans (Nat.pow_le_pow_right (by omega) (by omega : x % 40 ≤ 39)) (by decide)
  have hxx : x * x ≤ 65535 * 65535 := Nat.mul_le_mul (by omega) (by omega)
  unfold madeOf
  have hq : (k + x % 7) % 5 < 5 := by omega
  generalize (k + x % 7) % 5 = q at hq
  match q, hq with
  | 0, _ => simp; omega
  | 1, _ => simp; omega
  | 2, _ => simp; omega
  | 3, _ => simpa using p40
  | 4, _ => simp; omega
/-- Nats as ints. -/
def zs (cs : List Nat) : List Int := cs.map fun (c : Nat) => (c : Int)
theorem zs_length (cs : List Nat) : (zs cs).length = cs.length := by simp [zs]
theorem zs_clamp (cs : List Nat) (h : ∀ c ∈ cs, c ≤ 1099511627776) : (zs cs).map clampN = cs := by
  unfold zs
  rw [List.map_map]
  conv => rhs; rw [← List.map_id cs]
  apply List.map_congr_left
  intro c hc
  have := h c hc
  simp only [Function.comp, clampN, id]
  omega
theorem zs_in64 (cs : List Nat) (h : ∀ c ∈ cs, c ≤ 1099511627776) : In64 (zs cs) := fun z hz => by
  simp only [zs, List.mem_map] at hz
  obtain ⟨c, hc, rfl⟩ := hz
  have := h c hc
  omega
theorem there_le (cs : List Nat) : (there cs).length ≤ cs.length := by
  have h : ∀ n, (symsTo (cnt cs) n).length ≤ n := by
    intro n
    induction n with
    | zero => simp [symsTo]
    | succ n ih =>
      unfold symsTo
      split
      · omega
      · rw [(ins_perm _ n _).length_eq]; simp; omega
  exact h _
theorem lens_small {cs : List Nat} {L : Nat} (h1 : cs.length ≤ 256) (hL : 1 ≤ L) (hm : (there cs).length ≤ 2 ^ L) : ∀ l ∈ pmLens cs L, l ≤ L := by
  intro l hl
  obtain ⟨i, hi⟩ := List.getElem?_of_mem hl
  have hil := (List.getElem?_eq_some_iff.1 hi).1
  rw [len_pmLens h1 hm] at hil
  have := get_pmLens h1 hm i hil
  rw [List.getD_eq_getElem?_getD, hi] at this
  simp only [Option.getD_some] at this
  rw [this]
  exact (pmLen_pos hL hm i).2
theorem costZ_sum (xs : List Int) (ls : List Nat) (h : ls.length = xs.length) : costZ xs ls = ((List.range xs.length).map fun s => clampN (xs.getD s 0) * ls.getD s 0).sum := by
  unfold costZ
  congr 1
  apply List.ext_getElem (by simp [h])
  intro i h1 h2
  simp at h1 h2
  have h3 : i < ls.length := by omega
  simp [List.getD_eq_getElem?_getD, h2, h3]
theorem cost_pm {cs : List Nat} {L : Nat} (h : ∀ c ∈ cs, c ≤ 1099511627776) (h1 : cs.length ≤ 256) (hm : (there cs).length ≤ 2 ^ L) : costZ (zs cs) (pmLens cs L) = costBy cs (pmLen cs L) := by
  rw [costZ_sum _ _ (by rw [len_pmLens h1 hm, zs_length]), zs_length]
  unfold costBy
  refine sum_congr fun s hs => ?_
  have hs' : s < cs.length := List.mem_range.1 hs
  rw [get_pmLens h1 hm s hs']
  congr 1
  have e : (zs cs).getD s 0 = ((cnt cs s : Nat) : Int) := by simp [zs, cnt, List.getD_eq_getElem?_getD, hs']
  have hc : cnt cs s ≤ 1099511627776 := by
    unfold cnt
    rw [List.getD_eq_getElem?_getD, List.getElem?_eq_getElem hs']
    exact h _ (List.getElem_mem hs')
  rw [e]
  unfold clampN
  omega

end Go.Proofs.Ytjjanlpkhoeejaa

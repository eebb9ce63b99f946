/-
  Small helps for the laws of bytes in fewer bits.
-/
import Derived.Test.YtclfbdfgmeliaaaHC
import Derived.Test.YtclfbdfgmeliaaaHText
import Derived.Test.YtclfbdfgmeliaaaHFacts
namespace Go.Proofs.Ytclfbdfgmeliaaa
open Go.RowKit

theorem HC.readY (M : HC) {v : Value} {bs x : List Nat} {w : World} (h : Reads .u8 w v bs) (hb : ∀ x ∈ bs, x < 256) (hl : bs.length ≤ 100000) (hx : hread bs = some x) :
    Calls Try.prog 15 #[v] w fun e w' => ∃ sv, e = .returned (.tuple #[sv, .int .i64 0]) ∧ Reads .u8 w' sv x ∧ Fr w w' (fun _ => False) := by
  refine (M.read v bs w h hb hl).mono ?_
  rintro e w' ⟨hf, ⟨h1, -⟩ | ⟨y, hy, sv, rfl, hr⟩⟩
  · rw [hx] at h1; cases h1
  · rw [hx] at hy
    simp only [Option.some.injEq] at hy
    subst hy
    exact ⟨sv, rfl, hr, hf⟩
theorem HC.readN (M : HC) {v : Value} {bs : List Nat} {w : World} (h : Reads .u8 w v bs) (hb : ∀ x ∈ bs, x < 256) (hl : bs.length ≤ 100000) (hx : hread bs = none) :
    Calls Try.prog 15 #[v] w fun e w' => e = .returned (.tuple #[.slice none 0 0, .int .i64 21]) ∧ Fr w w' (fun _ => False) := by
  refine (M.read v bs w h hb hl).mono ?_
  rintro e w' ⟨hf, ⟨-, rfl⟩ | ⟨y, hy, -⟩⟩
  · exact ⟨rfl, hf⟩
  · rw [hx] at hy; cases hy
theorem hu8 (n : Int) (h : (Lit.int .u8 n).wf = true) : 0 ≤ n ∧ n < (256 : Nat) := by have := bounds_u8 h; omega
theorem hu16 (n : Int) (h : (Lit.int .u16 n).wf = true) : 0 ≤ n ∧ n < (65536 : Nat) := by have := bounds_u16 h; omega
theorem hput_le (b : List Nat) (hl : b.length ≤ 10000) : (hput b).length ≤ 30000 := by
  have h1 := enc_le b.length (by omega)
  by_cases h0 : b = []
  · unfold hput
    rw [if_pos h0, List.append_nil]
    omega
  · rw [hput_len b h0]
    have h2 := rowsTo_small (lensB b) (lnB_15 b) 256 (Nat.le_refl _)
    have h3 := enc_le (someTo (lensB b) 256) (by have := someTo_le (lensB b) 256; omega)
    have h4 := bitsOf_le (lensB b) b (lnB_15 b)
    rw [bitsOf_len] at h4
    have h5 : (headOf (lensB b)).length ≤ 1000 := by
      unfold headOf
      rw [List.length_append]
      omega
    omega
theorem le62 {n : Nat} (h : n ≤ 100000) : n ≤ 2 ^ 62 := Nat.le_trans h (by decide)
theorem below_of {w w' : World} (h : Fr w w' (fun _ => False)) : Below w.heap.size w w' := h.below (Nat.le_refl _) (fun _ h => h.elim)
theorem mem_of_getD {xs : List Nat} {m : Nat} (h : ∀ j, xs.getD j 0 < m) : ∀ x ∈ xs, x < m := fun x hx => by
  obtain ⟨j, hj⟩ := List.getElem?_of_mem hx
  have := h j
  rwa [List.getD_eq_getElem?_getD, hj] at this

end Go.Proofs.Ytclfbdfgmeliaaa

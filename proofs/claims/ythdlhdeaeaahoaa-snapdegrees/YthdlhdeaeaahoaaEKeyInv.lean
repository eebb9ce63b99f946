/-
  What reads as a key is an edge; two edges' keys.
-/
import Derived.Test.YthdlhdeaeaahoaaHMap
import Derived.DeepKeys2
namespace Go.Proofs.Ythdlhdeaeaahoaa
open Go.RowKit Go.Maps

theorem u32_lit {d : Nat} {x : Value} {L : List Lit} (h : Try.prog.keyLits d 46 [x] = some L) : ∃ n : Nat, n < 4294967296 ∧ x = .int .u32 (n : Int) := by
  cases d with
  | zero => simp [Program.keyLits] at h
  | succ d =>
    cases x <;> simp [Program.keyLits, Try.underlying46] at h
    rename_i k z
    obtain ⟨⟨rfl, hw⟩, -⟩ := h
    have hmin : IntKind.u32.min = 0 := by decide
    have hmax : IntKind.u32.max = 4294967295 := by decide
    simp [Lit.wf, hmin, hmax] at hw
    exact ⟨z.toNat, by omega, by rw [Int.toNat_of_nonneg hw.1]⟩
set_option maxRecDepth 8000 in
theorem eKey_inv {v : Value} {kl : Lit} (h : keyOf Try.prog 48 v = some kl) : ∃ e, EgFit e ∧ v = edgeV e ∧ kl = eKey e := by
  have h0 := h
  obtain ⟨xs, L, rfl, hk, rfl⟩ := keyOf_top mWide h
  obtain ⟨d, hd⟩ : ∃ d, d = Try.prog.types.size := ⟨_, rfl⟩
  rw [← hd] at hk
  unfold Program.keyLits at hk
  rw [Try.underlying48] at hk
  dsimp only at hk
  split at hk
  · rename_i hlen
    obtain ⟨x, y, hxy⟩ : ∃ x y, xs.toList = [x, y] := by
      have h1 := hlen.1
      rw [mCellsE] at h1
      match hx : xs.toList, h1 with
      | [x, y], _ => exact ⟨x, y, rfl⟩
    rw [hxy] at hk
    cases hA : Try.prog.keyLits d 46 [x] with
    | none => simp [mCellsU, hA] at hk
    | some A =>
    cases hB : Try.prog.keyLits d 46 [y] with
    | none => simp [mCellsU, hA, hB] at hk
    | some B =>
    clear hk
    obtain ⟨a, ha, rfl⟩ := u32_lit hA
    obtain ⟨b, hb, rfl⟩ := u32_lit hB
    have hxs : xs = #[.int .u32 (a : Int), .int .u32 (b : Int)] := by rw [← Array.toArray_toList (xs := xs), hxy]
    subst hxs
    refine ⟨(a, b), ⟨ha, hb⟩, rfl, ?_⟩
    have h1 := eKey_is (a, b) ⟨ha, hb⟩
    rw [show edgeV (a, b) = .agg #[.int .u32 (a : Int), .int .u32 (b : Int)] from rfl, h0] at h1
    simpa using h1
  · cases hk
theorem edgeV_inj {a b : Eg} (h : edgeV a = edgeV b) : a = b := by
  obtain ⟨a1, a2⟩ := a
  obtain ⟨b1, b2⟩ := b
  simp only [edgeV, Value.agg.injEq, Array.mk.injEq, List.cons.injEq, Value.int.injEq, true_and, and_true] at h
  simp only [Prod.mk.injEq]
  omega
theorem eKey_at {x : Eg} {kl : Lit} (h : keyOf Try.prog 48 (edgeV x) = some kl) : EgFit x ∧ kl = eKey x := by
  obtain ⟨e, he, hv, hk⟩ := eKey_inv h
  obtain rfl := edgeV_inj hv
  exact ⟨he, hk⟩
theorem key_other {a b : Eg} (ha : EgFit a) (hb : EgFit b) : (eKey a).sameKey (eKey b) = decide (a = b) := by
  by_cases h : a = b
  · subst h
    simp [eKey, Lit.sameKey]
  · rw [decide_eq_false h]
    cases hs : (eKey a).sameKey (eKey b) with
    | false => rfl
    | true =>
      have h1 : eKey a = eKey b := by
        unfold eKey Lit.sameKey at hs
        unfold eKey
        simpa using hs
      exact absurd (eKey_inj ha hb h1) h

end Go.Proofs.Ythdlhdeaeaahoaa

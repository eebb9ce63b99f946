/-
  What a slice of bytes that came in holds, as a list of numbers below 256.
-/
import Derived.Test.YtjojjfnbnhfdgaaKnown
import Derived.ProofKit
import Derived.OpenShut
namespace Go.Proofs.Ytjojjfnbnhfdgaa
open Go.ChangeShapes Go.WideShapes Go.ChangeAt Go.RowKit

/-- What is known of a slice of integers that came in. -/
def IsRow (k : IntKind) (w : World) (a : Option Addr) (len cap : Nat) (zs : List Int) : Prop :=
  (a = none ∧ len = 0 ∧ cap = 0 ∧ zs = []) ∨
  ∃ x, a = some x ∧ len ≤ cap ∧ cap ≤ maxLen ∧ zs.length = cap ∧ (∀ i, i < zs.length → w.cell? (x.add i) = some (.int k (zs.getD i 0))) ∧ ∀ n ∈ zs, (Lit.int k n).wf = true

theorem spot_none {w : World} {x : Addr} {u : Value} (h : w.cell? (x.add 0) = some u) : ∃ b off, x = ⟨b, off, none⟩ := by
  obtain ⟨b, off, spot⟩ := x
  cases spot with
  | none => exact ⟨b, off, rfl⟩
  | some s =>
    exfalso
    unfold World.cell? at h
    split at h
    · simp [Addr.add] at h
    · cases h

theorem reads_isRow {w : World} {a : Option Addr} {len cap : Nat} {zs : List Int} (h : IsRow .u8 w a len cap zs) :
    ∃ bs : List Nat, bs.length = len ∧ (∀ j, bs.getD j 0 < 256) ∧ Reads w (.slice a len cap) bs ∧ (∀ k, (Value.slice a len cap).ownBlock = some k → 0 < len → k < w.heap.size) := by
  rcases h with ⟨rfl, rfl, rfl, rfl⟩ | ⟨x, rfl, hl, _, hz, hc, hw⟩
  · exact ⟨[], rfl, fun j => by simp, ⟨none, 0, rfl, fun h => by simp at h⟩, fun k h => by simp [Value.ownBlock] at h⟩
  · refine ⟨(zs.take len).map Int.toNat, by simp; omega, fun j => ?_, ⟨some x, cap, by simp; omega, fun hp => ?_⟩, fun k hk hp => ?_⟩
    · simp only [List.getD_eq_getElem?_getD, List.getElem?_map]
      cases hj : (zs.take len)[j]? with
      | none => simp
      | some z =>
        have hm : z ∈ zs := List.mem_of_mem_take (List.mem_of_getElem? hj)
        have := bounds_u8 (hw z hm)
        simp; omega
    · have hp' : 0 < len := by simp at hp; omega
      obtain ⟨b, off, rfl⟩ := spot_none (hc 0 (by omega))
      refine ⟨b, off, rfl, fun j u hj => ?_⟩
      have hjl : j < len := by
        have := (List.getElem?_eq_some_iff.1 hj).1
        simp [row] at this; omega
      have hcj := hc j (by omega)
      rw [add_none] at hcj
      rw [hcj]
      have hzj : j < zs.length := by omega
      have hb := bounds_u8 (hw (zs.getD j 0) (by rw [List.getD_eq_getElem?_getD, List.getElem?_eq_getElem hzj]; exact List.getElem_mem hzj))
      simp only [row, List.getElem?_map, List.getElem?_take, hjl, if_true, List.getElem?_eq_getElem hzj, Option.map_some, Option.some.injEq] at hj
      rw [← hj]
      simp only [List.getD_eq_getElem?_getD, List.getElem?_eq_getElem hzj, Option.getD_some] at hb ⊢
      congr 2
      omega
    · simp [Value.ownBlock] at hk
      subst hk
      have := World.block_lt_of_cell? _ _ (hc 0 (by omega))
      obtain ⟨b, off, rfl⟩ := spot_none (hc 0 (by omega))
      exact this

end Go.Proofs.Ytjojjfnbnhfdgaa

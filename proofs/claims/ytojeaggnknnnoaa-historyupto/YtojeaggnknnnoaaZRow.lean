/-
  Slices of int64 that can be read.
-/
import Derived.Test.YtojeaggnknnnoaaRows
import Derived.Test.YtojeaggnknnnoaaMem
namespace Go.Proofs.Ytojeaggnknnnoaa
open Go.RowKit

def zrow (zs : List Int) : List Value := zs.map (Value.int .i64)
def ReadsZ (w : World) (v : Value) (zs : List Int) : Prop := Holds w v (zrow zs)
theorem zrow_length (zs : List Int) : (zrow zs).length = zs.length := by simp [zrow]
theorem zrow_get (zs : List Int) (i : Nat) (z : Int) (h : zs[i]? = some z) : (zrow zs)[i]? = some (.int .i64 z) := by simp [zrow, h]
theorem ReadsZ.keep {w w' : World} {v : Value} {zs : List Int} (h : ReadsZ w v zs) (f : Fr w w' (fun _ => False)) : ReadsZ w' v zs := Holds.keep h f
theorem ReadsZ.get {w : World} {v : Value} {zs : List Int} (h : ReadsZ w v zs) (i : Nat) (z : Int) (hz : zs[i]? = some z) : ∃ b off c, v = .slice (some ⟨b, off, none⟩) zs.length c ∧ w.cell? ⟨b, off + i, none⟩ = some (.int .i64 z) := by
  have hi := (List.getElem?_eq_some_iff.1 hz).1
  obtain ⟨a, c, rfl, hl, hc⟩ := h
  rw [zrow_length] at hc hl ⊢
  obtain ⟨b, off, rfl, hcell⟩ := hc (by omega)
  exact ⟨b, off, c, rfl, hcell i _ (zrow_get zs i z hz)⟩
theorem readsZ_isRow {w : World} {a : Option Addr} {len cap : Nat} {zs : List Int} (h : IsRow .i64 w a len cap zs) : ∃ rs : List Int, rs.length = len ∧ (∀ z ∈ rs, -9223372036854775808 ≤ z ∧ z ≤ 9223372036854775807) ∧ ReadsZ w (.slice a len cap) rs := by
  rcases h with ⟨rfl, rfl, rfl, rfl⟩ | ⟨x, rfl, hl, _, hz, hc, hw⟩
  · exact ⟨[], rfl, fun z hz => (by cases hz), ⟨Option.none, 0, rfl, Nat.le_refl _, fun h => by simp [zrow] at h⟩⟩
  · refine ⟨zs.take len, by simp; omega, fun z hz => ?_, ⟨some x, cap, by rw [zrow_length, List.length_take, Nat.min_eq_left (by omega)], by rw [zrow_length, List.length_take]; omega, fun hp => ?_⟩⟩
    · have := bounds_i64 (hw z (List.mem_of_mem_take hz))
      omega
    · rw [zrow_length, List.length_take] at hp
      obtain ⟨b, off, rfl⟩ := spot_none (hc 0 (by omega))
      refine ⟨b, off, rfl, fun j u hj => ?_⟩
      have hjl : j < len := by
        have := (List.getElem?_eq_some_iff.1 hj).1
        rw [zrow_length, List.length_take] at this
        omega
      have hcj := hc j (by omega)
      rw [add_none] at hcj
      rw [hcj]
      have hzj : j < zs.length := by omega
      simp only [zrow, List.getElem?_map, List.getElem?_take, hjl, if_true, List.getElem?_eq_getElem hzj, Option.map_some, Option.some.injEq] at hj
      rw [← hj, List.getD_eq_getElem?_getD, List.getElem?_eq_getElem hzj]
      rfl

end Go.Proofs.Ytojeaggnknnnoaa

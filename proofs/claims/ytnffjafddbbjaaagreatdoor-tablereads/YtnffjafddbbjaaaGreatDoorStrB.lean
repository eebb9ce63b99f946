/-
  A string as bytes of its own; a list of strings that was laid.
-/
import Derived.Test.YtnffjafddbbjaaaGreatDoorBytes
import Derived.Test.YtnffjafddbbjaaaGreatDoorJ1
import Derived.Lib.ConvBytes
import Derived.Laws.AppendOwn
namespace Go.Proofs.YtnffjafddbbjaaaGreatDoor
open Go.RowKit

def bytesL (s : ByteArray) : List Nat := s.data.toList.map UInt8.toNat
theorem bytesL_len (s : ByteArray) : (bytesL s).length = s.size := by unfold bytesL; rw [List.length_map, Array.length_toList]; rfl
theorem bytesL_lt (s : ByteArray) : ∀ x ∈ bytesL s, x < 256 := fun x hx => by
  unfold bytesL at hx
  obtain ⟨b, -, rfl⟩ := List.mem_map.1 hx
  exact b.toNat_lt
theorem str_bytes (s : ByteArray) (w : World) : ∃ v w', (convert 9 26 (.string s)).run Tryz.prog w = .ok v w' ∧ Reads .u8 w' v (bytesL s) ∧ Fr w w' (fun _ => False) := by
  have hsz : (bytesL s).length = s.size := bytesL_len s
  refine ⟨_, _, Lib.run_convert_string_bytes w 9 26 5 s Tryz.underlying9 Tryz.underlying26 Tryz.underlying5, ?_, ?_⟩
  · refine ⟨some ⟨w.heap.size, 0, none⟩, grownCap w s.size 0 5, by rw [length_row, hsz], by rw [length_row, hsz]; exact grownCap_ge _ _ _ _, fun _ => ⟨w.heap.size, 0, rfl, fun j u hj => ?_⟩⟩
    have hjl : j < (row .u8 (bytesL s)).length := (List.getElem?_eq_some_iff.1 hj).1
    rw [length_row, hsz] at hjl
    rw [Nat.zero_add, Lib.bytesWorld_cell w 5 s j hjl]
    have h1 := row_get .u8 (bytesL s) j (by rw [hsz]; exact hjl)
    rw [h1] at hj
    rw [← hj]
    congr 2
    unfold bytesL
    have hjd : j < s.data.toList.length := by rw [Array.length_toList]; exact hjl
    rw [List.getD_eq_getElem?_getD, List.getD_eq_getElem?_getD, List.getElem?_map, List.getElem?_eq_getElem hjd]
    rfl
  · refine ⟨rfl, rfl, rfl, ?_, fun k hk _ => Lib.bytesWorld_at_old w 5 s k hk⟩
    rw [Lib.bytesWorld_size]
    omega
theorem strs_lit (w : World) (l : List ByteArray) (B : Nat) (hB : ∀ s ∈ l, s.size ≤ B) (C : Array Value) (hC : C = (l.map Value.string).toArray) : ∀ i, i < l.length → ∃ s : ByteArray, s ∈ l ∧ s.size ≤ B ∧ ∀ z, Fr (w.alloc (.cells C 9)) z (fun _ => False) → z.cell? ⟨w.heap.size, i, none⟩ = some (.string s) := fun i hi => by
  refine ⟨l[i], List.getElem_mem hi, hB _ (List.getElem_mem hi), fun z hz => ?_⟩
  have h1 := hz.kept (heap_alloc_new w _) (fun h => h)
  unfold World.cell?
  rw [h1, hC]
  simp [hi]

end Go.Proofs.YtnffjafddbbjaaaGreatDoor

/-
  What a strings.Builder holds, as a string, by the kit's shelf.
-/
import Derived.Shelf.Strings.Builder1
import Derived.Test.YtnffjafddbbjaaaGreatDoorQBld
namespace Go.Proofs.YtnffjafddbbjaaaGreatDoor
open Go.Shelf Go.RowKit

def lays169_ren : Go.Shelf.Ren := ⟨fun | 169 => 31 | n => n, fun | 70 => 72 | 9 => 9 | 0 => 0 | 72 => 74 | 37 => 26 | 127 => 122 | 3 => 3 | 5 => 5 | n => n, fun | n => n⟩
theorem lays169 : Go.Proofs.Lays.n169 Tryz.prog lays169_ren := {
  mixed := by kernel_rfl,
  f169 := Tryz.func31.trans (congrArg some (by kernel_rfl)),
  t0 := Tryz.underlying0,
  a0 := Tryz.isAgg0,
  z0 := Tryz.sizeOf0,
  v0 := Tryz.zeroValue0,
  t3 := Tryz.underlying3,
  a3 := Tryz.isAgg3,
  z3 := Tryz.sizeOf3,
  v3 := Tryz.zeroValue3,
  t9 := Tryz.underlying9,
  a9 := Tryz.isAgg9,
  z9 := Tryz.sizeOf9,
  v9 := Tryz.zeroValue9,
  t37 := Tryz.underlying26,
  a37 := Tryz.isAgg26,
  z37 := Tryz.sizeOf26,
  v37 := Tryz.zeroValue26,
  t70 := Tryz.underlying72,
  a70 := Tryz.isAgg72,
  z70 := Tryz.sizeOf72,
  v70 := Tryz.zeroValue72,
  t72 := Tryz.underlying74,
  a72 := Tryz.isAgg74,
  z72 := Tryz.sizeOf74,
  v72 := Tryz.zeroValue74,
  t127 := Tryz.underlying122,
  a127 := Tryz.isAgg122,
  z127 := Tryz.sizeOf122,
  v127 := Tryz.zeroValue122 }

theorem bextra169 : Go.Proofs.Builder.Extra Tryz.prog lays169_ren where
  sizeBuilder := by kernel_rfl
  liesBuilder := by kernel_rfl
  t5 := Tryz.underlying5
  a5 := Tryz.isAgg5
  z5 := Tryz.sizeOf5
  v5 := Tryz.zeroValue5
  infoByte := by kernel_rfl
  cellsByte := by kernel_rfl
  sizeByte := by kernel_rfl
  neB5 := by decide
theorem builderString_any (B b : Nat) (s : ByteArray) (w : World) (h : Bld B w b s) (hB : B ≤ w.heap.size) : Calls Tryz.prog 31 #[.pointer (some ⟨b, 0, none⟩)] w fun e w' => e = .returned (.string s) ∧ Fr w w' (fun k => B ≤ k) := by
  refine Calls.mono (Any.Builder_String_any lays169 bextra169 B b s.data.toList w h hB) ?_
  rintro e w' ⟨he, hf⟩
  exact ⟨he, fr_belowB hf⟩

end Go.Proofs.YtnffjafddbbjaaaGreatDoor

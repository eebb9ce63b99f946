/-
  What a strings.Builder holds, as a string, by the kit's shelf.
-/
import Derived.Shelf.Strings.Builder1
import Derived.Test.YtpeibameegjefaaDoorQBld
namespace Go.Proofs.YtpeibameegjefaaDoor
open Go.Shelf Go.RowKit

def lays169_ren : Go.Shelf.Ren := ⟨fun | 169 => 33 | n => n, fun | 70 => 73 | 9 => 9 | 0 => 0 | 72 => 75 | 37 => 26 | 127 => 113 | 3 => 3 | 5 => 5 | n => n, fun | n => n⟩
theorem lays169 : Go.Proofs.Lays.n169 Tryd.prog lays169_ren := {
  mixed := by kernel_rfl,
  f169 := Tryd.func33.trans (congrArg some (by kernel_rfl)),
  t0 := Tryd.underlying0,
  a0 := Tryd.isAgg0,
  z0 := Tryd.sizeOf0,
  v0 := Tryd.zeroValue0,
  t3 := Tryd.underlying3,
  a3 := Tryd.isAgg3,
  z3 := Tryd.sizeOf3,
  v3 := Tryd.zeroValue3,
  t9 := Tryd.underlying9,
  a9 := Tryd.isAgg9,
  z9 := Tryd.sizeOf9,
  v9 := Tryd.zeroValue9,
  t37 := Tryd.underlying26,
  a37 := Tryd.isAgg26,
  z37 := Tryd.sizeOf26,
  v37 := Tryd.zeroValue26,
  t70 := Tryd.underlying73,
  a70 := Tryd.isAgg73,
  z70 := Tryd.sizeOf73,
  v70 := Tryd.zeroValue73,
  t72 := Tryd.underlying75,
  a72 := Tryd.isAgg75,
  z72 := Tryd.sizeOf75,
  v72 := Tryd.zeroValue75,
  t127 := Tryd.underlying113,
  a127 := Tryd.isAgg113,
  z127 := Tryd.sizeOf113,
  v127 := Tryd.zeroValue113 }

theorem bextra169 : Go.Proofs.Builder.Extra Tryd.prog lays169_ren where
  sizeBuilder := by kernel_rfl
  liesBuilder := by kernel_rfl
  t5 := Tryd.underlying5
  a5 := Tryd.isAgg5
  z5 := Tryd.sizeOf5
  v5 := Tryd.zeroValue5
  infoByte := by kernel_rfl
  cellsByte := by kernel_rfl
  sizeByte := by kernel_rfl
  neB5 := by decide
theorem builderString_any (B b : Nat) (s : ByteArray) (w : World) (h : Bld B w b s) (hB : B ≤ w.heap.size) : Calls Tryd.prog 33 #[.pointer (some ⟨b, 0, none⟩)] w fun e w' => e = .returned (.string s) ∧ Fr w w' (fun k => B ≤ k) := by
  refine Calls.mono (Any.Builder_String_any lays169 bextra169 B b s.data.toList w h hB) ?_
  rintro e w' ⟨he, hf⟩
  exact ⟨he, fr_belowB hf⟩

end Go.Proofs.YtpeibameegjefaaDoor

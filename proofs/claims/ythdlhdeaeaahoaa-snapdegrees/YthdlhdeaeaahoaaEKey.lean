/-
  Edges as a map's keys.
-/
import Derived.Test.YthdlhdeaeaahoaaJ1
import Derived.Maps.OwnSet
import Derived.DeepKeys4
namespace Go.Proofs.Ythdlhdeaeaahoaa
open Go.RowKit Go.Maps

set_option maxRecDepth 8000 in
theorem mLaid : laidOutB Try.prog = true := by kernel_rfl
set_option maxRecDepth 8000 in
theorem mRow : (48 : TypeId) < Try.prog.types.size := of_decide_eq_true (by kernel_rfl)
set_option maxRecDepth 8000 in
theorem mWide : (match Try.prog.underlying 48 with | some (.array _ _) | some (.struct _) => true | _ => false) = true := by rw [Try.underlying48]
set_option maxRecDepth 8000 in
theorem mLaw : Keyed Try.prog 48 := Keyed.of_law (deep_law_laid mLaid (m := 2) (by omega) mRow (by kernel_rfl) mWide)
theorem mCellsE : Try.prog.cellsOf 48 = 2 := by kernel_rfl
theorem mCellsU : Try.prog.cellsOf 46 = 1 := by kernel_rfl
set_option maxRecDepth 8000 in
theorem mKeyType : Try.prog.keyType 48 = true := by kernel_rfl

/-- What an edge reads as, as a key. -/
def eKey (e : Eg) : Lit := .string (keyBytes [.int .u32 (e.1 : Int), .int .u32 (e.2 : Int)])
set_option maxRecDepth 8000 in
theorem eKey_is (e : Eg) (h : EgFit e) : keyOf Try.prog 48 (edgeV e) = some (eKey e) := by
  obtain ⟨h1, h2⟩ := h
  have f : (edgeV e).formed Try.prog 48 = true := by simp [edgeV, Value.formed, Try.underlying48, mCellsE]
  have w1 : (Lit.int .u32 (e.1 : Int)).wf = true := by
    have hmin : IntKind.u32.min = 0 := by decide
    have hmax : IntKind.u32.max = 4294967295 := by decide
    simp [Lit.wf, hmin, hmax]
    omega
  have w2 : (Lit.int .u32 (e.2 : Int)).wf = true := by
    have hmin : IntKind.u32.min = 0 := by decide
    have hmax : IntKind.u32.max = 4294967295 := by decide
    simp [Lit.wf, hmin, hmax]
    omega
  have e1 : Try.prog.keyLits (Try.prog.types.size + 1) 48 (edgeV e).cells.toList = some [.int .u32 (e.1 : Int), .int .u32 (e.2 : Int)] := by
    obtain ⟨s, hs⟩ := Nat.exists_eq_succ_of_ne_zero (Nat.ne_of_gt (Nat.lt_of_le_of_lt (Nat.zero_le _) mRow))
    rw [hs]
    simp [Program.keyLits, Try.underlying48, Try.underlying46, mCellsE, mCellsU, edgeV, Value.cells, w1, w2]
  unfold keyOf
  rw [Try.underlying48]
  dsimp only
  rw [if_pos (by rw [mKeyType, f]; rfl), e1]
  rfl
theorem eKey_inj {a b : Eg} (ha : EgFit a) (hb : EgFit b) (h : eKey a = eKey b) : a = b := by
  have e1 := eKey_is a ha
  have e2 := eKey_is b hb
  rw [h] at e1
  have := mLaw.inj e1 e2
  obtain ⟨a1, a2⟩ := a
  obtain ⟨b1, b2⟩ := b
  simp only [edgeV, Value.agg.injEq, Array.mk.injEq, List.cons.injEq, Value.int.injEq, true_and, and_true] at this
  simp only [Prod.mk.injEq]
  omega
theorem fr_turned {w w' : World} {b : Nat} (h : w.mapTurned w' b) : Fr w w' (fun k => k = b) := (Fr.refl w (fun k => k = b)).grown h.grown (fun k hk _ => by simpa using hk.symm)

end Go.Proofs.Ythdlhdeaeaahoaa

/-
  Slices of uint64 that the call owns: append.
-/
import Derived.Test.YtclfbdfgmeliaaaRows
import Derived.Test.YtclfbdfgmeliaaaMem
import Derived.WalkLawsBesides
namespace Go.Proofs.Ytclfbdfgmeliaaa
open Go.RowKit

theorem Try.info42 : (Try.prog.info? 42).map (fun i => (i.zero, i.size, i.bytes)) = some (some (.int .u64 0), 1, 8) := by kernel_rfl


/-- A slice of numbers that the call owns. -/
def OwnU (w : World) (v : Value) (us : List Nat) : Prop := w.ownsRow 0 42 1 v us.length (row .u64 us)
theorem OwnU.nil (w : World) : OwnU w (.slice none 0 0) [] := World.ownsRow_nil _ _ _ _
theorem OwnU.reads {w : World} {v : Value} {us : List Nat} (h : OwnU w v us) : Reads .u64 w v us := holds_own h
/-- append of one number that is written out. -/
theorem app_num (w : World) (v : Value) (us : List Nat) (x : Nat) (z : Int) (hz : z = (x : Int)) (h : OwnU w v us) (hb : us.length ≤ 10000000000) :
    ∃ v' w', (Builtin.append_ #[66, 66] 66 #[v, .slice (some ⟨w.heap.size, 0, none⟩) 1 1]).run Try.prog (w.alloc (.cells #[.int .u64 z] 42)) = .ok v' w' ∧ OwnU w' v' (us ++ [x]) ∧ Fr w w' (fun k => v.ownBlock = some k) ∧ Moved w v v' := by
  subst hz
  obtain ⟨i0, hi, hz0, hz1, hz2⟩ := info_parts Try.info42
  obtain ⟨v', w', h1, h2, h3, h4, -, -⟩ := run_append_holds (P := Try.prog) (w.alloc (.cells #[.int .u64 (x : Int)] 42)) 66 66 42 i0 (.int .u64 0) 8 Try.underlying66 hi hz0 hz1 hz2 rfl (by decide) v _ _ (World.ownsRow.alloc h _) _ _ (holds_lit w 42 [.int .u64 (x : Int)] (by simp)) (row1_one _ _) (by simp; omega)
  refine ⟨v', w', h1, ?_, ((Fr.refl w _).alloc _).trans h3 (fun _ _ h => h), h4.mono' (by simp)⟩
  unfold OwnU
  rw [List.length_append, row_append]
  exact h2

end Go.Proofs.Ytclfbdfgmeliaaa

/-
  Slices of bytes that the call owns: append.
-/
import Derived.Test.YtnffjafddbbjaaaGreatDoorRows
import Derived.Test.YtnffjafddbbjaaaGreatDoorJ1
import Derived.WalkLawsBesides
namespace Go.Proofs.YtnffjafddbbjaaaGreatDoor
open Go.RowKit

theorem Tryz.info5 : (Tryz.prog.info? 5).map (fun i => (i.zero, i.size, i.bytes)) = some (some (.int .u8 0), 1, 1) := by kernel_rfl

/-- A slice of bytes that the call owns. -/
def Own (w : World) (v : Value) (bs : List Nat) : Prop := w.ownsRow 0 5 1 v bs.length (row .u8 bs)
theorem Own.nil (w : World) : Own w (.slice none 0 0) [] := World.ownsRow_nil _ _ _ _
theorem Own.reads {w : World} {v : Value} {bs : List Nat} (h : Own w v bs) : Reads .u8 w v bs := holds_own h
theorem Own.alloc {w : World} {v : Value} {bs : List Nat} (h : Own w v bs) (o : Obj) : Own (w.alloc o) v bs := World.ownsRow.alloc h o
theorem Own.lt {w : World} {v : Value} {bs : List Nat} (h : Own w v bs) : ∀ k, v.ownBlock = some k → k < w.heap.size := fun k hk => (World.ownsRow.lt h k hk).2
theorem Own.frame {w w' : World} {v : Value} {bs : List Nat} {S : Nat → Prop} (h : Own w v bs) (f : Fr w w' S) (hs : ∀ k, v.ownBlock = some k → ¬ S k) : Own w' v bs := f.owns h hs

/-- append onto bytes that the call owns, of bytes that can be read. -/
theorem app_bytes (w : World) (v u : Value) (bs cs : List Nat) (h : Own w v bs) (hu : Reads .u8 w u cs) (hb : bs.length + cs.length ≤ 100000000000) :
    ∃ v' w', (Builtin.append_ #[26, 26] 26 #[v, u]).run Tryz.prog w = .ok v' w' ∧ Own w' v' (bs ++ cs) ∧ Fr w w' (fun k => v.ownBlock = some k) ∧ Moved w v v' ∧ Reads .u8 w' v bs := by
  obtain ⟨i0, hi, hz0, hz1, hz2⟩ := info_parts Tryz.info5
  obtain ⟨v', w', h1, h2, h3, h4, h5, -⟩ := run_append_holds (P := Tryz.prog) w 26 26 5 i0 (.int .u8 0) 1 Tryz.underlying26 hi hz0 hz1 hz2 rfl (by decide) v _ _ h u _ hu (row_one _ _) (by rw [length_row]; exact hb)
  refine ⟨v', w', h1, ?_, h3, h4, h5⟩
  unfold Own
  rw [length_row] at h2
  rw [List.length_append, row_append]
  exact h2
/-- .. of one byte that is written out. -/
theorem app_byte (w : World) (v : Value) (bs : List Nat) (x : Nat) (z : Int) (hz : z = (x : Int)) (h : Own w v bs) (hb : bs.length ≤ 10000000000) :
    ∃ v' w', (Builtin.append_ #[26, 26] 26 #[v, .slice (some ⟨w.heap.size, 0, none⟩) 1 1]).run Tryz.prog (w.alloc (.cells #[.int .u8 z] 5)) = .ok v' w' ∧ Own w' v' (bs ++ [x]) ∧ Fr w w' (fun k => v.ownBlock = some k) ∧ Moved w v v' := by
  subst hz
  obtain ⟨v', w', h1, h2, h3, h4, _⟩ := app_bytes _ v _ bs [x] (h.alloc _) (holds_lit w 5 [.int .u8 (x : Int)] (by simp)) (by simp; omega)
  exact ⟨v', w', h1, h2, ((Fr.refl w _).alloc _).trans h3 (fun _ _ h => h), h4.mono' (by simp)⟩

end Go.Proofs.YtnffjafddbbjaaaGreatDoor

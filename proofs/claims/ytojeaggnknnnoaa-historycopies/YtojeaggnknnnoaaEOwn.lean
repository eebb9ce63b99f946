/-
  A slice of edges that the call owns: append.
-/
import Derived.Test.YtojeaggnknnnoaaEMath
namespace Go.Proofs.Ytojeaggnknnnoaa
open Go.RowKit

theorem infoEdge : (Try.prog.info? 40).map (fun i => (i.zero, i.size, i.bytes)) = some (some (.agg #[.int .u32 0, .int .u32 0]), 2, 8) := by kernel_rfl
def OwnE (w : World) (v : Value) (es : List (Nat × Nat)) : Prop := w.ownsRow 0 40 2 v es.length (erow es)
theorem OwnE.nil (w : World) : OwnE w (.slice none 0 0) [] := World.ownsRow_nil _ _ _ _
theorem OwnE.rd {w : World} {v : Value} {es : List (Nat × Nat)} (h : OwnE w v es) : RdE w v es := holdsN_own h
theorem OwnE.lt {w : World} {v : Value} {es : List (Nat × Nat)} (h : OwnE w v es) : ∀ k, v.ownBlock = some k → k < w.heap.size := fun k hk => (World.ownsRow.lt h k hk).2
theorem OwnE.alloc {w : World} {v : Value} {es : List (Nat × Nat)} (h : OwnE w v es) (o : Obj) : OwnE (w.alloc o) v es := World.ownsRow.alloc h o
theorem OwnE.frame {w w' : World} {v : Value} {es : List (Nat × Nat)} {S : Nat → Prop} (h : OwnE w v es) (f : Fr w w' S) (hs : ∀ k, v.ownBlock = some k → ¬ S k) : OwnE w' v es := f.owns h hs
theorem RdE.frame {w w' : World} {v : Value} {es : List (Nat × Nat)} {S : Nat → Prop} (h : RdE w v es) (f : Fr w w' S) (hs : 0 < es.length → ∀ k, v.ownBlock = some k → ¬ S k) : RdE w' v es := HoldsN.frame h f hs

/-- append onto edges that the call owns, of edges that can be read. -/
theorem app_edges (w : World) (v u : Value) (es fs : List (Nat × Nat)) (h : OwnE w v es) (hu : RdE w u fs) (hb : es.length + fs.length ≤ 100000000000) :
    ∃ v' w', (Builtin.append_ #[55, 55] 55 #[v, u]).run Try.prog w = .ok v' w' ∧ OwnE w' v' (es ++ fs) ∧ Fr w w' (fun k => v.ownBlock = some k) ∧ Moved w v v' := by
  obtain ⟨i0, hi, hz0, hz1, hz2⟩ := info_parts infoEdge
  obtain ⟨v', w', h1, h2, h3, h4⟩ := run_append_wide (P := Try.prog) w 55 55 40 i0 _ 2 8 Try.underlying55 hi hz0 hz1 hz2 rfl (by decide) (by decide) v _ _ h u _ _ hu (erow_one fs) hb
  refine ⟨v', w', h1, ?_, h3, h4⟩
  unfold OwnE
  rw [List.length_append, erow_append]
  exact h2
/-- .. of one edge that is written out. -/
theorem app_edge (w : World) (v : Value) (es : List (Nat × Nat)) (a b : Nat) (h : OwnE w v es) (hb : es.length ≤ 10000000) :
    ∃ v' w', (Builtin.append_ #[55, 55] 55 #[v, .slice (some ⟨w.heap.size, 0, none⟩) 1 1]).run Try.prog (w.alloc (.cells #[.int .u32 (a : Int), .int .u32 (b : Int)] 40)) = .ok v' w' ∧ OwnE w' v' (es ++ [(a, b)]) ∧ Fr (w.alloc (.cells #[.int .u32 (a : Int), .int .u32 (b : Int)] 40)) w' (fun k => v.ownBlock = some k) ∧ Moved w v v' := by
  obtain ⟨v', w', h1, h2, h3, h4⟩ := app_edges _ v _ es [(a, b)] (h.alloc (.cells #[.int .u32 (a : Int), .int .u32 (b : Int)] 40)) (holdsN_lit 2 w 40 1 (erow [(a, b)]) (by simp [erow, encE]) (by omega)) (by simp; omega)
  exact ⟨v', w', h1, h2, h3, h4.mono' (by simp)⟩

end Go.Proofs.Ytojeaggnknnnoaa

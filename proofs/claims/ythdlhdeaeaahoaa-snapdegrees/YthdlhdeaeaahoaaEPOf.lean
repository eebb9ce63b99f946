/-
  The contracts of edge's Of.
-/
import Derived.Test.YthdlhdeaeaahoaaJ2
import Derived.Laws.ResultCell
import Derived.Laws.Rows
namespace Go.Proofs.Ythdlhdeaeaahoaa
open Go.RowKit

theorem results_pair {fn : Func} {p u : Tmp} {ty : TypeId} (h : fn.results = #[.cell p ty, .tmp u]) {tmps : Array Value} {P : Program} {w : World} {b : Nat} {v : Value} (hp : tmps.getD p undef = .pointer (some ⟨b, 0, none⟩)) (hl : (loadVar ty ⟨b, 0, none⟩).run P w = .ok v w) :
    (results fn tmps).run P w = .ok (.tuple #[v, tmps.getD u undef]) w := by
  rw [results_cell_tmp h, hp]
  show ((loadVar ty ⟨b, 0, none⟩).run P w).andThen _ = _
  rw [hl]
  rfl
theorem edgeSize : (Try.prog.info? 48).map (·.size) = some 2 := by kernel_rfl
theorem load_edge (w : World) (t : TypeId) (x y : Value) : (loadVar 48 ⟨w.heap.size, 0, none⟩).run Try.prog (w.alloc (.cells #[x, y] t)) = .ok (.agg #[x, y]) (w.alloc (.cells #[x, y] t)) :=
  run_loadVar_row _ _ t _ _ _ _ (heap_alloc_new _ _) Try.underlying48 rfl edgeSize

set_option maxRecDepth 4000 in
set_option maxHeartbeats 400000 in
theorem of_any (a b : Nat) (w : World) : Calls Try.prog 58 #[.int .u32 (a : Int), .int .u32 (b : Int)] w fun e w' =>
    e = .returned (.tuple #[if a = b then edgeV (0, 0) else edgeV (min a b, max a b), .bool (decide (a ≠ b))]) ∧ Fr w w' (fun _ => False) := by
  unfold edgeV
  by_cases heq : a = b
  · subst heq
    have d1 : ((a : Int) == (a : Int)) = true := by simp
    rw [if_pos rfl, decide_eq_false (by simp)]
    go_enter Try.func58, Try.ntmps58
    go_wp2
    refine bodyPost_ret (results_pair rfl rfl (load_edge w _ _ _)) rfl ?_
    exact ⟨rfl, (Fr.refl w _).alloc _⟩
  · have d1 : ((a : Int) == (b : Int)) = false := by rw [beq_eq_false_iff_ne]; omega
    have d1' : (a == b) = false := by rw [beq_eq_false_iff_ne]; exact heq
    rw [if_neg heq, decide_eq_true (by simpa using heq)]
    rcases Nat.lt_or_gt_of_ne heq with hlt | hlt
    · have e1 : decide ((a : Int) < (b : Int)) = true := decide_eq_true (by omega)
      have e2 : decide ((b : Int) < (a : Int)) = false := decide_eq_false (by omega)
      have e3 : (a : Int) < (b : Int) := by omega
      rw [show min a b = a by omega, show max a b = b by omega]
      clear heq
      go_enter Try.func58, Try.ntmps58
      go_wp2
      refine bodyPost_ret (results_pair rfl rfl (load_edge w _ _ _)) rfl ?_
      exact ⟨rfl, (Fr.refl w _).alloc _⟩
    · have e1 : decide ((a : Int) < (b : Int)) = false := decide_eq_false (by omega)
      have e2 : decide ((b : Int) < (a : Int)) = true := decide_eq_true (by omega)
      have e3 : ¬ (a : Int) < (b : Int) := by omega
      have e4 : (b : Int) < (a : Int) := by omega
      rw [show min a b = b by omega, show max a b = a by omega]
      clear heq
      go_enter Try.func58, Try.ntmps58
      go_wp2
      refine bodyPost_ret (results_pair rfl rfl (load_edge w _ _ _)) rfl ?_
      exact ⟨rfl, (Fr.refl w _).alloc _⟩

end Go.Proofs.Ythdlhdeaeaahoaa

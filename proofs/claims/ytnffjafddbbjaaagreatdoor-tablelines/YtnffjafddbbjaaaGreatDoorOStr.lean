/-
  Slices of strings that the call owns: append, a cell, a store.
-/
import Derived.Test.YtnffjafddbbjaaaGreatDoorRows
import Derived.Test.YtnffjafddbbjaaaGreatDoorJ1
import Derived.WalkLawsBesides
namespace Go.Proofs.YtnffjafddbbjaaaGreatDoor
open Go.RowKit

theorem infoStr : (Tryz.prog.info? 9).map (fun i => (i.zero, i.size, i.bytes)) = some (some (.string ⟨#[]⟩), 1, 16) := by kernel_rfl
/-- A slice of strings that the call owns. -/
def OwnT (w : World) (v : Value) (ss : List ByteArray) : Prop := w.ownsRow 0 9 1 v ss.length (ss.map Value.string)
theorem OwnT.nil (w : World) : OwnT w (.slice none 0 0) [] := World.ownsRow_nil _ _ _ _
theorem OwnT.frame {w w' : World} {v : Value} {ss : List ByteArray} {S : Nat → Prop} (h : OwnT w v ss) (f : Fr w w' S) (hs : ∀ k, v.ownBlock = some k → ¬ S k) : OwnT w' v ss := f.owns h hs
theorem OwnT.lt {w : World} {v : Value} {ss : List ByteArray} (h : OwnT w v ss) : ∀ k, v.ownBlock = some k → k < w.heap.size := fun k hk => (World.ownsRow.lt h k hk).2
theorem OwnT.form {w : World} {v : Value} {ss : List ByteArray} (h : OwnT w v ss) : ∃ a c, v = .slice a ss.length c := by
  rcases h.2 with ⟨hv, h0⟩ | ⟨g, cap, cur, hv, -⟩
  · exact ⟨none, 0, by rw [hv, h0]⟩
  · exact ⟨_, _, hv⟩
theorem OwnT.form1 {w : World} {v : Value} {ss : List ByteArray} (h : OwnT w v ss) (hp : 0 < ss.length) : ∃ g c, v = .slice (some ⟨g, 0, none⟩) ss.length c := by
  rcases h.2 with ⟨hv, h0⟩ | ⟨g, cap, cur, hv, -⟩
  · omega
  · exact ⟨_, _, hv⟩
theorem app_str (w : World) (v : Value) (ss : List ByteArray) (x : ByteArray) (h : OwnT w v ss) (hb : ss.length ≤ 10000000000) :
    ∃ v' w', (Builtin.append_ #[46, 46] 46 #[v, .slice (some ⟨w.heap.size, 0, none⟩) 1 1]).run Tryz.prog (w.alloc (.cells #[.string x] 9)) = .ok v' w' ∧ OwnT w' v' (ss ++ [x]) ∧ Fr w w' (fun k => v.ownBlock = some k) ∧ Moved w v v' := by
  obtain ⟨i0, hi, hz0, hz1, hz2⟩ := info_parts infoStr
  obtain ⟨v', w', h1, h2, h3, h4, -, -⟩ := run_append_holds (P := Tryz.prog) (w.alloc (.cells #[.string x] 9)) 46 46 9 i0 (.string ⟨#[]⟩) 16 Tryz.underlying46 hi hz0 hz1 hz2 rfl (by decide) v _ _ (World.ownsRow.alloc h _) _ [.string x] (holds_lit w 9 [.string x] (by simp)) (by intro y hy; simp at hy; subst hy; rfl) (by simp; omega)
  refine ⟨v', w', h1, ?_, ((Fr.refl w _).alloc _).trans h3 (fun _ _ h => h), h4.mono' (by simp)⟩
  unfold OwnT
  rw [List.length_append, List.map_append]
  exact h2
theorem OwnT.cell {w : World} {g c n : Nat} {ss : List ByteArray} (h : OwnT w (.slice (some ⟨g, 0, none⟩) n c) ss) (hn : ss.length = n) {i : Nat} {s : ByteArray} (hi : ss[i]? = some s) : w.cell? ⟨g, i, none⟩ = some (.string s) := by
  subst hn
  have hl := (List.getElem?_eq_some_iff.1 hi).1
  rw [World.ownsRow.cellAt h _ (by omega), List.getElem?_map, hi]
  rfl
theorem OwnT.free {w : World} {g c n : Nat} {ss : List ByteArray} (h : OwnT w (.slice (some ⟨g, 0, none⟩) n c) ss) (hn : ss.length = n) (j : Nat) : w.frozen? ⟨g, j, none⟩ = false := by
  subst hn
  exact World.ownsRow.frozenAt h j
theorem OwnT.put {w : World} {g c n : Nat} {ss : List ByteArray} (h : OwnT w (.slice (some ⟨g, 0, none⟩) n c) ss) (hn : ss.length = n) (i : Nat) (s : ByteArray) : OwnT (w.setCell ⟨g, i, none⟩ (.string s)) (.slice (some ⟨g, 0, none⟩) n c) (ss.set i s) := by
  subst hn
  have := (World.ownsRow.stored h i (.string s)).1
  unfold OwnT
  rw [List.length_set, List.map_set]
  exact this

end Go.Proofs.YtnffjafddbbjaaaGreatDoor

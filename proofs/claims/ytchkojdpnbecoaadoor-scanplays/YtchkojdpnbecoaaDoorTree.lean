/-
  A law for a statement whose order of evaluation Go leaves open, where two operations may come up at once: both ways are walked. No program is named here.
-/
import Derived.Test.YtchkojdpnbecoaaDoorLex
namespace Go.Proofs.YtchkojdpnbecoaaDoor
open Go.RowKit

/-- An order that is walked: 'take': what only reads, taken early; 'one': it comes up alone; 'two': one of two comes up. -/
inductive Sch where
  | nil
  | take (k : Nat) (s : Sch)
  | one (k : Nat) (s : Sch)
  | two (i : Nat) (s : Sch) (j : Nat) (t : Sch)

section
variable {P : Program} {ops : Array Oper} {Q : Exit → Act → World → Prop} {md : Region.Mode} {T : Nat → Prop}

def Sch.depth : Sch → Nat
  | .nil => 0
  | .take _ s => s.depth + 1
  | .one _ s => s.depth + 1
  | .two _ s _ t => max s.depth t.depth + 1
def Sch.chk (md : Region.Mode) (ops : Array Oper) : Sch → Array Bool → Bool
  | .nil, L => Region.ready md ops L == []
  | .take k s, L => (Region.free md ops L k && (Region.ready md ops L).contains k) && s.chk md ops (L.setIfInBounds k true)
  | .one k s, L => (Region.ready md ops L == [k]) && s.chk md ops (L.setIfInBounds k true)
  | .two i s j t, L => (Region.ready md ops L == [i, j]) && (s.chk md ops (L.setIfInBounds i true) && t.chk md ops (L.setIfInBounds j true))

def wpT (P : Program) (ops : Array Oper) (Q : Exit → Act → World → Prop) (T : Nat → Prop) : Sch → Act → World → Prop
  | .nil, a, w => Q .normal a w
  | .take k s, a, w => ∃ o v, ops[k]? = some o ∧ YieldsIf P ops (fun x => Fr w x T) o v a ∧ wpT P ops Q T s (a.put o.dst v) w
  | .one k s, a, w => wpOp P ops (NoPanic Q) k (fun a' w' => Fr w w' T ∧ wpT P ops Q T s a' w') a w
  | .two i s j t, a, w => wpOp P ops (NoPanic Q) i (fun a' w' => Fr w w' T ∧ wpT P ops Q T s a' w') a w ∧ wpOp P ops (NoPanic Q) j (fun a' w' => Fr w w' T ∧ wpT P ops Q T t a' w') a w

theorem wpAnyH_of_tree (hs : Region.noSelect ops = true) : ∀ (s : Sch) (fuel : Nat) (listed : Array Bool) (a : Act) (w : World), s.depth ≤ fuel → s.chk md ops listed = true → wpT P ops Q T s a w →
    wpAnyH P md ops (NoPanic Q) (fun x => Fr w x T) fuel listed a w
  | .nil, fuel, listed, a, w, _, hc, h => by
    have hr : Region.ready md ops listed = [] := by simpa [Sch.chk] using hc
    exact wpAnyH_done hr (NoPanic.normal h) _
  | .take k s, 0, _, _, _, hf, _, _ => by simp [Sch.depth] at hf
  | .take k s, fuel + 1, listed, a, w, hf, hc, h => by
    simp only [Sch.chk, Bool.and_eq_true] at hc
    obtain ⟨o, v, ho, hy, h⟩ := h
    exact wpAnyH_take ho hs hc.1.1 hc.1.2 (fun _ _ _ h => h) hy (Fr.refl _ _) (wpAnyH_of_tree hs s fuel _ _ w (by simpa [Sch.depth] using hf) hc.2 h)
  | .one k s, 0, _, _, _, hf, _, _ => by simp [Sch.depth] at hf
  | .one k s, fuel + 1, listed, a, w, hf, hc, h => by
    simp only [Sch.chk, Bool.and_eq_true] at hc
    have hr : Region.ready md ops listed = [k] := by simpa using hc.1
    refine wpAnyH_all hr (by simp) (fun i hi => ?_)
    obtain rfl : i = k := by simpa using hi
    refine wpOp_mono (fun a' w' h' => ⟨h'.1, ?_⟩) h
    exact wpAnyH_mono (fun x hx => h'.1.trans hx (fun _ _ ht => ht)) _ _ _ _ (wpAnyH_of_tree hs s fuel _ a' w' (by simpa [Sch.depth] using hf) hc.2 h'.2)
  | .two i s j t, 0, _, _, _, hf, _, _ => by simp [Sch.depth] at hf
  | .two i s j t, fuel + 1, listed, a, w, hf, hc, h => by
    simp only [Sch.chk, Bool.and_eq_true] at hc
    simp only [Sch.depth] at hf
    have hr : Region.ready md ops listed = [i, j] := by simpa using hc.1
    refine wpAnyH_all hr (by simp) (fun k hk => ?_)
    by_cases hki : k = i
    · subst hki
      refine wpOp_mono (fun a' w' h' => ⟨h'.1, ?_⟩) h.1
      exact wpAnyH_mono (fun x hx => h'.1.trans hx (fun _ _ ht => ht)) _ _ _ _ (wpAnyH_of_tree hs s fuel _ a' w' (by omega) hc.2.1 h'.2)
    · have hkj : k = j := by
        simp at hk
        rcases hk with h | h
        · exact absurd h hki
        · exact h
      subst hkj
      refine wpOp_mono (fun a' w' h' => ⟨h'.1, ?_⟩) h.2
      exact wpAnyH_mono (fun x hx => h'.1.trans hx (fun _ _ ht => ht)) _ _ _ _ (wpAnyH_of_tree hs t fuel _ a' w' (by omega) hc.2.2 h'.2)

/-- The law: of the operations l; T: the blocks that they may touch. -/
theorem wp_region_tree {id : Nat} {a : Act} {w : World} {l : List Oper} (T : Nat → Prop) (s : Sch) (hm : P.follows .mixedOrders = true) (hs : Region.noSelect l.toArray = true)
    (hl : s.depth ≤ l.length) (hc : s.chk .any l.toArray (Array.replicate l.length false) = true) (h : wpT P l.toArray Q T s a w.drew) : (Code.region id l.toArray true).wp P Q a w := by
  refine wp_region_noPanic (wp_region_held (S := fun x => Fr w.drew x T) hm ?_)
  have := wpAnyH_of_tree (md := .any) hs s l.length _ a w.drew hl hc h
  simpa using this

theorem wpT_take {l : List Oper} {k : Nat} {s : Sch} {o : Oper} {v : Value} {a : Act} {w : World} (ho : l[k]? = some o) (hw : Region.wanted o (yielded l.toArray a.tmps) = true)
    (hy : ∀ x, Fr w x T → (execOp a.eval o).run P x = .ok (.value v) x) (h : wpT P l.toArray Q T s (a.put o.dst v) w) : wpT P l.toArray Q T (.take k s) a w :=
  ⟨o, v, by simpa using ho, .inl ⟨hw, hy⟩, h⟩
theorem wpT_pass {l : List Oper} {k : Nat} {s : Sch} {o : Oper} {a : Act} {w : World} (ho : l[k]? = some o) (hw : Region.wanted o (yielded l.toArray a.tmps) = false)
    (h : wpT P l.toArray Q T s (a.put o.dst undef) w) : wpT P l.toArray Q T (.take k s) a w :=
  ⟨o, undef, by simpa using ho, .inr ⟨hw, rfl⟩, h⟩
theorem wpOp_run {l : List Oper} {k : Nat} {o : Oper} {a : Act} {w : World} {K : Act → World → Prop} (ho : l[k]? = some o) (hw : Region.wanted o (yielded l.toArray a.tmps) = true) (h : o.wp P a w K (NoPanic Q)) : wpOp P l.toArray (NoPanic Q) k K a w := by
  have ho' : l.toArray[k]? = some o := by simpa using ho
  unfold wpOp
  simp only [ho', hw, if_true]
  exact .inl h
theorem wpT_one {l : List Oper} {k : Nat} {s : Sch} {o : Oper} {a : Act} {w : World} (ho : l[k]? = some o) (hw : Region.wanted o (yielded l.toArray a.tmps) = true)
    (h : ∀ K : Act → World → Prop, (∀ a' w', Fr w w' T → wpT P l.toArray Q T s a' w' → K a' w') → o.wp P a w K (NoPanic Q)) : wpT P l.toArray Q T (.one k s) a w :=
  wpOp_run ho hw (h _ (fun _ _ h1 h2 => ⟨h1, h2⟩))
theorem wpT_two {l : List Oper} {i j : Nat} {s t : Sch} {o o' : Oper} {a : Act} {w : World} (ho : l[i]? = some o) (hw : Region.wanted o (yielded l.toArray a.tmps) = true) (ho' : l[j]? = some o') (hw' : Region.wanted o' (yielded l.toArray a.tmps) = true)
    (h : ∀ K : Act → World → Prop, (∀ a' w', Fr w w' T → wpT P l.toArray Q T s a' w' → K a' w') → o.wp P a w K (NoPanic Q))
    (h' : ∀ K : Act → World → Prop, (∀ a' w', Fr w w' T → wpT P l.toArray Q T t a' w' → K a' w') → o'.wp P a w K (NoPanic Q)) : wpT P l.toArray Q T (.two i s j t) a w :=
  ⟨wpOp_run ho hw (h _ (fun _ _ h1 h2 => ⟨h1, h2⟩)), wpOp_run ho' hw' (h' _ (fun _ _ h1 h2 => ⟨h1, h2⟩))⟩

/-- append, by its run. -/
theorem op_append_run {o : Oper} {a : Act} {w : World} {K : Act → World → Prop} (s x : Operand) (t : TypeId) (ho : o.op = .call { callee := .builtin .append, args := #[s, x], argTypes := #[t, t] }) {u v v' : Value} {w' : World} (hs : a.eval s = u) (hx : a.eval x = v)
    (hrun : (Builtin.append_ #[t, t] o.type #[u, v]).run P w = .ok v' w') (h : K (a.put o.dst v') w') : o.wp P a w K Q := by
  unfold Oper.wp execOp
  simp only [ho, resolve, invoke, builtin, Sem.run_bind, Sem.run_pure, Result.andThen_ok, List.map_toArray, List.map_cons, List.map_nil, hs, hx, hrun]
  exact h

end
end Go.Proofs.YtchkojdpnbecoaaDoor

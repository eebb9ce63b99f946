/-
  A set of edges in a map: who is in it; look up, put, delete.
-/
import Derived.Test.YtojeaggnknnnoaaXRow
import Derived.Maps.OwnSet
import Derived.DeepKeys4
namespace Go.Proofs.Ytojeaggnknnnoaa
open Go.RowKit Go.Maps

theorem mLaid : laidOutB Try.prog = true := by kernel_rfl
theorem mRow : (40 : TypeId) < Try.prog.types.size := of_decide_eq_true (by kernel_rfl)
theorem mWide : (match Try.prog.underlying 40 with | some (.array _ _) | some (.struct _) => true | _ => false) = true := by rw [Try.underlying40]
theorem mLaw : Keyed Try.prog 40 := Keyed.of_law (deep_law_laid mLaid (m := 2) (by omega) mRow (by kernel_rfl) mWide)
theorem mZero (w : World) : (zeroValue 72).run Try.prog w = .ok (.agg #[]) w := by kernel_rfl
theorem mCells40 : Try.prog.cellsOf 40 = 2 := by kernel_rfl
theorem mCells38 : Try.prog.cellsOf 38 = 1 := by kernel_rfl
theorem mKeyType : Try.prog.keyType 40 = true := by kernel_rfl

/-- What an edge reads as, as a key. -/
theorem eKey_some (e : Eg) (h : EgFit e) : ∃ kl, keyOf Try.prog 40 (edgeV e) = some kl := by
  obtain ⟨h1, h2⟩ := h
  have f : (edgeV e).formed Try.prog 40 = true := by simp [edgeV, Value.formed, Try.underlying40, mCells40]
  have w1 : (Lit.int .u32 (e.1 : Int)).wf = true := by
    have hmin : IntKind.u32.min = 0 := by decide
    have hmax : IntKind.u32.max = 4294967295 := by decide
    simp [Lit.wf, hmin, hmax]
    omega
  have w2 : (Lit.int .u32 (e.2 : Int)).wf = true := by
    have hmin : IntKind.u32.min = 0 := by decide
    have hmax : IntKind.u32.max = 4294967295 := by decide
    simp [Lit.wf, hmin, hmax]
    omega
  have e1 : Try.prog.keyLits (Try.prog.types.size + 1) 40 (edgeV e).cells.toList = some [.int .u32 (e.1 : Int), .int .u32 (e.2 : Int)] := by
    obtain ⟨s, hs⟩ := Nat.exists_eq_succ_of_ne_zero (Nat.ne_of_gt (Nat.lt_of_le_of_lt (Nat.zero_le _) mRow))
    rw [hs]
    simp [Program.keyLits, Try.underlying40, Try.underlying38, mCells40, mCells38, edgeV, Value.cells, w1, w2]
  unfold keyOf
  rw [Try.underlying40]
  dsimp only
  rw [if_pos (by rw [mKeyType, f]; rfl), e1]
  exact ⟨_, rfl⟩

noncomputable def eKey (e : Eg) : Lit := (keyOf Try.prog 40 (edgeV e)).getD (.bool true)
theorem eKey_is (e : Eg) (h : EgFit e) : keyOf Try.prog 40 (edgeV e) = some (eKey e) := by
  obtain ⟨kl, hk⟩ := eKey_some e h
  unfold eKey
  rw [hk]
  rfl
theorem eKey_inj {a b : Eg} (ha : EgFit a) (hb : EgFit b) (h : eKey a = eKey b) : a = b := by
  have e1 := eKey_is a ha
  have e2 := eKey_is b hb
  rw [h] at e1
  have := mLaw.inj e1 e2
  obtain ⟨a1, a2⟩ := a
  obtain ⟨b1, b2⟩ := b
  simp only [edgeV, Value.agg.injEq, Array.mk.injEq, List.cons.injEq, Value.int.injEq, true_and, and_true] at this
  simp only [Prod.mk.injEq]
  omega

/-- Block b is a map that has just the edges of l, of at most n entries. -/
def OwnM (w : World) (b n : Nat) (l : List Eg) : Prop := ∃ D : DataW Unit, w.ownsMap Try.prog 40 unitElem b n D ∧ ∀ e, EgFit e → has D (eKey e) = decide (e ∈ l)

theorem ownM_new (w : World) : OwnM (w.alloc (.map #[] 0)) w.heap.size 0 [] := ⟨_, World.ownsMap_made w _ _ _, fun e _ => by simp [has_eq]⟩
theorem OwnM.frame {w w' : World} {b n : Nat} {l : List Eg} {S : Nat → Prop} (h : OwnM w b n l) (f : Fr w w' S) (hs : ¬ S b) : OwnM w' b n l := by
  obtain ⟨D, ⟨es, clock, hb, r⟩, hD⟩ := h
  exact ⟨D, ⟨es, clock, f.kept hb hs, r⟩, hD⟩
theorem OwnM.lt {w : World} {b n : Nat} {l : List Eg} (h : OwnM w b n l) : b < w.heap.size := by
  obtain ⟨D, ho, -⟩ := h
  exact ho.lt
theorem OwnM.mono {w : World} {b n m : Nat} {l : List Eg} (h : OwnM w b n l) (hm : n ≤ m) : OwnM w b m l := by
  obtain ⟨D, ho, hD⟩ := h
  exact ⟨D, ho.mono hm, hD⟩
theorem fr_turned {w w' : World} {b : Nat} (h : w.mapTurned w' b) : Fr w w' (fun k => k = b) := (Fr.refl w (fun k => k = b)).grown h.grown (fun k hk _ => by simpa using hk.symm)
theorem has_put_all {D : DataW Unit} {l l' : List Eg} {e : Eg} (he : EgFit e) (hi : IsMap D) (hD : ∀ x, EgFit x → has D (eKey x) = decide (x ∈ l)) (hl : ∀ x, x ∈ l' ↔ (x ∈ l ∧ x ≠ e) ∨ x = e) :
    ∀ x, EgFit x → has (D.put (eKey e) (.agg [])) (eKey x) = decide (x ∈ l') := by
  intro x hx
  by_cases hxe : x = e
  · subst hxe
    rw [has_put_same hi (mLaw.key (eKey_is _ hx))]
    exact (decide_eq_true ((hl _).2 (.inr rfl))).symm
  · rw [has_put_other (fun h => hxe (eKey_inj hx he h)), hD x hx]
    exact decide_eq_decide.2 ⟨fun h => (hl _).2 (.inl ⟨h, hxe⟩), fun h => by
      rcases (hl _).1 h with h | h
      · exact h.1
      · exact absurd h hxe⟩
theorem has_del_all {D : DataW Unit} {l l' : List Eg} {e : Eg} (he : EgFit e) (hD : ∀ x, EgFit x → has D (eKey x) = decide (x ∈ l)) (hl : ∀ x, x ∈ l' ↔ x ∈ l ∧ x ≠ e) :
    ∀ x, EgFit x → has (D.del (eKey e)) (eKey x) = decide (x ∈ l') := by
  intro x hx
  by_cases hxe : x = e
  · subst hxe
    rw [has_del_same]
    exact (decide_eq_false (fun h => ((hl _).1 h).2 rfl)).symm
  · rw [has_del_other (fun h => hxe (eKey_inj hx he h)), hD x hx]
    exact decide_eq_decide.2 ⟨fun h => (hl _).2 ⟨h, hxe⟩, fun h => ((hl _).1 h).1⟩

end Go.Proofs.Ytojeaggnknnnoaa

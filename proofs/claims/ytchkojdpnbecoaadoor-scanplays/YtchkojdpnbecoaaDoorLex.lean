/-
  A law for a statement whose order of evaluation Go leaves open: one order is walked, step by step; an operation that is taken early must yield its value in every world that the rest of the statement can lead to. No program is named here.
-/
import Derived.Test.YtchkojdpnbecoaaDoorMem
import Derived.Deep.RegionHeld3
namespace Go.Proofs.YtchkojdpnbecoaaDoor
open Go.RowKit

section
variable {P : Program} {ops : Array Oper} {Q : Exit → Act → World → Prop} {md : Region.Mode} {T : Nat → Prop} {js : List Nat}

/-- Is 'ks' an order that can be walked for all: each of 'js' comes up alone, each other one may be taken first? -/
def schedChk (md : Region.Mode) (ops : Array Oper) (js : List Nat) : List Nat → Array Bool → Bool
  | [], listed => Region.ready md ops listed == []
  | k :: ks, listed => (if js.contains k then Region.ready md ops listed == [k] else Region.free md ops listed k && (Region.ready md ops listed).contains k) && schedChk md ops js ks (listed.setIfInBounds k true)

def wpLex (P : Program) (ops : Array Oper) (Q : Exit → Act → World → Prop) (T : Nat → Prop) (js : List Nat) : List Nat → Act → World → Prop
  | [], a, w => Q .normal a w
  | k :: ks, a, w => (js.contains k = false ∧ ∃ o v, ops[k]? = some o ∧ YieldsIf P ops (fun x => Fr w x T) o v a ∧ wpLex P ops Q T js ks (a.put o.dst v) w) ∨
      (js.contains k = true ∧ wpOp P ops (NoPanic Q) k (fun a' w' => Fr w w' T ∧ wpLex P ops Q T js ks a' w') a w)

theorem wpAnyH_mono {S S' : World → Prop} (hS : ∀ x, S' x → S x) : ∀ (fuel : Nat) (listed : Array Bool) (a : Act) (w : World), wpAnyH P md ops Q S' fuel listed a w → wpAnyH P md ops Q S fuel listed a w
  | 0, _, _, _, h => h
  | fuel + 1, _, _, _, h => ⟨h.1, fun i hi => wpOp_mono (fun a' w' h' => ⟨hS _ h'.1, wpAnyH_mono hS fuel _ a' w' h'.2⟩) (h.2 i hi)⟩

theorem wpAnyH_of_lex (hs : Region.noSelect ops = true) : ∀ (ks : List Nat) (listed : Array Bool) (a : Act) (w : World), schedChk md ops js ks listed = true → wpLex P ops Q T js ks a w →
    wpAnyH P md ops (NoPanic Q) (fun x => Fr w x T) ks.length listed a w
  | [], listed, a, w, hc, h => by
    have hr : Region.ready md ops listed = [] := by simpa [schedChk] using hc
    exact wpAnyH_done hr (NoPanic.normal h) _
  | k :: ks, listed, a, w, hc, h => by
    simp only [schedChk, Bool.and_eq_true] at hc
    obtain ⟨hc1, hc2⟩ := hc
    rcases h with ⟨hk, o, v, ho, hy, h⟩ | ⟨hk, h⟩
    · rw [hk] at hc1
      simp only [Bool.false_eq_true, if_false, Bool.and_eq_true] at hc1
      exact wpAnyH_take ho hs hc1.1 hc1.2 (fun _ _ _ h => h) hy (Fr.refl _ _) (wpAnyH_of_lex hs ks _ _ w hc2 h)
    · rw [hk] at hc1
      have hr : Region.ready md ops listed = [k] := by simpa using hc1
      refine wpAnyH_all hr (by simp) (fun i hi => ?_)
      obtain rfl : i = k := by simpa using hi
      refine wpOp_mono (fun a' w' h' => ⟨h'.1, ?_⟩) h
      exact wpAnyH_mono (fun x hx => h'.1.trans hx (fun _ _ ht => ht)) _ _ _ _ (wpAnyH_of_lex hs ks _ a' w' hc2 h'.2)

/-- The law: for a region that draws its order, of the operations l: js: those that come up alone (calls, stores); ks: the order that is walked; T: the blocks that they may touch. -/
theorem wp_region_lex {id : Nat} {a : Act} {w : World} {l : List Oper} (T : Nat → Prop) (js ks : List Nat) (hm : P.follows .mixedOrders = true) (hs : Region.noSelect l.toArray = true)
    (hl : ks.length = l.length) (hc : schedChk .any l.toArray js ks (Array.replicate l.length false) = true)
    (h : wpLex P l.toArray Q T js ks a w.drew) : (Code.region id l.toArray true).wp P Q a w := by
  refine wp_region_noPanic (wp_region_held (S := fun x => Fr w.drew x T) hm ?_)
  have := wpAnyH_of_lex (md := .any) hs ks _ a w.drew hc h
  rw [hl] at this
  simpa using this

theorem wpLex_nil {a : Act} {w : World} (h : Q .normal a w) : wpLex P ops Q T js [] a w := h

theorem wpLex_take {l : List Oper} {k : Nat} {ks : List Nat} {o : Oper} {v : Value} {a : Act} {w : World} (hk : js.contains k = false) (ho : l[k]? = some o) (hw : Region.wanted o (yielded l.toArray a.tmps) = true)
    (hy : ∀ x, Fr w x T → (execOp a.eval o).run P x = .ok (.value v) x) (h : wpLex P l.toArray Q T js ks (a.put o.dst v) w) : wpLex P l.toArray Q T js (k :: ks) a w :=
  .inl ⟨hk, o, v, by simpa using ho, .inl ⟨hw, hy⟩, h⟩

theorem wpLex_pass {l : List Oper} {k : Nat} {ks : List Nat} {o : Oper} {a : Act} {w : World} (hk : js.contains k = false) (ho : l[k]? = some o) (hw : Region.wanted o (yielded l.toArray a.tmps) = false)
    (h : wpLex P l.toArray Q T js ks (a.put o.dst undef) w) : wpLex P l.toArray Q T js (k :: ks) a w :=
  .inl ⟨hk, o, undef, by simpa using ho, .inr ⟨hw, rfl⟩, h⟩

theorem wpLex_step {l : List Oper} {k : Nat} {ks : List Nat} {o : Oper} {a : Act} {w : World} (hk : js.contains k = true) (ho : l[k]? = some o) (hw : Region.wanted o (yielded l.toArray a.tmps) = true)
    (h : ∀ K : Act → World → Prop, (∀ a' w', Fr w w' T → wpLex P l.toArray Q T js ks a' w' → K a' w') → o.wp P a w K (NoPanic Q)) : wpLex P l.toArray Q T js (k :: ks) a w := by
  have ho' : l.toArray[k]? = some o := by simpa using ho
  refine .inr ⟨hk, ?_⟩
  unfold wpOp
  simp only [ho', hw, if_true]
  exact .inl (h _ (fun a' w' h1 h2 => ⟨h1, h2⟩))

end
end Go.Proofs.YtchkojdpnbecoaaDoor

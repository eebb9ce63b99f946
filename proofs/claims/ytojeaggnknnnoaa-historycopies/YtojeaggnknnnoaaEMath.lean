/-
  Edges and events: plain mathematics, no program; how they lie in memory.
-/
import Derived.Test.YtojeaggnknnnoaaRows
import Derived.Test.YtojeaggnknnnoaaWide
namespace Go.Proofs.Ytojeaggnknnnoaa
open Go.RowKit

def eRight (u v n : Nat) : Bool := decide (u < v ∧ v < n)
def eLess (a b : Nat × Nat) : Bool := decide (a.1 < b.1 ∨ (a.1 = b.1 ∧ a.2 < b.2))
def eBefore (s t : Int) (a b : Nat × Nat) : Bool := decide (s < t ∨ (s = t ∧ eLess a b = true))
def eRising : List (Nat × Nat) → Bool
  | [] => true
  | [_] => true
  | a :: b :: r => eLess a b && eRising (b :: r)
theorem eRising_false {l : List (Nat × Nat)} {i : Nat} {a b : Nat × Nat} (ha : l[i]? = some a) (hb : l[i + 1]? = some b) (h : eLess a b = false) : eRising l = false := by
  induction l generalizing i with
  | nil => simp at ha
  | cons x l ih =>
    cases l with
    | nil => simp at hb
    | cons y r =>
      cases i with
      | zero =>
        simp at ha hb
        rw [eRising, ha, hb, h]
        rfl
      | succ i =>
        rw [eRising, ih (i := i) (by simpa using ha) (by simpa using hb)]
        simp
theorem eRising_true {l : List (Nat × Nat)} (h : ∀ i a b, l[i]? = some a → l[i + 1]? = some b → eLess a b = true) : eRising l = true := by
  induction l with
  | nil => rfl
  | cons x l ih =>
    cases l with
    | nil => rfl
    | cons y r =>
      rw [eRising, h 0 x y rfl rfl, ih (fun i a b ha hb => h (i + 1) a b (by simpa using ha) (by simpa using hb))]
      rfl

/-- An edge as a value, as cells; edges in a slice. -/
def edgeV (e : Nat × Nat) : Value := .agg #[.int .u32 (e.1 : Int), .int .u32 (e.2 : Int)]
def encE (x : Nat × Nat) : List Value := [.int .u32 (x.1 : Int), .int .u32 (x.2 : Int)]
def erow (xs : List (Nat × Nat)) : List Value := xs.flatMap encE
def RdE (w : World) (v : Value) (xs : List (Nat × Nat)) : Prop := HoldsN 2 w v xs.length (erow xs)
theorem erow_length (xs : List (Nat × Nat)) : (erow xs).length = xs.length * 2 := by
  induction xs with
  | nil => rfl
  | cons p ps ih => simp [erow, encE] at ih ⊢; omega
theorem erow_append (a b : List (Nat × Nat)) : erow (a ++ b) = erow a ++ erow b := by simp [erow]
theorem erow_drop : ∀ (ps : List (Nat × Nat)) (n : Nat), (erow ps).drop (n * 2) = erow (ps.drop n)
  | [], n => by simp [erow]
  | p :: ps, 0 => by simp [erow]
  | p :: ps, n + 1 => by
    have := erow_drop ps n
    simp only [erow, List.flatMap_cons, List.drop_succ_cons] at this ⊢
    rw [Nat.succ_mul, List.drop_append, List.drop_eq_nil_of_le (by simp [encE])]
    simp [this, encE]
theorem erow_get (ps : List (Nat × Nat)) (i : Nat) (p : Nat × Nat) (h : ps[i]? = some p) : (erow ps)[i * 2]? = some (.int .u32 (p.1 : Int)) ∧ (erow ps)[i * 2 + 1]? = some (.int .u32 (p.2 : Int)) := by
  have hd := erow_drop ps i
  have hi : i < ps.length := (List.getElem?_eq_some_iff.1 h).1
  have e : ps.drop i = p :: ps.drop (i + 1) := by
    rw [List.drop_eq_getElem_cons hi]
    rw [List.getElem?_eq_getElem hi] at h
    simp only [Option.some.injEq] at h
    rw [h]
  rw [e] at hd
  have h0 : ((erow ps).drop (i * 2))[0]? = some (.int .u32 (p.1 : Int)) := by rw [hd]; rfl
  have h1 : ((erow ps).drop (i * 2))[1]? = some (.int .u32 (p.2 : Int)) := by rw [hd]; rfl
  rw [List.getElem?_drop] at h0 h1
  exact ⟨h0, h1⟩
theorem erow_one (ps : List (Nat × Nat)) : ∀ u ∈ erow ps, u.oneCell' = true := by
  intro u hu
  simp only [erow, List.mem_flatMap] at hu
  obtain ⟨p, hp, hu⟩ := hu
  simp [encE] at hu
  rcases hu with rfl | rfl <;> rfl
theorem RdE.keep {w w' : World} {v : Value} {ps : List (Nat × Nat)} (h : RdE w v ps) (f : Fr w w' (fun _ => False)) : RdE w' v ps := HoldsN.keep h f
theorem RdE.form {w : World} {v : Value} {ps : List (Nat × Nat)} (h : RdE w v ps) : ∃ ao cap, v = .slice ao ps.length cap ∧ ps.length ≤ cap := by
  obtain ⟨-, ao, cap, h1, h2, -⟩ := h
  exact ⟨ao, cap, h1, h2⟩
theorem RdE.get {w : World} {v : Value} {ps : List (Nat × Nat)} (h : RdE w v ps) (i : Nat) (p : Nat × Nat) (hi : ps[i]? = some p) :
    ∃ b off cap, v = .slice (some ⟨b, off, none⟩) ps.length cap ∧ b < w.heap.size ∧ ∀ x, Fr w x (fun _ => False) → x.cell? ⟨b, off + i * 2, none⟩ = some (.int .u32 (p.1 : Int)) ∧ x.cell? ⟨b, off + i * 2 + 1, none⟩ = some (.int .u32 (p.2 : Int)) := by
  obtain ⟨-, ao, cap, rfl, h2, hc⟩ := h
  have hil := (List.getElem?_eq_some_iff.1 hi).1
  obtain ⟨b, off, rfl, hcell⟩ := hc (by omega)
  obtain ⟨h3, h4⟩ := erow_get ps i p hi
  have c3 := hcell _ _ h3
  have c4 := hcell _ _ h4
  have hb := World.block_lt_of_cell? _ _ c3
  refine ⟨b, off, cap, rfl, hb, fun x hx => ?_⟩
  exact ⟨(World.cell?_of_block (w := w) (hx.block b hb (fun h => h))).trans c3, (World.cell?_of_block (w := w) (hx.block b hb (fun h => h))).trans (by rw [Nat.add_assoc]; exact c4)⟩

end Go.Proofs.Ytojeaggnknnnoaa

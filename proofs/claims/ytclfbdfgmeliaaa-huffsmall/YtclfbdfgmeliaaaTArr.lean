/-
  Blocks of ints that a call made: cells, stores, whole parts.
-/
import Derived.Test.YtclfbdfgmeliaaaRCodes
import Derived.Deep.MidRow
namespace Go.Proofs.Ytclfbdfgmeliaaa
open Go.RowKit

/-- A block of ints. -/
def Blk (w : World) (b : Nat) (t : TypeId) (n : Nat) (f : Nat → Nat) : Prop := w.heap[b]? = some (.cells (row .i64 (fnRow n f)).toArray t (0, 0))
def upd (f : Nat → Nat) (k x : Nat) : Nat → Nat := fun j => if j = k then x else f j
section
variable {w : World} {b : Nat} {t : TypeId} {n : Nat} {f : Nat → Nat}
theorem frow_get (n : Nat) (f : Nat → Nat) (k : Nat) (hk : k < n) : (row .i64 (fnRow n f))[k]? = some (.int .i64 ((f k : Nat) : Int)) := by simp [row, fnRow, hk]
theorem frow_len (n : Nat) (f : Nat → Nat) : (row .i64 (fnRow n f)).length = n := by rw [length_row, fnRow_length]
theorem Blk.cell (h : Blk w b t n f) (k : Nat) (hk : k < n) : w.cell? ⟨b, k, none⟩ = some (.int .i64 ((f k : Nat) : Int)) := by
  rw [cell_of_row w b k _ t _ h, List.getElem?_toArray]
  exact frow_get n f k hk
theorem Blk.free (h : Blk w b t n f) (k : Nat) : w.frozen? ⟨b, k, none⟩ = false := by unfold Blk at h; simp [World.frozen?, h]
theorem Blk.lt (h : Blk w b t n f) : b < w.heap.size := lt_of_block h
theorem Blk.congr {f' : Nat → Nat} (h : Blk w b t n f) (hc : ∀ j, j < n → f j = f' j) : Blk w b t n f' := by
  unfold Blk at h ⊢
  rw [h, fnRow_congr n hc]
theorem Blk.frame {w' : World} {S : Nat → Prop} (h : Blk w b t n f) (hf : Fr w w' S) (hs : ¬ S b) : Blk w' b t n f := hf.kept h hs
theorem Blk.set (h : Blk w b t n f) (k x : Nat) : Blk (w.setCell ⟨b, k, none⟩ (.int .i64 ((x : Nat) : Int))) b t n (upd f k x) := by
  unfold Blk at h ⊢
  rw [heap_setCell_same w b k _ t _ h]
  congr 2
  have e : (row .i64 (fnRow n f)).toArray.setIfInBounds k (.int .i64 ((x : Nat) : Int)) = (row .i64 ((fnRow n f).set k x)).toArray := by rw [row_set]; simp
  rw [e, fnRow_set n f (upd f k x) k x (by unfold upd; rw [if_pos rfl]) (fun t ht => by unfold upd; rw [if_neg ht])]
theorem Blk.range (h : Blk w b t n f) (o m : Nat) (g : Nat → Nat) (hm : o + m ≤ n) (hg : ∀ j, j < m → f (o + j) = g j) : w.rangeAt b o (row .i64 (fnRow m g)) := fun j v hv => by
  have hj : j < m := by have := (List.getElem?_eq_some_iff.1 hv).1; rwa [frow_len] at this
  rw [frow_get m g j hj] at hv
  rw [h.cell (o + j) (by omega), hg j hj, hv]
theorem Blk.there (h : Blk w b t n f) (o m : Nat) (hm : o + m ≤ n) : w.there b o m := fun j hj => ⟨by rw [h.cell (o + j) (by omega)]; rfl, h.free _⟩
theorem Blk.sets : ∀ (gs : List Nat) {w : World} {f : Nat → Nat} (o : Nat), Blk w b t n f → Blk (w.setCells b o (row .i64 gs)) b t n (fun j => if o ≤ j ∧ j < o + gs.length then gs.getD (j - o) 0 else f j)
  | [], w, f, o, h => Blk.congr h fun j _ => by rw [if_neg (by simp <;> omega)]
  | g :: gs, w, f, o, h => by
    have := Blk.sets gs (o + 1) (h.set o g)
    refine Blk.congr (w := w.setCells b o (row .i64 (g :: gs))) this fun j _ => ?_
    by_cases h1 : j = o
    · subst h1
      rw [if_neg (by omega), if_pos (by simp), Nat.sub_self]
      unfold upd
      rw [if_pos rfl]
      rfl
    · by_cases h2 : o + 1 ≤ j ∧ j < o + 1 + gs.length
      · rw [if_pos h2, if_pos (by simp; omega), show j - o = (j - (o + 1)) + 1 by omega]
        rfl
      · rw [if_neg h2, if_neg (by simp; omega)]
        unfold upd
        rw [if_neg h1]
theorem Blk.setRow (h : Blk w b t n f) (o m : Nat) (g : Nat → Nat) : Blk (w.setCells b o (row .i64 (fnRow m g))) b t n (fun j => if o ≤ j ∧ j < o + m then g (j - o) else f j) := by
  refine Blk.congr (Blk.sets (fnRow m g) o h) fun j _ => ?_
  rw [fnRow_length]
  by_cases h1 : o ≤ j ∧ j < o + m
  · rw [if_pos h1, if_pos h1, List.getD_eq_getElem?_getD, fnRow_get m g _ (by omega)]
    rfl
  · rw [if_neg h1, if_neg h1]
theorem frow_one (n : Nat) (f : Nat → Nat) : (row .i64 (fnRow n f)).toArray.all (·.oneCell') = true := all_oneCell_toArray (row_one .i64 _)
end
theorem Fr.setCells {a : World} {S : Nat → Prop} (b : Nat) (hb : b < a.heap.size → S b) : ∀ (vs : List Value) (o : Nat) {w : World}, Fr a w S → Fr a (w.setCells b o vs) S
  | [], _, _, h => h
  | v :: vs, o, _, h => Fr.setCells b hb vs (o + 1) (h.setCell ⟨b, o, Option.none⟩ hb v)
/-- A value of ints. -/
def arr (n : Nat) (f : Nat → Nat) : Value := .agg (row .i64 (fnRow n f)).toArray
/-- Sixteen noughts, as a walk spells them. -/
def Z16 : Array Value := (row .i64 (fnRow 16 fun _ => 0)).toArray
theorem z16 : #[Value.int IntKind.i64 0, Value.int IntKind.i64 0, Value.int IntKind.i64 0, Value.int IntKind.i64 0, Value.int IntKind.i64 0, Value.int IntKind.i64 0, Value.int IntKind.i64 0, Value.int IntKind.i64 0, Value.int IntKind.i64 0, Value.int IntKind.i64 0, Value.int IntKind.i64 0, Value.int IntKind.i64 0, Value.int IntKind.i64 0, Value.int IntKind.i64 0, Value.int IntKind.i64 0, Value.int IntKind.i64 0] = Z16 := by rfl
theorem results_cell {fn : Func} {p : Tmp} {ty : TypeId} (h : fn.results = #[.cell p ty]) {tmps : Array Value} {P : Program} {w : World} {b o : Nat} {v : Value} (hp : tmps.getD p undef = .pointer (some ⟨b, o, none⟩)) (hl : (loadVar ty ⟨b, o, none⟩).run P w = .ok v w) :
    (results fn tmps).run P w = .ok v w := by
  have hp' : tmps[p]?.getD undef = .pointer (some ⟨b, o, none⟩) := by rw [← hp]; simp
  simp [results, h, asAddr, hp', hl]
theorem sizeLen : (Try.prog.info? 102).map (·.size) = some 16 := by kernel_rfl
theorem Blk.load {w : World} {b : Nat} {t : TypeId} {n : Nat} {f : Nat → Nat} (h : Blk w b t n f) (o : Nat) (g : Nat → Nat) (hm : o + 16 ≤ n) (hg : ∀ j, j < 16 → f (o + j) = g j) : (loadVar 102 ⟨b, o, none⟩).run Try.prog w = .ok (arr 16 g) w :=
  run_loadVar_mid w b o _ _ _ (h.range o 16 g hm hg) Try.underlying102 rfl (by rw [frow_len]; exact sizeLen)

end Go.Proofs.Ytclfbdfgmeliaaa

/-
  A text's lines; the lines of a table. Plain mathematics.
-/
import Derived.Test.YtnffjafddbbjaaaGreatDoorJ3
import Derived.Test.YtnffjafddbbjaaaGreatDoorJ8
namespace Go.Proofs.YtnffjafddbbjaaaGreatDoor
open Go.RowKit

def segS (p : List (List Nat) × List Nat) (y : Nat) : List (List Nat) × List Nat := if y = 10 then (p.1 ++ [p.2 ++ [10]], []) else (p.1, p.2 ++ [y])
/-- The lines of a text, and what is behind them. -/
def segL (l : List Nat) : List (List Nat) × List Nat := l.foldl segS ([], [])
theorem segL_step {l : List Nat} {i y : Nat} (h : l.take (i + 1) = l.take i ++ [y]) : segL (l.take (i + 1)) = segS (segL (l.take i)) y := by rw [h]; unfold segL; rw [List.foldl_append]; rfl
theorem seg_flat : ∀ (l : List Nat) (p : List (List Nat) × List Nat), (l.foldl segS p).1.flatten ++ (l.foldl segS p).2 = p.1.flatten ++ p.2 ++ l
  | [], p => by simp
  | y :: l, p => by
    rw [List.foldl_cons, seg_flat l]
    unfold segS
    split
    · rename_i h; subst h; simp
    · simp
theorem segL_flat (l : List Nat) : (segL l).1.flatten ++ (segL l).2 = l := by
  have := seg_flat l ([], [])
  simpa [segL] using this
theorem seg_plain : ∀ (B : List Nat) (p : List (List Nat) × List Nat), (∀ y ∈ B, y ≠ 10) → B.foldl segS p = (p.1, p.2 ++ B)
  | [], p, _ => by simp
  | y :: B, p, h => by
    rw [List.foldl_cons, seg_plain B _ (fun z hz => h z (List.mem_cons_of_mem _ hz))]
    unfold segS
    rw [if_neg (h y (List.mem_cons_self ..))]
    simp
theorem seg_line {B : List Nat} (h : ∀ y ∈ B, y ≠ 10) (p : List (List Nat) × List Nat) : (B ++ [10]).foldl segS p = (p.1 ++ [p.2 ++ B ++ [10]], []) := by
  rw [List.foldl_append, seg_plain B p h]
  simp [segS]
theorem seg_lines : ∀ (ls : List Lf) (q : List (List Nat)), (ls.flatMap lineT).foldl segS (q, []) = (q ++ ls.map lineT, [])
  | [], q => by simp
  | x :: ls, q => by
    rw [List.flatMap_cons, List.foldl_append, lineT_body, seg_line (lineTB_plain x), List.nil_append, seg_lines ls, ← lineT_body]
    simp
def headT (n : Nat) : List Nat := tabW ++ toksL (headToks n)
theorem seg_tab (n : Nat) (ls : List Lf) : segL (tabL n ls) = (headT n :: ls.map lineT, []) := by
  have hh : headT n = (tabW ++ headB n) ++ [10] := by unfold headT; rw [head_body, List.append_assoc]
  have hp : ∀ y ∈ tabW ++ headB n, y ≠ 10 := fun y hy => by
    rcases List.mem_append.1 hy with h | h
    · exact (show ∀ z ∈ tabW, z ≠ 10 by decide) y h
    · exact headB_plain n y h
  have ht : tabL n ls = headT n ++ ls.flatMap lineT := by unfold tabL headT; rw [List.append_assoc]
  unfold segL
  rw [ht, List.foldl_append, hh, seg_line hp]
  show (ls.flatMap lineT).foldl segS ([[] ++ (tabW ++ headB n) ++ [10]], []) = _
  rw [seg_lines, ← hh]
  rfl
theorem tab_flat (n : Nat) (ls : List Lf) : (headT n :: ls.map lineT).flatten = tabL n ls := by
  have := segL_flat (tabL n ls)
  rw [seg_tab] at this
  simpa using this
theorem str_list (L : List Nat) : (strOf L).data.toList = L.map UInt8.ofNat := by
  unfold strOf strOfNums
  simp only [List.map_map]
  rfl
theorem ext_str (L : List Nat) (a b : Nat) : (strOf L).extract a b = strOf ((L.drop a).take (b - a)) := bytes_ext (by
  rw [extract_list, str_list, str_list, List.map_take, List.map_drop])
/-- The line that a line feed ends. -/
theorem seg_cut {L : List Nat} {i : Nat} (hi : i < L.length) (hy : L.getD i 0 = 10) : (strOf L).extract (segL (L.take i)).1.flatten.length (i + 1) = strOf ((segL (L.take i)).2 ++ [10]) ∧ (segL (L.take (i + 1))).1 = (segL (L.take i)).1 ++ [(segL (L.take i)).2 ++ [10]] ∧ (segL (L.take (i + 1))).1.flatten.length = i + 1 ∧ (segL (L.take i)).1.flatten.length ≤ i := by
  have ht : L.take (i + 1) = L.take i ++ [10] := by
    rw [List.take_add_one, List.getElem?_eq_getElem hi]
    rw [List.getD_eq_getElem?_getD, List.getElem?_eq_getElem hi] at hy
    rw [show L[i] = 10 from hy]
    rfl
  have hf := segL_flat (L.take i)
  have hl : (segL (L.take i)).1.flatten.length + (segL (L.take i)).2.length = i := by
    rw [← List.length_append, hf, List.length_take, Nat.min_eq_left (by omega)]
  have hs := segL_step ht
  unfold segS at hs
  rw [if_pos rfl] at hs
  generalize segL (L.take i) = P at hf hl hs ⊢
  refine ⟨?_, by rw [hs], ?_, by omega⟩
  · rw [ext_str]
    congr 1
    rw [← List.drop_take, ht, ← hf, List.append_assoc, List.drop_left]
  · rw [hs]
    simp only [List.flatten_append, List.length_append, List.flatten_cons, List.flatten_nil, List.length_cons, List.length_nil]
    omega
theorem seg_no {L : List Nat} {i : Nat} (hi : i < L.length) (hy : L.getD i 0 ≠ 10) : (segL (L.take (i + 1))).1 = (segL (L.take i)).1 := by
  have ht : L.take (i + 1) = L.take i ++ [L.getD i 0] := by
    rw [List.take_add_one, List.getElem?_eq_getElem hi, List.getD_eq_getElem?_getD, List.getElem?_eq_getElem hi]
    rfl
  rw [segL_step ht]
  unfold segS
  rw [if_neg hy]
theorem seg_few (l : List Nat) : (segL l).1.length ≤ l.length := by
  have h : ∀ (l : List Nat) (p : List (List Nat) × List Nat), (l.foldl segS p).1.length ≤ p.1.length + l.length := fun l => by
    induction l with
    | nil => intro p; simp
    | cons y l ih =>
      intro p
      rw [List.foldl_cons]
      have h1 := ih (segS p y)
      have h2 : (segS p y).1.length ≤ p.1.length + 1 := by unfold segS; split <;> simp
      rw [List.length_cons]
      omega
  have := h l ([], [])
  simpa [segL] using this
/-- Two lines that have changed places. -/
theorem lines_swap (n : Nat) (ls : List Lf) (a b : Nat) (x y : Lf) : (((headT n :: ls.map lineT).map strOf).set (a + 1) (strOf (lineT y))).set (b + 1) (strOf (lineT x)) = (headT n :: ((ls.set a y).set b x).map lineT).map strOf := by
  simp [List.map_set]

end Go.Proofs.YtnffjafddbbjaaaGreatDoor

/-
  Helps of the laws from stage 10 on: arguments, the seat's history with all that is known of it, lists of histories.
-/
import Derived.Test.YtnffjafddbbjaaaGreatDoorJ10
namespace Go.Proofs.YtnffjafddbbjaaaGreatDoor
open Go.RowKit Go.ChangeShapes Go.WideShapes

theorem eu8 (n : Int) (h : (Lit.int .u8 n).wf = true) : 0 ≤ n ∧ n < (256 : Nat) := by have := bounds_u8 h; omega
theorem eu8_nat {n : Int} (h : (Lit.int .u8 n).wf = true) : ∃ k : Nat, n = (k : Int) ∧ k < 256 := ⟨n.toNat, by have := eu8 n h; omega⟩
theorem ebelow {w w' : World} (h : Fr w w' (fun _ => False)) : Below w.heap.size w w' := h.below (Nat.le_refl _) (fun _ h => h.elim)
/-- Bytes that came in. -/
theorem bytes_arg {w : World} {a : Option Addr} {len cap : Nat} {z : List Int} (h : IsRow .u8 w a len cap z) : ∃ bs : List Nat, bs.length = len ∧ (∀ x ∈ bs, x < 256) ∧ Reads .u8 w (.slice a len cap) bs := by
  obtain ⟨bs, h1, h2, h3, -⟩ := reads_isRow eu8 (by decide) h
  refine ⟨bs, h1, fun x hx => ?_, h3⟩
  obtain ⟨i, hi⟩ := List.getElem?_of_mem hx
  have := h2 i
  rw [List.getD_eq_getElem?_getD, hi] at this
  exact this

def and15 (z : Int) : Nat := (BitVec.ofInt 64 z &&& 15#64).toNat
theorem and15_le (z : Int) : and15 z ≤ 15 := by
  unfold and15
  rw [BitVec.toNat_and]
  exact Nat.and_le_right
theorem and15_is (z : Int) : bits .and .i64 z 15 = ((and15 z : Nat) : Int) := by
  have h := and15_le z
  show IntKind.i64.wrap ((BitVec.ofInt 64 z &&& BitVec.ofInt 64 15).toNat : Int) = _
  rw [show BitVec.ofInt 64 15 = 15#64 by decide]
  exact IntWalk.i64_in _ (by unfold and15 at h; omega)
def and7 (z : Int) : Nat := (BitVec.ofInt 64 z &&& 7#64).toNat
theorem and7_le (z : Int) : and7 z ≤ 7 := by
  unfold and7
  rw [BitVec.toNat_and]
  exact Nat.and_le_right
theorem and7_is (z : Int) : bits .and .i64 z 7 = ((and7 z : Nat) : Int) := by
  have h := and7_le z
  show IntKind.i64.wrap ((BitVec.ofInt 64 z &&& BitVec.ofInt 64 7).toNat : Int) = _
  rw [show BitVec.ofInt 64 7 = 7#64 by decide]
  exact IntWalk.i64_in _ (by unfold and7 at h; omega)

/-- What is known of the seat's histories. -/
structure HOk (n : Nat) (E : List Ev) : Prop where
  n64 : n < 18446744073709551616
  n32 : n ≤ 4294967296
  len : E.length ≤ 40
  chk : checkF n E = (0, 0)
  times : ∀ x ∈ E, 0 ≤ x.1 ∧ x.1 ≤ 4611686018427387903
  right : ∀ x ∈ E, eRight x.2.1.1 x.2.1.2 n = true
  fit : ∀ x ∈ E, EvFit x
  srt : Srt E
theorem hist_all (k : Nat) (bs : List Nat) (hl : bs.length ≤ 1000) : HOk (vertF k) (histE k bs) := by
  have hnb := vertF_bounds k
  have hEo := hist_ok k bs
  have ht : ∀ x ∈ histE k bs, 0 ≤ x.1 ∧ x.1 ≤ 4611686018427387903 := fun x hx => by have h1 := hEo x hx; obtain ⟨h3, h4, -⟩ := h1; constructor <;> omega
  refine ⟨by omega, by omega, hist_length k bs, hist_right k bs hl, ht, fun x hx => (hEo x hx).2.2, fun x hx => ?_, hist_sorted k bs⟩
  have h1 := hEo x hx
  obtain ⟨h3, h4⟩ := ht x hx
  obtain ⟨-, -, h5⟩ := h1
  unfold eRight at h5
  have h6 := of_decide_eq_true h5
  unfold EvFit
  omega
theorem seatH_any (k : Nat) (v : Value) (bs : List Nat) (w : World) (h : Reads .u8 w v bs) (hbb : ∀ x ∈ bs, x < 256) (hl : bs.length ≤ 1000) (hk : k < 256) : Calls Tryz.prog 9 #[.int .u8 (k : Int), v] w fun r w' =>
    ∃ (n : Nat) (E : List Ev) (a : Option Addr) (m c : Nat), r = .returned (.agg #[.int .u64 (n : Int), .slice a m c]) ∧ m = E.length ∧ n = vertF k ∧ E = histE k bs ∧ HOk n E ∧ RdV w' (.slice a m c) E ∧ m ≤ c ∧ Fr w w' (fun _ => False) := by
  refine (seatHistory_any k v bs w h hbb hl hk).mono ?_
  rintro r w' ⟨⟨v', rfl, hr, -⟩, g⟩
  obtain ⟨a, c, rfl, hc⟩ := hr.form
  exact ⟨vertF k, histE k bs, a, _, c, rfl, rfl, rfl, rfl, hist_all k bs hl, hr, hc, g⟩

/-- A history of a list: its vertices, its slice, its events. -/
abbrev Hs := Nat × (Option Addr × Nat × Nat) × List Ev
def encH (x : Hs) : List Value := [.int .u64 (x.1 : Int), .slice x.2.1.1 x.2.1.2.1 x.2.1.2.2]
def HsOk (w : World) (x : Hs) : Prop := x.1 < 18446744073709551616 ∧ RdV w (.slice x.2.1.1 x.2.1.2.1 x.2.1.2.2) x.2.2 ∧ x.2.2.length ≤ 100 ∧ (∀ y ∈ x.2.2, EvFit y) ∧ x.2.1.2.1 = x.2.2.length
theorem HsOk.keep {w w' : World} {x : Hs} (h : HsOk w x) (f : Fr w w' (fun _ => False)) : HsOk w' x := ⟨h.1, h.2.1.keep f, h.2.2⟩
theorem hrow_get : ∀ (xs : List Hs) (i : Nat) (x : Hs), xs[i]? = some x → (xs.flatMap encH)[i * 2]? = some (.int .u64 (x.1 : Int)) ∧ (xs.flatMap encH)[i * 2 + 1]? = some (.slice x.2.1.1 x.2.1.2.1 x.2.1.2.2)
  | [], i, x, h => by simp at h
  | y :: r, 0, x, h => by
    simp only [List.getElem?_cons_zero, Option.some.injEq] at h
    subst h
    simp [encH]
  | y :: r, i + 1, x, h => by
    simp only [List.getElem?_cons_succ] at h
    have ih := hrow_get r i x h
    rw [List.flatMap_cons, show (i + 1) * 2 = i * 2 + 2 by omega]
    rw [List.getElem?_append_right (by simp [encH]), List.getElem?_append_right (by simp [encH])]
    simpa [encH] using ih

end Go.Proofs.YtnffjafddbbjaaaGreatDoor

/-
  A scanner's acts that came in: they can be read.
-/
import Derived.Test.YtchkojdpnbecoaaDoorCHelp
import Derived.Deep.SlicePairs
import Derived.Lib.SmallJoins
namespace Go.Proofs.YtchkojdpnbecoaaDoor
open Go.RowKit Go.ChangeShapes Go.WideShapes

/-- An act: what, most, a word. -/
abbrev Act' := Nat × Nat × ByteArray
def actV (x : Act') : List Value := [.int .u8 (x.1 : Int), .int .u64 (x.2.1 : Int), .string x.2.2]
def ActFit (x : Act') : Prop := x.1 < 256 ∧ x.2.1 < 18446744073709551616
def IsActs (w : World) (a : Option Addr) (len cap : Nat) : Prop :=
  ∃ f : Nat → Act', len ≤ cap ∧ (∀ i, i < len → ActFit (f i)) ∧ (0 < len → ∃ B o, a = some ⟨B, o, none⟩ ∧ ∀ i, i < len → w.cell? ⟨B, o + i * 3, none⟩ = some (.int .u8 ((f i).1 : Int)) ∧ w.cell? ⟨B, o + i * 3 + 1, none⟩ = some (.int .u64 ((f i).2.1 : Int)) ∧ w.cell? ⟨B, o + i * 3 + 2, none⟩ = some (.string (f i).2.2))

theorem cellsAct : Tryd.prog.cellsOf 33 = 3 := by kernel_rfl
theorem cellsU8' : Tryd.prog.cellsOf 5 = 1 := by kernel_rfl
theorem cellsU64' : Tryd.prog.cellsOf 31 = 1 := by kernel_rfl
theorem cellsStr' : Tryd.prog.cellsOf 9 = 1 := by kernel_rfl

set_option maxRecDepth 4000 in
theorem act_of_trod {H : Type} {enc : TypeId × Value → H} {W : World} {b0 : Nat} {spare : Nat → Bool} {held : Bool} {fuel : Nat} {cs : List Value} {x : DataW H × List MemPlace} (hl : cs.length = 3) (h : DataW.trod enc Tryd.prog W b0 spare held fuel 33 cs = some x) :
    ∃ y : Act', cs = actV y ∧ ActFit y := by
  obtain ⟨y0, y1, y2, n, -, -, h0, h1, h2⟩ := Go.Deep.trod_struct3 Tryd.underlying33 h
  match cs, hl with
  | [c0, c1, c2], _ =>
    simp only [cellsU8', cellsU64', cellsStr'] at h0 h1 h2
    obtain ⟨t, e0, -, w0⟩ := DataW.trod_int Tryd.underlying5 h0
    obtain ⟨x0, e1, -, w1⟩ := DataW.trod_int Tryd.underlying31 h1
    obtain ⟨s, e2, -, -⟩ := DataW.trod_string Tryd.underlying9 h2
    have b0 := bounds_u8 w0
    have b1 := bounds_u64 w1
    obtain ⟨n0, rfl⟩ : ∃ k : Nat, t = (k : Int) := ⟨t.toNat, by omega⟩
    obtain ⟨n1, rfl⟩ : ∃ k : Nat, x0 = (k : Int) := ⟨x0.toNat, by omega⟩
    simp at e0 e1 e2
    subst e0 e1 e2
    exact ⟨(n0, n1, s), rfl, by show n0 < 256; omega, by show n1 < _; omega⟩

set_option maxRecDepth 4000 in
theorem isActs_open {H : Type} {enc : TypeId × Value → H} {W : World} {b0 : Nat} {sp : Nat → Bool} {held : Bool} {fuel : Nat} {a : Option Addr} {len cap : Nat} {x : DataW H × List MemPlace} (h : DataW.trod enc Tryd.prog W b0 sp held fuel 23 [.slice a len cap] = some x) : IsActs W a len cap := by
  rcases Go.Deep.open_slice Tryd.underlying23 h with ⟨e, -⟩ | ⟨a', len', cap', m, n, D, Pl, e, hb, hl, hcm, hm, -, hr⟩
  · simp only [List.cons.injEq, Value.slice.injEq, and_true] at e
    obtain ⟨rfl, rfl, rfl⟩ := e
    exact ⟨fun _ => (0, 0, strOf []), Nat.le_refl _, fun i hi => by omega, fun h => by omega⟩
  · simp only [List.cons.injEq, Value.slice.injEq, and_true] at e
    obtain ⟨rfl, rfl, rfl⟩ := e
    have hlm : len ≤ m := by rw [hm]; split <;> omega
    have each : ∀ i, i < len → ∃ y : Act', (∀ j, j < 3 → W.cell? (a'.add (i * 3 + j)) = (actV y)[j]?) ∧ ActFit y := fun i hi => by
      obtain ⟨cs', h1, h2⟩ := hr i (by omega)
      rw [cellsAct] at h1
      obtain ⟨-, hlen, hcell⟩ := World.cells?_some h1
      obtain ⟨y, rfl, hy⟩ := act_of_trod hlen h2
      refine ⟨y, fun j hj => ?_, hy⟩
      have := hcell j hj
      rwa [Go.Deep.add_add] at this
    obtain ⟨f, hf⟩ : ∃ f : Nat → Act', ∀ i, i < len → (∀ j, j < 3 → W.cell? (a'.add (i * 3 + j)) = (actV (f i))[j]?) ∧ ActFit (f i) := by
      refine ⟨fun r => if h : r < len then (each r h).choose else (0, 0, strOf []), fun r hrl => ?_⟩
      simp only [hrl, dif_pos]
      exact (each r hrl).choose_spec
    refine ⟨f, hl, fun i hi => (hf i hi).2, fun h0 => ?_⟩
    have hc0 : W.cell? (a'.add 0) = some (.int .u8 ((f 0).1 : Int)) := (hf 0 h0).1 0 (by omega)
    obtain ⟨b, off, rfl⟩ := spot_none hc0
    refine ⟨b, off, rfl, fun i hi => ?_⟩
    have h1 := (hf i hi).1 0 (by omega)
    have h2 := (hf i hi).1 1 (by omega)
    have h3 := (hf i hi).1 2 (by omega)
    rw [add_none] at h1 h2 h3
    exact ⟨h1, h2, h3⟩

theorem acts_keep {w w' : World} {f : Nat → Act'} {B o i : Nat} (h : w.cell? ⟨B, o + i * 3, none⟩ = some (.int .u8 ((f i).1 : Int)) ∧ w.cell? ⟨B, o + i * 3 + 1, none⟩ = some (.int .u64 ((f i).2.1 : Int)) ∧ w.cell? ⟨B, o + i * 3 + 2, none⟩ = some (.string (f i).2.2)) (hz : Fr w w' (fun _ => False)) :
    w'.cell? ⟨B, o + i * 3, none⟩ = some (.int .u8 ((f i).1 : Int)) ∧ w'.cell? ⟨B, o + i * 3 + 1, none⟩ = some (.int .u64 ((f i).2.1 : Int)) ∧ w'.cell? ⟨B, o + i * 3 + 2, none⟩ = some (.string (f i).2.2) := by
  have hb := World.block_lt_of_cell? _ _ h.1
  have e := fun (x : Nat) => World.cell?_of_block (w := w) (a := ⟨B, x, none⟩) (hz.block _ hb (fun h => h))
  rw [e, e, e]
  exact h

end Go.Proofs.YtchkojdpnbecoaaDoor

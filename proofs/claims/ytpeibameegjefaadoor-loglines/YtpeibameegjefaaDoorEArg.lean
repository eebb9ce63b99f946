/-
  A slice of edges, an event that came in: they can be read.
-/
import Derived.Test.YtpeibameegjefaaDoorJ2
import Derived.Deep.SlicePairs
import Derived.Lib.SmallJoins
namespace Go.Proofs.YtpeibameegjefaaDoor
open Go.RowKit Go.ChangeShapes Go.WideShapes

/-- It can be read: edges side by side. -/
def IsEdges (w : World) (a : Option Addr) (len cap : Nat) : Prop :=
  ∃ es : List (Nat × Nat), es.length = len ∧ RdE w (.slice a len cap) es ∧ (∀ e ∈ es, e.1 < 4294967296 ∧ e.2 < 4294967296)

theorem cellsEdge : Tryd.prog.cellsOf 57 = 2 := by kernel_rfl
theorem cellsEvent : Tryd.prog.cellsOf 61 = 4 := by kernel_rfl
theorem cellsU32 : Tryd.prog.cellsOf 55 = 1 := by kernel_rfl
theorem cellsI64 : Tryd.prog.cellsOf 2 = 1 := by kernel_rfl
theorem cellsBool : Tryd.prog.cellsOf 4 = 1 := by kernel_rfl

theorem u32_nat {z : Int} (h : (Lit.int .u32 z).wf = true) : ∃ n : Nat, z = (n : Int) ∧ n < 4294967296 := ⟨z.toNat, by have := bounds_u32 h; omega⟩

set_option maxRecDepth 4000 in
theorem isEdges_open {H : Type} {enc : TypeId × Value → H} {W : World} {fuel : Nat} {a : Option Addr} {len cap : Nat} {x : DataW H × List MemPlace} (h : DataW.trod enc Tryd.prog W 0 (fun _ => true) true fuel 67 [.slice a len cap] = some x) : IsEdges W a len cap := by
  rcases Go.Deep.open_slice_pairs Tryd.underlying67 Tryd.underlying57 cellsEdge rfl rfl cellsU32 cellsU32 h with ⟨e, -⟩ | ⟨a', len', cap', m, n, V0, V1, D0, D1, P0, P1, e, -, hl, -, hm, -, hr⟩
  · simp only [List.cons.injEq, Value.slice.injEq, and_true] at e
    obtain ⟨rfl, rfl, rfl⟩ := e
    exact ⟨[], rfl, ⟨rfl, none, 0, rfl, Nat.le_refl _, fun h => by simp at h⟩, by simp⟩
  · simp only [List.cons.injEq, Value.slice.injEq, and_true] at e
    obtain ⟨rfl, rfl, rfl⟩ := e
    rw [if_pos rfl] at hm
    have each : ∀ i, i < len → ∃ p : Nat × Nat, W.cell? (a'.add (i * 2)) = some (.int .u32 (p.1 : Int)) ∧ W.cell? (a'.add (i * 2 + 1)) = some (.int .u32 (p.2 : Int)) ∧ p.1 < 4294967296 ∧ p.2 < 4294967296 := fun i hi => by
      obtain ⟨h0, h1, t0, t1⟩ := hr i (by omega)
      obtain ⟨z0, e0, -, g0⟩ := DataW.trod_int Tryd.underlying55 t0
      obtain ⟨z1, e1, -, g1⟩ := DataW.trod_int Tryd.underlying55 t1
      obtain ⟨n0, rfl, b0⟩ := u32_nat g0
      obtain ⟨n1, rfl, b1⟩ := u32_nat g1
      simp only [List.cons.injEq, and_true] at e0 e1
      exact ⟨(n0, n1), by rw [h0, e0], by rw [h1, e1], b0, b1⟩
    obtain ⟨f, hf⟩ : ∃ f : Nat → Nat × Nat, ∀ i, i < len → W.cell? (a'.add (i * 2)) = some (.int .u32 ((f i).1 : Int)) ∧ W.cell? (a'.add (i * 2 + 1)) = some (.int .u32 ((f i).2 : Int)) ∧ (f i).1 < 4294967296 ∧ (f i).2 < 4294967296 := by
      refine ⟨fun r => if h : r < len then (each r h).choose else (0, 0), fun r hrl => ?_⟩
      simp only [hrl, dif_pos]
      exact (each r hrl).choose_spec
    have hel : ((List.range len).map f).length = len := by simp
    have hget : ∀ i, i < len → ((List.range len).map f)[i]? = some (f i) := fun i hi => by simp [hi]
    refine ⟨(List.range len).map f, hel, ⟨erow_length _, some a', cap, by rw [hel], by rw [hel]; exact hl, fun hp => ?_⟩, fun e he => ?_⟩
    · have h0 : 0 < len := by rw [hel] at hp; exact hp
      obtain ⟨b, off, rfl⟩ := spot_none (hf 0 h0).1
      refine ⟨b, off, rfl, fun j u hj => ?_⟩
      have hjl : j < len * 2 := by
        have := (List.getElem?_eq_some_iff.1 hj).1
        rw [erow_length, hel] at this
        exact this
      obtain ⟨i, hi⟩ : ∃ i, j = i * 2 ∨ j = i * 2 + 1 := ⟨j / 2, by omega⟩
      have hil : i < len := by omega
      obtain ⟨g0, g1⟩ := erow_get _ i _ (hget i hil)
      obtain ⟨c0, c1, -⟩ := hf i hil
      rw [add_none] at c0 c1
      rcases hi with rfl | rfl
      · rw [g0] at hj
        simp only [Option.some.injEq] at hj
        rw [c0, hj]
      · rw [g1] at hj
        simp only [Option.some.injEq] at hj
        rw [c1, hj]
    · obtain ⟨r, hrl, rfl⟩ := List.mem_map.1 he
      exact (hf r (List.mem_range.1 hrl)).2.2

set_option maxRecDepth 4000 in
theorem event_open {H : Type} {enc : TypeId × Value → H} {W : World} {r : Reach} {b0 base : Nat} {spare : Nat → Bool} {held : Bool} {v : Value} {d : DataW H} {p : List MemPlace} (hv : Value.okWide Tryd.prog W r b0 61 v) (h : DataW.Trod enc Tryd.prog W base spare held 61 v d p) :
    ∃ (t : Int) (u y : Nat) (b : Bool), v = eventV t (u, y) b ∧ (Lit.int .i64 t).wf = true ∧ u < 4294967296 ∧ y < 4294967296 := by
  obtain ⟨cs, rfl, hsz⟩ := okWide_struct Tryd.underlying61 hv
  obtain ⟨c0, c1, c2, c3, rfl⟩ := Go.Joins.array4 (hsz.trans cellsEvent)
  obtain ⟨fuel, hf⟩ := h
  obtain ⟨y0, y1, y2, n, -, -, h0, h1, h2⟩ := Go.Deep.trod_struct3 Tryd.underlying61 hf
  simp only [cellsEdge, cellsI64, cellsBool, Value.cells] at h0 h1 h2
  obtain ⟨t, e0, -, w0⟩ := DataW.trod_int Tryd.underlying2 h0
  obtain ⟨z0, z1, m, -, -, g0, g1⟩ := trod_struct2 Tryd.underlying57 h1
  simp only [cellsU32] at g0 g1
  obtain ⟨x0, e1, -, w1⟩ := DataW.trod_int Tryd.underlying55 g0
  obtain ⟨x1, e2, -, w2⟩ := DataW.trod_int Tryd.underlying55 g1
  obtain ⟨b, e3, -⟩ := DataW.trod_bool Tryd.underlying4 h2
  obtain ⟨n0, rfl, b0⟩ := u32_nat w1
  obtain ⟨n1, rfl, b1⟩ := u32_nat w2
  simp at e0 e1 e2 e3
  subst e0 e1 e2 e3
  exact ⟨t, n0, n1, b, rfl, w0, b0, b1⟩

end Go.Proofs.YtpeibameegjefaaDoor

/-
  Events, a history that came in: they can be read.
-/
import Derived.Test.YtpeibameegjefaaDoorEArg
import Derived.Test.YtpeibameegjefaaDoorJ2
namespace Go.Proofs.YtpeibameegjefaaDoor
open Go.RowKit Go.ChangeShapes Go.WideShapes

def IsEvents (w : World) (a : Option Addr) (len cap : Nat) : Prop :=
  ∃ es : List Ev, es.length = len ∧ RdV w (.slice a len cap) es ∧ (∀ x ∈ es, EvFit x)

set_option maxRecDepth 4000 in
theorem ev_of_trod {H : Type} {enc : TypeId × Value → H} {W : World} {b0 : Nat} {spare : Nat → Bool} {held : Bool} {fuel : Nat} {cs : List Value} {x : DataW H × List MemPlace} (hl : cs.length = 4) (h : DataW.trod enc Tryd.prog W b0 spare held fuel 61 cs = some x) :
    ∃ y : Ev, cs = encV y ∧ EvFit y := by
  obtain ⟨y0, y1, y2, n, -, -, h0, h1, h2⟩ := Go.Deep.trod_struct3 Tryd.underlying61 h
  match cs, hl with
  | [c0, c1, c2, c3], _ =>
    simp only [cellsEdge, cellsI64, cellsBool] at h0 h1 h2
    obtain ⟨t, e0, -, w0⟩ := DataW.trod_int Tryd.underlying2 h0
    obtain ⟨z0, z1, m, -, -, g0, g1⟩ := trod_struct2 Tryd.underlying57 h1
    simp only [cellsU32] at g0 g1
    obtain ⟨x0, e1, -, w1⟩ := DataW.trod_int Tryd.underlying55 g0
    obtain ⟨x1, e2, -, w2⟩ := DataW.trod_int Tryd.underlying55 g1
    obtain ⟨b, e3, -⟩ := DataW.trod_bool Tryd.underlying4 h2
    obtain ⟨n0, rfl, b0⟩ := u32_nat w1
    obtain ⟨n1, rfl, b1⟩ := u32_nat w2
    simp at e0 e1 e2 e3
    subst e0 e1 e2 e3
    have ht := bounds_i64 w0
    exact ⟨(t, (n0, n1), b), rfl, by omega, b0, b1⟩

set_option maxRecDepth 4000 in
theorem isEvents_open {H : Type} {enc : TypeId × Value → H} {W : World} {b0 : Nat} {sp : Nat → Bool} {held : Bool} {fuel : Nat} {a : Option Addr} {len cap : Nat} {x : DataW H × List MemPlace} (h : DataW.trod enc Tryd.prog W b0 sp held fuel 23 [.slice a len cap] = some x) : IsEvents W a len cap := by
  rcases Go.Deep.open_slice Tryd.underlying23 h with ⟨e, -⟩ | ⟨a', len', cap', m, n, D, Pl, e, hb, hl, hcm, hm, -, hr⟩
  · simp only [List.cons.injEq, Value.slice.injEq, and_true] at e
    obtain ⟨rfl, rfl, rfl⟩ := e
    exact ⟨[], rfl, RdV.nil W, by simp⟩
  · simp only [List.cons.injEq, Value.slice.injEq, and_true] at e
    obtain ⟨rfl, rfl, rfl⟩ := e
    have hlm : len ≤ m := by rw [hm]; split <;> omega
    have each : ∀ i, i < len → ∃ y : Ev, (∀ j, j < 4 → W.cell? (a'.add (i * 4 + j)) = (encV y)[j]?) ∧ EvFit y := fun i hi => by
      obtain ⟨cs', h1, h2⟩ := hr i (by omega)
      rw [cellsEvent] at h1
      obtain ⟨-, hlen, hcell⟩ := World.cells?_some h1
      obtain ⟨y, rfl, hy⟩ := ev_of_trod hlen h2
      refine ⟨y, fun j hj => ?_, hy⟩
      have := hcell j hj
      rwa [Go.Deep.add_add] at this
    obtain ⟨f, hf⟩ : ∃ f : Nat → Ev, ∀ i, i < len → (∀ j, j < 4 → W.cell? (a'.add (i * 4 + j)) = (encV (f i))[j]?) ∧ EvFit (f i) := by
      refine ⟨fun r => if h : r < len then (each r h).choose else (0, (0, 0), false), fun r hrl => ?_⟩
      simp only [hrl, dif_pos]
      exact (each r hrl).choose_spec
    have hel : ((List.range len).map f).length = len := by simp
    have hget : ∀ i, i < len → ((List.range len).map f)[i]? = some (f i) := fun i hi => by simp [hi]
    refine ⟨(List.range len).map f, hel, ⟨vrow_length _, some a', cap, by rw [hel], by rw [hel]; exact hl, fun hp => ?_⟩, fun y hy => ?_⟩
    · have h0 : 0 < len := by rw [hel] at hp; exact hp
      have hc0 : W.cell? (a'.add 0) = some (.int .i64 (f 0).1) := (hf 0 h0).1 0 (by omega)
      obtain ⟨b, off, rfl⟩ := spot_none hc0
      refine ⟨b, off, rfl, fun j u hj => ?_⟩
      have hjl : j < len * 4 := by
        have := (List.getElem?_eq_some_iff.1 hj).1
        rw [vrow_length, hel] at this
        exact this
      obtain ⟨i, r, hr4, rfl⟩ : ∃ i r, r < 4 ∧ j = i * 4 + r := ⟨j / 4, j % 4, Nat.mod_lt _ (by omega), by omega⟩
      have hil : i < len := by omega
      obtain ⟨g0, g1, g2, g3⟩ := vrow_get _ i _ (hget i hil)
      have hc := (hf i hil).1 r hr4
      rw [add_none] at hc
      rw [hc]
      match r, hr4 with
      | 0, _ => rw [Nat.add_zero, g0] at hj; exact hj
      | 1, _ => rw [g1] at hj; exact hj
      | 2, _ => rw [g2] at hj; exact hj
      | 3, _ => rw [g3] at hj; exact hj
    · obtain ⟨r, hrl, rfl⟩ := List.mem_map.1 hy
      exact (hf r (List.mem_range.1 hrl)).2

theorem cellsU64 : Tryd.prog.cellsOf 22 = 1 := by kernel_rfl
theorem cellsEvs : Tryd.prog.cellsOf 23 = 1 := by kernel_rfl
theorem cellsHist : Tryd.prog.cellsOf 25 = 2 := by kernel_rfl
theorem u64_nat {z : Int} (h : (Lit.int .u64 z).wf = true) : ∃ n : Nat, z = (n : Int) ∧ n < 18446744073709551616 := ⟨z.toNat, by have := bounds_u64 h; omega⟩
set_option maxRecDepth 4000 in
/-- A history that came in. -/
theorem hist_open {H : Type} {enc : TypeId × Value → H} {W : World} {r : Reach} {b0 base : Nat} {spare : Nat → Bool} {held : Bool} {v : Value} {d : DataW H} {p : List MemPlace} (hv : Value.okWide Tryd.prog W r b0 25 v) (h : DataW.Trod enc Tryd.prog W base spare held 25 v d p) :
    ∃ (n : Nat) (a : Option Addr) (len cap : Nat), v = histV n (.slice a len cap) ∧ n < 18446744073709551616 ∧ IsEvents W a len cap := by
  obtain ⟨cs, rfl, hsz⟩ := okWide_struct Tryd.underlying25 hv
  rw [cellsHist] at hsz
  obtain ⟨c0, c1, rfl⟩ : ∃ c0 c1, cs = #[c0, c1] := by
    obtain ⟨l⟩ := cs
    match l, hsz with
    | [c0, c1], _ => exact ⟨c0, c1, rfl⟩
  obtain ⟨fuel, hf⟩ := h
  obtain ⟨y0, y1, n, -, -, h0, h1⟩ := trod_struct2 Tryd.underlying25 hf
  simp only [cellsU64, cellsEvs, Value.cells] at h0 h1
  obtain ⟨z, e0, -, w0⟩ := DataW.trod_int Tryd.underlying22 h0
  obtain ⟨n0, rfl, b0⟩ := u64_nat w0
  simp at e0 h1
  subst e0
  obtain ⟨a, len, cap, rfl⟩ : ∃ a len cap, c1 = .slice a len cap := by
    rcases Go.Deep.open_slice Tryd.underlying23 h1 with ⟨e, -⟩ | ⟨a', len', cap', m, n, D, Pl, e, -⟩
    · simp at e; exact ⟨none, 0, 0, e⟩
    · simp at e; exact ⟨some a', len', cap', e⟩
  exact ⟨n0, a, len, cap, rfl, b0, isEvents_open h1⟩

end Go.Proofs.YtpeibameegjefaaDoor

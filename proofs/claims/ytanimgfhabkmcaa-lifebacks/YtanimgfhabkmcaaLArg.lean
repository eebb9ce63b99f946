/-
  Lives, a life that came in: they can be read.
-/
import Derived.Test.YtanimgfhabkmcaaEArg
import Derived.Test.YtanimgfhabkmcaaJ1
namespace Go.Proofs.Ytanimgfhabkmcaa
open Go.RowKit Go.ChangeShapes Go.WideShapes

theorem cellsLife : Try.prog.cellsOf 56 = 4 := by kernel_rfl
def IsLives (w : World) (a : Option Addr) (len cap : Nat) : Prop :=
  ∃ es : List Lf, es.length = len ∧ RdL w (.slice a len cap) es ∧ (∀ x ∈ es, LfFit x)

set_option maxRecDepth 4000 in
theorem lf_of_trod {H : Type} {enc : TypeId × Value → H} {W : World} {b0 : Nat} {spare : Nat → Bool} {held : Bool} {fuel : Nat} {cs : List Value} {x : DataW H × List MemPlace} (hl : cs.length = 4) (h : DataW.trod enc Try.prog W b0 spare held fuel 56 cs = some x) :
    ∃ y : Lf, cs = encL y ∧ LfFit y := by
  obtain ⟨y0, y1, y2, n, -, -, h0, h1, h2⟩ := Go.Deep.trod_struct3 Try.underlying56 h
  match cs, hl with
  | [c0, c1, c2, c3], _ =>
    simp only [cellsEdge, cellsI64] at h0 h1 h2
    obtain ⟨z0, z1, m, -, -, g0, g1⟩ := trod_struct2 Try.underlying54 h0
    simp only [cellsU32] at g0 g1
    obtain ⟨x0, e1, -, w1⟩ := DataW.trod_int Try.underlying52 g0
    obtain ⟨x1, e2, -, w2⟩ := DataW.trod_int Try.underlying52 g1
    obtain ⟨t, e0, -, w0⟩ := DataW.trod_int Try.underlying2 h1
    obtain ⟨t2, e3, -, w3⟩ := DataW.trod_int Try.underlying2 h2
    obtain ⟨n0, rfl, b0⟩ := u32_nat w1
    obtain ⟨n1, rfl, b1⟩ := u32_nat w2
    simp at e0 e1 e2 e3
    subst e0 e1 e2 e3
    have ht := bounds_i64 w0
    have ht2 := bounds_i64 w3
    exact ⟨((n0, n1), t, t2), rfl, ⟨b0, b1⟩, by dsimp only; omega, by dsimp only; omega⟩

set_option maxRecDepth 4000 in
theorem isLives_open {H : Type} {enc : TypeId × Value → H} {W : World} {b0 : Nat} {sp : Nat → Bool} {held : Bool} {fuel : Nat} {a : Option Addr} {len cap : Nat} {x : DataW H × List MemPlace} (h : DataW.trod enc Try.prog W b0 sp held fuel 31 [.slice a len cap] = some x) : IsLives W a len cap := by
  rcases Go.Deep.open_slice Try.underlying31 h with ⟨e, -⟩ | ⟨a', len', cap', m, n, D, Pl, e, hb, hl, hcm, hm, -, hr⟩
  · simp only [List.cons.injEq, Value.slice.injEq, and_true] at e
    obtain ⟨rfl, rfl, rfl⟩ := e
    exact ⟨[], rfl, RdL.nil W, by simp⟩
  · simp only [List.cons.injEq, Value.slice.injEq, and_true] at e
    obtain ⟨rfl, rfl, rfl⟩ := e
    have hlm : len ≤ m := by rw [hm]; split <;> omega
    have each : ∀ i, i < len → ∃ y : Lf, (∀ j, j < 4 → W.cell? (a'.add (i * 4 + j)) = (encL y)[j]?) ∧ LfFit y := fun i hi => by
      obtain ⟨cs', h1, h2⟩ := hr i (by omega)
      rw [cellsLife] at h1
      obtain ⟨-, hlen, hcell⟩ := World.cells?_some h1
      obtain ⟨y, rfl, hy⟩ := lf_of_trod hlen h2
      refine ⟨y, fun j hj => ?_, hy⟩
      have := hcell j hj
      rwa [Go.Deep.add_add] at this
    obtain ⟨f, hf⟩ : ∃ f : Nat → Lf, ∀ i, i < len → (∀ j, j < 4 → W.cell? (a'.add (i * 4 + j)) = (encL (f i))[j]?) ∧ LfFit (f i) := by
      refine ⟨fun r => if h : r < len then (each r h).choose else ((0, 0), 0, 0), fun r hrl => ?_⟩
      simp only [hrl, dif_pos]
      exact (each r hrl).choose_spec
    have hel : ((List.range len).map f).length = len := by simp
    have hget : ∀ i, i < len → ((List.range len).map f)[i]? = some (f i) := fun i hi => by simp [hi]
    refine ⟨(List.range len).map f, hel, ⟨lrow_length _, some a', cap, by rw [hel], by rw [hel]; exact hl, fun hp => ?_⟩, fun y hy => ?_⟩
    · have h0 : 0 < len := by rw [hel] at hp; exact hp
      have hc0 : W.cell? (a'.add 0) = some (.int .u32 ((f 0).1.1 : Int)) := (hf 0 h0).1 0 (by omega)
      obtain ⟨b, off, rfl⟩ := spot_none hc0
      refine ⟨b, off, rfl, fun j u hj => ?_⟩
      have hjl : j < len * 4 := by
        have := (List.getElem?_eq_some_iff.1 hj).1
        rw [lrow_length, hel] at this
        exact this
      obtain ⟨i, r, hr4, rfl⟩ : ∃ i r, r < 4 ∧ j = i * 4 + r := ⟨j / 4, j % 4, Nat.mod_lt _ (by omega), by omega⟩
      have hil : i < len := by omega
      obtain ⟨g0, g1, g2, g3⟩ := lrow_get _ i _ (hget i hil)
      have hc := (hf i hil).1 r hr4
      rw [add_none] at hc
      rw [hc]
      match r, hr4 with
      | 0, _ => rw [Nat.add_zero, g0] at hj; exact hj
      | 1, _ => rw [g1] at hj; exact hj
      | 2, _ => rw [g2] at hj; exact hj
      | 3, _ => rw [g3] at hj; exact hj
    · obtain ⟨r, hrl, rfl⟩ := List.mem_map.1 hy
      exact (hf r (List.mem_range.1 hrl)).2

set_option maxRecDepth 4000 in
/-- A life that came in. -/
theorem life_open {H : Type} {enc : TypeId × Value → H} {W : World} {r : Reach} {b0 base : Nat} {spare : Nat → Bool} {held : Bool} {v : Value} {d : DataW H} {p : List MemPlace} (hv : Value.okWide Try.prog W r b0 56 v) (h : DataW.Trod enc Try.prog W base spare held 56 v d p) :
    ∃ (u y : Nat) (f g : Int), v = lifeV ((u, y), f, g) ∧ LfFit ((u, y), f, g) := by
  obtain ⟨cs, rfl, hsz⟩ := okWide_struct Try.underlying56 hv
  obtain ⟨c0, c1, c2, c3, rfl⟩ := Go.Joins.array4 (hsz.trans cellsLife)
  obtain ⟨fuel, hf⟩ := h
  obtain ⟨x, hx, hfit⟩ := lf_of_trod (cs := [c0, c1, c2, c3]) rfl hf
  obtain ⟨⟨u, y⟩, f, g⟩ := x
  simp only [encL, List.cons.injEq, and_true] at hx
  obtain ⟨rfl, rfl, rfl, rfl⟩ := hx
  exact ⟨u, y, f, g, rfl, hfit⟩

end Go.Proofs.Ytanimgfhabkmcaa

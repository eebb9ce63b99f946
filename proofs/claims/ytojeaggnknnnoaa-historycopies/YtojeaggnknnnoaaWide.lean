/-
  Slices whose elements take several cells each: read, and appended to. No program is named here.
-/
import Derived.Test.YtojeaggnknnnoaaMem
namespace Go.Proofs.Ytojeaggnknnnoaa
open Go.RowKit

/-- A slice of m elements of so many cells each that can be read: the cells xs. -/
def HoldsN (size : Nat) (w : World) (v : Value) (m : Nat) (xs : List Value) : Prop :=
  xs.length = m * size ∧ ∃ ao cap, v = .slice ao m cap ∧ m ≤ cap ∧ (0 < m → ∃ b off, ao = some ⟨b, off, none⟩ ∧ ∀ j u, xs[j]? = some u → w.cell? ⟨b, off + j, none⟩ = some u)

theorem HoldsN.keep {size : Nat} {w w' : World} {v : Value} {m : Nat} {xs : List Value} (h : HoldsN size w v m xs) (f : Fr w w' (fun _ => False)) : HoldsN size w' v m xs := by
  obtain ⟨hl, ao, cap, rfl, hlc, hc⟩ := h
  refine ⟨hl, ao, cap, rfl, hlc, fun hp => ?_⟩
  obtain ⟨b, off, rfl, hcell⟩ := hc hp
  refine ⟨b, off, rfl, fun j u hj => ?_⟩
  have h1 := hcell j u hj
  have h2 := World.block_lt_of_cell? _ _ h1
  rw [World.cell?_of_block (w := w) (f.block _ h2 (fun h => h))]
  exact h1
theorem HoldsN.frame {size : Nat} {w w' : World} {v : Value} {m : Nat} {xs : List Value} {S : Nat → Prop} (h : HoldsN size w v m xs) (f : Fr w w' S) (hs : 0 < m → ∀ k, v.ownBlock = some k → ¬ S k) : HoldsN size w' v m xs := by
  obtain ⟨hl, ao, cap, rfl, hlc, hc⟩ := h
  refine ⟨hl, ao, cap, rfl, hlc, fun hp => ?_⟩
  obtain ⟨b, off, rfl, hcell⟩ := hc hp
  refine ⟨b, off, rfl, fun j u hj => ?_⟩
  have h1 := hcell j u hj
  have h2 := World.block_lt_of_cell? _ _ h1
  rw [World.cell?_of_block (w := w) (f.block _ h2 (hs hp _ rfl))]
  exact h1
theorem holdsN_own {size : Nat} {w : World} {e : TypeId} {v : Value} {n : Nat} {xs : List Value} (h : w.ownsRow 0 e size v n xs) : HoldsN size w v n xs := by
  refine ⟨h.1, ?_⟩
  rcases h.2 with ⟨rfl, h0⟩ | ⟨g, cap, cur, rfl, _, _, hcc, _⟩
  · exact ⟨_, 0, by rw [h0], by omega, fun hp => by omega⟩
  · exact ⟨some ⟨g, 0, _⟩, cap, rfl, hcc, fun _ => ⟨g, 0, rfl, fun j u hj => by have := h.cells rfl j u hj; rwa [add_none] at this⟩⟩
theorem HoldsN.take {size : Nat} {w : World} {ao : Option Addr} {len cap : Nat} {xs : List Value} (h : HoldsN size w (.slice ao len cap) len xs) (n : Nat) (hn : n ≤ len) : HoldsN size w (.slice ao n cap) n (xs.take (n * size)) := by
  obtain ⟨hl, ao', cap0, e, hlc, hc⟩ := h
  simp only [Value.slice.injEq, true_and] at e
  obtain ⟨rfl, rfl⟩ := e
  have hle : n * size ≤ len * size := Nat.mul_le_mul_right _ hn
  refine ⟨by rw [List.length_take]; omega, ao, cap, rfl, by omega, fun hp => ?_⟩
  obtain ⟨b, off, rfl, hcell⟩ := hc (by omega)
  refine ⟨b, off, rfl, fun j u hj => hcell j u ?_⟩
  rw [List.getElem?_take] at hj
  split at hj
  · exact hj
  · cases hj
theorem holdsN_lit (size : Nat) (w : World) (e : TypeId) (n : Nat) (cs : List Value) (hl : cs.length = n * size) (h : n ≤ 1000) : HoldsN size (w.alloc (.cells cs.toArray e)) (.slice (some ⟨w.heap.size, 0, Option.none⟩) n n) n cs := by
  have := World.ownsRow_lit (e := e) (size := size) (base := 0) w cs.toArray n (Nat.zero_le _) (by unfold maxLen; omega) (by simpa using hl)
  have := holdsN_own this
  simpa using this

/-- append onto a slice that the call owns, of a slice that can be read. -/
theorem run_append_wide {P : Program} (w : World) (t ty e : TypeId) (i : TypeInfo) (z : Value) (size bytes : Nat) (ht : P.underlying t = some (.slice e)) (hi : P.info? e = some i) (hz : i.zero = some z)
    (hsize : i.size = size) (hby : i.bytes = bytes) (hzs : z.cells.size = size) (hsz : 0 < size) (hb8 : bytes ≤ 1000) (v : Value) (n : Nat) (xs : List Value) (hown : w.ownsRow 0 e size v n xs) (u : Value) (m : Nat) (ys : List Value) (hu : HoldsN size w u m ys)
    (h1 : ∀ y ∈ ys, y.oneCell' = true) (hb : n + m ≤ 100000000000) :
    ∃ v' w', (Builtin.append_ #[t, t] ty #[v, u]).run P w = .ok v' w' ∧ w'.ownsRow 0 e size v' (n + m) (xs ++ ys) ∧ Fr w w' (fun k => v.ownBlock = some k) ∧ Moved w v v' := by
  obtain ⟨hl, ao, cap, rfl, hlc, hc⟩ := hu
  have hbb : (n + m) * bytes ≤ 140737488355328 := by
    have := Nat.mul_le_mul hb hb8
    omega
  by_cases h0 : 0 < m
  · obtain ⟨b, off, rfl, hcell⟩ := hc h0
    have hnews : ∀ j u, ys[j]? = some u → w.cell? ((⟨b, off, Option.none⟩ : Addr).add j) = some u := fun j u hj => by rw [add_none]; exact hcell j u hj
    obtain ⟨v', w', hr, ho, hg, _, hat⟩ := run_append_own_at (P := P) w 0 t ty e i z size bytes ht hi hz hsize hby hzs hsz v n xs hown ⟨b, off, Option.none⟩ m cap ys hl hnews h1 (by unfold maxLen; omega) hbb (Nat.zero_le _)
    refine ⟨v', w', hr, ho, (Fr.refl w _).grown hg (fun k hk _ => hk), fun k hk => ?_⟩
    rcases hat with hat | hat
    · exact .inl (hat ▸ hk)
    · rw [hat] at hk; simp at hk; exact .inr (by omega)
  · have e0 : m = 0 := by omega
    subst e0
    have e1 : ys = [] := List.eq_nil_of_length_eq_zero (by omega)
    subst e1
    refine ⟨v, w, ?_, by simpa using hown, Fr.refl _ _, Moved.refl _ _⟩
    cases ao with
    | none =>
      by_cases hc0 : cap = 0
      · subst hc0
        exact run_append_owned_none (P := P) w 0 t ty e i size ht hi v n xs hown
      · rcases hown.2 with ⟨rfl, rfl⟩ | ⟨g, cp, cur, rfl, _, _, hnc, _⟩
        · simp [Builtin.append_, run_underlying ht, sizeOf, typeInfo, hi, Builtin.lenOf, Builtin.firstCells]
        · simp [Builtin.append_, run_underlying ht, sizeOf, typeInfo, hi, Builtin.lenOf, Builtin.firstCells, hnc, storeCells]
    | some a =>
      rcases hown.2 with ⟨rfl, rfl⟩ | ⟨g, cp, cur, rfl, _, _, hnc, _⟩
      · simp [Builtin.append_, run_underlying ht, sizeOf, typeInfo, hi, Builtin.lenOf, Builtin.firstCells, loadCells, loadCellsFrom]
      · simp [Builtin.append_, run_underlying ht, sizeOf, typeInfo, hi, Builtin.lenOf, Builtin.firstCells, loadCells, loadCellsFrom, hnc, storeCells]

end Go.Proofs.Ytojeaggnknnnoaa

/-
  A place out of any number; ints that come in; two writers lie apart.
-/
import Derived.Test.YtdbbngppdcpcgaaKHelp
namespace Go.Proofs.Ytdbbngppdcpcgaa.codePlays
open Go.ChangeShapes Go.WideShapes Go.ChangeAt Go.RowKit

theorem readsZ_isRow {w : World} {a : Option Addr} {len cap : Nat} {zs : List Int} (h : IsRow .i64 w a len cap zs) : ∃ rs : List Int, rs.length = len ∧ (∀ z ∈ rs, -9223372036854775808 ≤ z ∧ z ≤ 9223372036854775807) ∧ ReadsZ w (.slice a len cap) rs := by
  rcases h with ⟨rfl, rfl, rfl, rfl⟩ | ⟨x, rfl, hl, _, hz, hc, hw⟩
  · exact ⟨[], rfl, fun z hz => (by cases hz), ⟨Option.none, 0, rfl, Nat.le_refl _, fun h => by simp [zrow] at h⟩⟩
  · refine ⟨zs.take len, by simp; omega, fun z hz => ?_, ⟨some x, cap, by rw [zrow_length, List.length_take, Nat.min_eq_left (by omega)], by rw [zrow_length, List.length_take]; omega, fun hp => ?_⟩⟩
    · have := bounds_i64 (hw z (List.mem_of_mem_take hz))
      omega
    · rw [zrow_length, List.length_take] at hp
      obtain ⟨b, off, rfl⟩ := spot_none (hc 0 (by omega))
      refine ⟨b, off, rfl, fun j u hj => ?_⟩
      have hjl : j < len := by
        have := (List.getElem?_eq_some_iff.1 hj).1
        rw [zrow_length, List.length_take] at this
        omega
      have hcj := hc j (by omega)
      rw [add_none] at hcj
      rw [hcj]
      have hzj : j < zs.length := by omega
      simp only [zrow, List.getElem?_map, List.getElem?_take, hjl, if_true, List.getElem?_eq_getElem hzj, Option.map_some, Option.some.injEq] at hj
      rw [← hj, List.getD_eq_getElem?_getD, List.getElem?_eq_getElem hzj]
      rfl
theorem ku8 (n : Int) (h : (Lit.int .u8 n).wf = true) : 0 ≤ n ∧ n < (256 : Nat) := by have := bounds_u8 h; omega
/-- The place out of any number. -/
theorem place_any (s : Int) (n : Nat) (w : World) (hn : 0 < n) (hn2 : n ≤ 1000) :
    Calls Try.prog 17 #[.int .i64 s, .int .i64 (n : Int)] w fun e w' => ∃ z : Int, e = .returned (.int .i64 z) ∧ -9223372036854775808 ≤ z ∧ z ≤ 9223372036854775807 ∧ w' = w := by
  have hn0 : ¬ n = 0 := by omega
  have hn3 : ((n : Int) == 0) = false := by rw [beq_eq_false_iff_ne]; omega
  obtain ⟨m, hm⟩ : ∃ m, m = s.tmod (n : Int) := ⟨_, rfl⟩
  have hmb : -1000 ≤ m ∧ m ≤ 1000 := by
    have e1 := Int.tmod_lt_of_pos s (b := (n : Int)) (by omega)
    have e2 := Int.lt_tmod_of_pos s (b := (n : Int)) (by omega)
    rw [← hm] at e1 e2
    omega
  have hm' := hm.symm
  have wm : IntKind.i64.wrap m = m := IntWalk.i64_in _ (by omega)
  have wmn : IntKind.i64.wrap (m + (n : Int)) = m + (n : Int) := IntWalk.i64_in _ (by omega)
  clear hm
  go_enter Try.func17, Try.ntmps17
  by_cases h0 : m < 0
  · have hd : decide (m < 0) = true := decide_eq_true h0
    go_wp2
    go_ret
    exact ⟨_, rfl, by omega, by omega, rfl⟩
  · have hd : decide (m < 0) = false := decide_eq_false h0
    go_wp2
    go_ret
    exact ⟨_, rfl, by omega, by omega, rfl⟩

theorem writers_apart {w : World} {q qv : Nat} {sv rv : Value} {bl bl' : List Bool} (h : Wr w q sv bl) (h' : RefWr w qv rv bl') : ∀ k, foot q sv k → ¬ foot qv rv k := by
  obtain ⟨hq, bs, -, hbs⟩ := id h
  obtain ⟨hv, hr⟩ := id h'
  intro k h1 h2
  rcases h1 with rfl | h1
  · rcases h2 with rfl | h2
    · rw [hq] at hv
      simp at hv
    · exact absurd (own_elem hr h2 hq) (by decide)
  · rcases h2 with rfl | h2
    · exact absurd (own_elem hbs h1 hv) (by decide)
    · exact own_apart hbs hr (by decide) k h2 h1

end Go.Proofs.Ytdbbngppdcpcgaa.codePlays

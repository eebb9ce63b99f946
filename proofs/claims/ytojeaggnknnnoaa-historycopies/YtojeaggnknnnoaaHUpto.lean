/-
  The contracts of history's fits, Last, Copy, Upto (with sort.Search).
-/
import Derived.Test.YtojeaggnknnnoaaXSame
import Derived.Test.YtojeaggnknnnoaaXHI
namespace Go.Proofs.Ytojeaggnknnnoaa
open Go.RowKit

set_option maxRecDepth 4000 in
set_option maxHeartbeats 400000 in
theorem fits_any (n m : Nat) (w : World) (hn : n < 18446744073709551616) (hm : m ≤ 1000000) : Calls Try.prog 25 #[.int .u64 (n : Int), .int .u64 (m : Int)] w fun r w' =>
    r = .returned (.bool (decide (n ≤ 4294967296))) ∧ Fr w w' (fun _ => False) := by
  have d2 : decide ((m : Int) ≤ 2147483648) = true := decide_eq_true (by omega)
  have d2' : decide (m ≤ 2147483648) = true := decide_eq_true (by omega)
  by_cases h : n ≤ 4294967296
  · have d1 : decide ((n : Int) ≤ 4294967296) = true := decide_eq_true (by omega)
    have d1' : decide (n ≤ 4294967296) = true := decide_eq_true h
    rw [d1']
    go_enter Try.func25, Try.ntmps25
    go_wp2
    go_ret
    exact ⟨rfl, Fr.refl w _⟩
  · have d1 : decide ((n : Int) ≤ 4294967296) = false := decide_eq_false (by omega)
    have d1' : decide (n ≤ 4294967296) = false := decide_eq_false h
    rw [d1']
    go_enter Try.func25, Try.ntmps25
    go_wp2
    go_ret
    exact ⟨rfl, Fr.refl w _⟩

theorem last_nil : lastF [] = -1 := rfl
theorem last_at {evs : List Ev} {m : Nat} {x : Ev} (hm : evs.length = m + 1) (h : evs[m]? = some x) : lastF evs = x.1 := by
  unfold lastF
  rw [List.getLast?_eq_getElem?, hm, Nat.add_sub_cancel, h]

set_option maxRecDepth 4000 in
set_option maxHeartbeats 400000 in
theorem last_any (n : Nat) (v : Value) (evs : List Ev) (w : World) (h : RdV w v evs) (hl : evs.length ≤ 1000000) : Calls Try.prog 16 #[histV n v] w fun r w' =>
    r = .returned (.int .i64 (lastF evs)) ∧ Fr w w' (fun _ => False) := by
  obtain ⟨a0, c0, rfl, hc0⟩ := h.form
  obtain ⟨m, hm⟩ : ∃ m, m = evs.length := ⟨_, rfl⟩
  rw [← hm] at h hl hc0 ⊢
  unfold histV
  by_cases h0 : m = 0
  · have Hres : Hid (lastF evs = -1) := by show _ = _; rw [List.eq_nil_of_length_eq_zero (hm.symm.trans h0)]; rfl
    rw [Hres.out]
    subst h0
    clear hm h
    go_enter Try.func16, Try.ntmps16
    go_wp2
    go_ret
    exact ⟨rfl, (Fr.refl w _).alloc _⟩
  · obtain ⟨m1, hm1⟩ : ∃ j, m = j + 1 := ⟨m - 1, by omega⟩
    obtain ⟨⟨t, ⟨e1, e2⟩, ad⟩, ha⟩ : ∃ a, evs[m1]? = some a := ⟨_, List.getElem?_eq_getElem (by omega)⟩
    have Hres : Hid (lastF evs = t) := last_at (by omega) ha
    rw [Hres.out]
    obtain ⟨bk, off, cap, e3, hbk, hca⟩ := h.get m1 _ ha
    rw [← hm] at e3
    simp only [Value.slice.injEq] at e3
    obtain ⟨rfl, -, rfl⟩ := e3
    have k0 : ∀ o, (w.alloc o).cell? ⟨bk, off + m1 * 4, none⟩ = some (.int .i64 t) := fun o => (hca (w.alloc o) (((Fr.refl w (fun _ => False)).alloc _).mono (fun _ _ h => h.elim))).1
    have hsub : IntKind.i64.wrap ((m : Int) - 1) = (m1 : Int) := by rw [IntWalk.i64_in _ (by omega)]; omega
    have hsub' : wrap64 ((m : Int) - 1) = (m1 : Int) := by rw [IntWalk.wrap64_in _ (by omega)]; omega
    have hlt : (m1 : Int) < (m : Int) := by omega
    have hge : (0 : Int) ≤ (m1 : Int) := by omega
    have d0 : ((m : Int) == 0) = false := by rw [beq_eq_false_iff_ne]; omega
    have d0' : (m == 0) = false := by rw [beq_eq_false_iff_ne]; omega
    clear hca hbk ha hm h hm1 h0
    go_enter Try.func16, Try.ntmps16
    go_wp2
    go_ret
    exact ⟨rfl, (Fr.refl w _).alloc _⟩

end Go.Proofs.Ytojeaggnknnnoaa

/-
  The contract of snap's Degree.
-/
import Derived.Test.YthdlhdeaeaahoaaJ2
import Derived.Deep.CutRange
namespace Go.Proofs.Ythdlhdeaeaahoaa
open Go.RowKit

set_option maxRecDepth 4000 in
set_option maxHeartbeats 800000 in
theorem degree_any (v : Value) (es : List Eg) (x : Nat) (w : World) (h : RdE w v es) (hl : es.length ≤ 1000000) : Calls Try.prog 22 #[v, .int .u32 (x : Int)] w fun r w' => r = .returned (.int .i64 ((degF es x : Nat) : Int)) ∧ Fr w w' (fun _ => False) := by
  obtain ⟨a0, c0, rfl, hc0⟩ := h.form
  obtain ⟨n, hn⟩ : ∃ n, n = es.length := ⟨_, rfl⟩
  obtain ⟨R, hR⟩ : ∃ R, R = degF es x := ⟨_, rfl⟩
  rw [← hn] at h hl hc0 ⊢
  rw [← hR]
  have HR : Hid _ := hR
  have Hr : Hid (RdE w (.slice a0 n c0) es) := h
  have Hn : Hid _ := hn
  clear h hn hR
  go_enter Try.func22, Try.ntmps22
  go_wp2_with fail
  go_loopg [5, 10] n (fun g C I wr => ∃ i d : Nat, g = n - i ∧ i ≤ n ∧ I = .int .i64 (i : Int) ∧ C = .int .i64 (d : Int) ∧ d = degF (es.take i) x ∧ d ≤ i ∧ Fr w wr (fun _ => False))
  case atStart => exact ⟨0, 0, by omega, by omega, rfl, rfl, rfl, by omega, Fr.refl _ _⟩
  case round =>
    obtain ⟨i, d, hg, hi, rfl, rfl, hd, hdi, hf⟩ := hrel
    have Hf : Hid (Fr w wr (fun _ => False)) := hf
    have Hg : Hid _ := hg
    have Hd : Hid _ := hd
    clear hg hd hf
    by_cases hlt : i < n
    · have hin : (i : Int) < (n : Int) := by omega
      have hin' : decide (i < n) = true := decide_eq_true hlt
      obtain ⟨⟨a, b⟩, ha⟩ : ∃ a, es[i]? = some a := ⟨_, List.getElem?_eq_getElem (by rw [← Hn.out]; omega)⟩
      have Hstep : Hid (degF (es.take (i + 1)) x = d + if hasV x (a, b) = true then 1 else 0) := by show _ = _; rw [degF_step ha, Hd.out]
      obtain ⟨bk, off, cap, e3, hbk, hca⟩ := Hr.out.get i _ ha
      simp only [Value.slice.injEq] at e3
      obtain ⟨rfl, -, rfl⟩ := e3
      obtain ⟨k0, k1⟩ := hca wr Hf.out
      have hi0 : (0 : Int) ≤ (i : Int) := by omega
      go_upto_region 5 with fail
      obtain ⟨p, hp⟩ : ∃ p, p = wr.heap.size := ⟨_, rfl⟩
      obtain ⟨w1, hw1⟩ : ∃ x, x = wr.alloc (.cells #[.int .u32 (a : Int), .int .u32 (b : Int)] 48) := ⟨_, rfl⟩
      rw [← hw1, ← hp]
      have hb : w1.heap[p]? = some (.cells #[.int .u32 (a : Int), .int .u32 (b : Int)] 48 (0, 0)) := by rw [hw1, hp]; exact heap_alloc_new _ _
      have Hw1 : Hid (Fr w w1 (fun _ => False)) := by show Fr _ _ _; rw [hw1]; exact Hf.out.alloc _
      clear hw1 hp hca ha hbk k0 k1
      have k0 := two_cell0 hb
      have k1 := two_cell1 hb
      clear hb
      by_cases h1 : a = x
      · have d1 : ((a : Int) == (x : Int)) = true := by simp [h1]
        have d1' : (a == x) = true := by simp [h1]
        have Hs2 : Hid (degF (es.take (i + 1)) x = d + 1) := by show _ = _; rw [Hstep.out, if_pos (by unfold hasV; exact decide_eq_true (.inl h1))]
        clear h1
        go_wp2_with fail
        go_roundg (n - (i + 1))
        case rel => exact ⟨i + 1, d + 1, rfl, by omega, by go_num, by go_num, Hs2.out.symm, by omega, Hw1.out⟩
        case measure => rw [Hg.out]; omega
      · have d1 : ((a : Int) == (x : Int)) = false := by rw [beq_eq_false_iff_ne]; omega
        have d1' : (a == x) = false := by rw [beq_eq_false_iff_ne]; exact h1
        by_cases h2 : b = x
        · have d2 : ((b : Int) == (x : Int)) = true := by simp [h2]
          have d2' : (b == x) = true := by simp [h2]
          have Hs2 : Hid (degF (es.take (i + 1)) x = d + 1) := by show _ = _; rw [Hstep.out, if_pos (by unfold hasV; exact decide_eq_true (.inr h2))]
          clear h2
          go_wp2_with fail
          go_roundg (n - (i + 1))
          case rel => exact ⟨i + 1, d + 1, rfl, by omega, by go_num, by go_num, Hs2.out.symm, by omega, Hw1.out⟩
          case measure => rw [Hg.out]; omega
        · have d2 : ((b : Int) == (x : Int)) = false := by rw [beq_eq_false_iff_ne]; omega
          have d2' : (b == x) = false := by rw [beq_eq_false_iff_ne]; exact h2
          have Hs2 : Hid (degF (es.take (i + 1)) x = d) := by show _ = _; rw [Hstep.out, if_neg (by unfold hasV; rw [decide_eq_false (fun h => h.elim h1 h2)]; simp), Nat.add_zero]
          clear h2
          go_wp2_with fail
          go_roundg (n - (i + 1))
          case rel => exact ⟨i + 1, d, rfl, by omega, by go_num, rfl, Hs2.out.symm, by omega, Hw1.out⟩
          case measure => rw [Hg.out]; omega
    · have hin : ¬ (i : Int) < (n : Int) := by omega
      have hin' : decide (i < n) = false := decide_eq_false hlt
      obtain rfl : R = d := by rw [HR.out, Hd.out, List.take_of_length_le (by rw [← Hn.out]; omega)]
      go_wp2
      go_ret
      exact ⟨rfl, Hf.out⟩

end Go.Proofs.Ythdlhdeaeaahoaa

/-
  The contract of the seat's Time.
-/
import Derived.Test.YthdlhdeaeaahoaaJ1
import Derived.Test.YthdlhdeaeaahoaaJ2
import Derived.Deep.CutRange
namespace Go.Proofs.Ythdlhdeaeaahoaa
open Go.RowKit

def timeF (evs : List Ev) (k : Nat) : Int :=
  if evs.length = 0 ∨ 245 < k then [0, 5, 4611686018427387903, 9223372036854775807, -1, -9223372036854775808].getD (k % 6) 0
  else (evs.getD ((k / 3) % evs.length) (0, (0, 0), false)).1 + ((k % 3 : Nat) : Int) - 1

set_option maxRecDepth 4000 in
set_option maxHeartbeats 1600000 in
theorem seatTime_any (n : Nat) (v : Value) (evs : List Ev) (k : Nat) (w : World) (h : RdV w v evs) (hl : evs.length ≤ 1000000) (hb : ∀ x ∈ evs, 0 ≤ x.1 ∧ x.1 ≤ 4611686018427387903) (hk : k < 256) : Calls Try.prog 10 #[histV n v, .int .u8 (k : Int)] w fun r w' => r = .returned (.int .i64 (timeF evs k)) ∧ Fr w w' (fun _ => False) := by
  obtain ⟨a0, c0, rfl, hc0⟩ := h.form
  obtain ⟨m, hm⟩ : ∃ m, m = evs.length := ⟨_, rfl⟩
  rw [← hm] at h hl hc0 ⊢
  obtain ⟨R, hR⟩ : ∃ R, R = timeF evs k := ⟨_, rfl⟩
  rw [← hR]
  have HR : Hid _ := hR
  have Hr : Hid (RdV w (.slice a0 m c0) evs) := h
  have Hm : Hid _ := hm
  have Hb : Hid _ := hb
  clear h hm hR hb
  unfold histV
  go_enter Try.func10, Try.ntmps10
  go_upto_region 1 with fail
  obtain ⟨p, hp⟩ : ∃ p, p = w.heap.size := ⟨_, rfl⟩
  obtain ⟨wa, hwa⟩ : ∃ wa, wa = w.alloc (.cells #[.int .u64 (n : Int), .slice a0 m c0] 25) := ⟨_, rfl⟩
  rw [← hwa, ← hp]
  have Hb0 : Hid (wa.heap[p]? = some (.cells #[.int .u64 (n : Int), .slice a0 m c0] 25 (0, 0))) := by show _ = _; rw [hwa, hp]; exact heap_alloc_new _ _
  have Hwa : Hid (Fr w wa (fun _ => False)) := by show Fr _ _ _; rw [hwa]; exact (Fr.refl _ _).alloc _
  clear hp hwa
  obtain ⟨B, hB⟩ : ∃ B, B = decide (m = 0 ∨ 245 < k) := ⟨_, rfl⟩
  have HB : Hid _ := hB
  clear hB
  obtain ⟨ca, cb⟩ : wa.cell? ⟨p, 0, none⟩ = some (.int .u64 (n : Int)) ∧ wa.cell? ⟨p, 1, none⟩ = some (.slice a0 m c0) := ⟨two_cell0 Hb0.out, two_cell1 Hb0.out⟩
  go_cut [12] from 5 to 12 (fun V wx => V = .bool B ∧ wx = wa)
  case first =>
    by_cases h0 : m = 0
    · obtain rfl : B = true := by rw [HB.out]; exact decide_eq_true (.inl h0)
      subst h0
      go_wp2_with fail
      go_meet
      case rel => exact ⟨rfl, rfl⟩
    · have d1 : ((m : Int) == 0) = false := by rw [beq_eq_false_iff_ne]; omega
      have d1' : (m == 0) = false := by rw [beq_eq_false_iff_ne]; exact h0
      by_cases h1 : 245 < k
      · obtain rfl : B = true := by rw [HB.out]; exact decide_eq_true (.inr h1)
        have d2 : decide ((245 : Int) < (k : Int)) = true := decide_eq_true (by omega)
        have d2' : decide (245 < k) = true := decide_eq_true h1
        go_wp2_with fail
        go_meet
        case rel => exact ⟨rfl, rfl⟩
      · obtain rfl : B = false := by rw [HB.out]; exact decide_eq_false (fun h => h.elim h0 h1)
        have d2 : decide ((245 : Int) < (k : Int)) = false := decide_eq_false (by omega)
        have d2' : decide (245 < k) = false := decide_eq_false h1
        go_wp2_with fail
        go_meet
        case rel => exact ⟨rfl, rfl⟩
  case rest =>
  obtain ⟨rfl, rfl⟩ := hcut
  rename_i hKc
  refine hKc _ _ ?_
  clear hKc
  cases B with
  | true =>
    have hR2 : R = [0, 5, 4611686018427387903, 9223372036854775807, -1, -9223372036854775808].getD (k % 6) 0 := by
      rw [HR.out]
      unfold timeF
      rw [if_pos (by rw [← Hm.out]; exact of_decide_eq_true HB.out.symm)]
    have h6 : k % 6 = 0 ∨ k % 6 = 1 ∨ k % 6 = 2 ∨ k % 6 = 3 ∨ k % 6 = 4 ∨ k % 6 = 5 := by omega
    clear ca cb
    rcases h6 with h | h | h | h | h | h
    · have m1 : (k : Int).tmod 6 = 0 := by rw [Int.tmod_eq_emod_of_nonneg (by omega)]; omega
      have m2 : (k : Int) % 6 = 0 := by omega
      obtain rfl : R = 0 := by rw [hR2, h]; rfl
      clear h hR2
      go_wp2
      go_ret
      exact ⟨rfl, Hwa.out.alloc _⟩
    · have m1 : (k : Int).tmod 6 = 1 := by rw [Int.tmod_eq_emod_of_nonneg (by omega)]; omega
      have m2 : (k : Int) % 6 = 1 := by omega
      obtain rfl : R = 5 := by rw [hR2, h]; rfl
      clear h hR2
      go_wp2
      go_ret
      exact ⟨rfl, Hwa.out.alloc _⟩
    · have m1 : (k : Int).tmod 6 = 2 := by rw [Int.tmod_eq_emod_of_nonneg (by omega)]; omega
      have m2 : (k : Int) % 6 = 2 := by omega
      obtain rfl : R = 4611686018427387903 := by rw [hR2, h]; rfl
      clear h hR2
      go_wp2
      go_ret
      exact ⟨rfl, Hwa.out.alloc _⟩
    · have m1 : (k : Int).tmod 6 = 3 := by rw [Int.tmod_eq_emod_of_nonneg (by omega)]; omega
      have m2 : (k : Int) % 6 = 3 := by omega
      obtain rfl : R = 9223372036854775807 := by rw [hR2, h]; rfl
      clear h hR2
      go_wp2
      go_ret
      exact ⟨rfl, Hwa.out.alloc _⟩
    · have m1 : (k : Int).tmod 6 = 4 := by rw [Int.tmod_eq_emod_of_nonneg (by omega)]; omega
      have m2 : (k : Int) % 6 = 4 := by omega
      obtain rfl : R = -1 := by rw [hR2, h]; rfl
      clear h hR2
      go_wp2
      go_ret
      exact ⟨rfl, Hwa.out.alloc _⟩
    · have m1 : (k : Int).tmod 6 = 5 := by rw [Int.tmod_eq_emod_of_nonneg (by omega)]; omega
      have m2 : (k : Int) % 6 = 5 := by omega
      obtain rfl : R = -9223372036854775808 := by rw [hR2, h]; rfl
      clear h hR2
      go_wp2
      go_ret
      exact ⟨rfl, Hwa.out.alloc _⟩
  | false =>
    have hnb := of_decide_eq_false HB.out.symm
    have hm0 : 0 < m := by omega
    obtain ⟨i, hi⟩ : ∃ i, i = (k / 3) % m := ⟨_, rfl⟩
    have him : i < m := by rw [hi]; exact Nat.mod_lt _ hm0
    obtain ⟨⟨t, ⟨e1, e2⟩, ad⟩, ha⟩ : ∃ a, evs[i]? = some a := ⟨_, List.getElem?_eq_getElem (by rw [← Hm.out]; omega)⟩
    have htb := Hb.out _ (List.mem_of_getElem? ha)
    obtain ⟨q, hq⟩ : ∃ q, q = k / 3 := ⟨_, rfl⟩
    obtain ⟨r3, hr3⟩ : ∃ q, q = k % 3 := ⟨_, rfl⟩
    have hR2 : R = t + (r3 : Int) - 1 := by
      rw [HR.out]
      unfold timeF
      rw [if_neg (by rw [← Hm.out]; exact hnb), ← Hm.out, ← hi, hr3, List.getD_eq_getElem?_getD, ha]
      rfl
    obtain ⟨bk, off, cap, e3, hbk, hca⟩ := Hr.out.get i _ ha
    simp only [Value.slice.injEq] at e3
    obtain ⟨rfl, -, rfl⟩ := e3
    have k0 : ∀ z, Fr wc.drew z (fun _ => False) → z.cell? ⟨bk, off + i * 4, none⟩ = some (.int .i64 t) := fun z hz => (hca z (((Hwa.out.drew).none hz).mono (fun _ _ h => h.elim))).1
    have k1 : ∀ z, Fr wc.drew z (fun _ => False) → z.cell? ⟨p, 1, none⟩ = some (.slice (some ⟨bk, off, none⟩) m c0) := fun z hz => two_cell1 (hz.kept (w := wc.drew) Hb0.out (fun h => h))
    have wq1 : (k : Int) / 3 = (q : Int) := by omega
    have wq2 : (k : Int).tdiv 3 = (q : Int) := by rw [Int.tdiv_eq_ediv_of_nonneg (by omega)]; omega
    have wq3 : IntKind.u8.wrap (q : Int) = (q : Int) := by rw [IntKind.wrap_u8]; omega
    have wq4 : IntKind.u8.wrap ((k : Int) / 3) = (q : Int) := by rw [wq1]; exact wq3
    have wq5 : IntKind.i64.wrap (q : Int) = (q : Int) := IntWalk.i64_in _ (by omega)
    have wm1 : (q : Int).tmod (m : Int) = (i : Int) := by rw [Int.tmod_eq_emod_of_nonneg (by omega), hi, hq]; simp
    have wm2 : (q : Int) % (m : Int) = (i : Int) := by rw [hi, hq]; simp
    have wi : IntKind.i64.wrap (i : Int) = (i : Int) := IntWalk.i64_in _ (by omega)
    have w31 : (k : Int).tmod 3 = (r3 : Int) := by rw [Int.tmod_eq_emod_of_nonneg (by omega)]; omega
    have w32 : (k : Int) % 3 = (r3 : Int) := by omega
    have w33 : IntKind.i64.wrap (r3 : Int) = (r3 : Int) := IntWalk.i64_in _ (by omega)
    obtain ⟨s, hs⟩ : ∃ s, s = t + (r3 : Int) := ⟨_, rfl⟩
    have ws : IntKind.i64.wrap (t + (r3 : Int)) = s := by rw [hs]; exact IntWalk.i64_in _ (by omega)
    have hs1 : s - 1 = R := by rw [hs, hR2]
    have ws2 : IntKind.i64.wrap (s - 1) = R := by rw [hs1, hR2]; exact IntWalk.i64_in _ (by omega)
    have hz : ¬ m = 0 := by omega
    have hz2 : ((m : Int) == 0) = false := by rw [beq_eq_false_iff_ne]; omega
    have hi0 : (0 : Int) ≤ (i : Int) := by omega
    have him' : (i : Int) < (m : Int) := by omega
    clear hnb hi hq hr3 hR2 hs hs1 hca hbk ha htb ca cb
    go_wp2_with fail
    refine wp_region_tree (fun _ => False) (.take 0 (.take 1 (.take 2 (.take 3 (.take 4 (.take 5 (.take 6 (.take 7 (.take 8 (.take 9 (.take 10 (.take 11 (.take 12 (.take 13 (.take 14 (.take 15 (.take 16 (.take 17 .nil)))))))))))))))))) (by kernel_rfl) (by kernel_rfl) (by decide) (by kernel_rfl) ?_
    repeat (refine wpT_take (v := ?_) rfl rfl (fun x hx => ?_) ?_; rotate_left; (focus (go_simp; with_reducible rfl)); simp only [Act.put, List.setIfInBounds_toArray, List.set_cons_zero, List.set_cons_succ])
    have Hfo : Hid (Fr w wc.drew (fun _ => False)) := Hwa.out.drew
    unfold wpT
    go_wp2_with fail
    go_ret
    exact ⟨rfl, Hfo.out⟩

end Go.Proofs.Ythdlhdeaeaahoaa

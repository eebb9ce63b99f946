/-
  The contract of bits.Flip: a new slice in which the bits that the mask names are turned; at most 10^11 bytes.
-/
import Derived.Test.YtjojjfnbnhfdgaaRead
namespace Go.Proofs.Ytjojjfnbnhfdgaa
open Go.RowKit

theorem mask_val (mask k : Nat) (hm : mask < 4294967296) : (bits .and .u32 ((mask : Int) / 2 ^ k) 1 == 1) = mask.testBit k := by
  have e : (mask : Int) / 2 ^ k = ((mask / 2 ^ k : Nat) : Int) := by simp
  have hlt : mask / 2 ^ k < 4294967296 := Nat.lt_of_le_of_lt (Nat.div_le_self _ _) hm
  rw [e, show (1 : Int) = ((1 : Nat) : Int) from rfl, u32_and_nat _ _ hlt (by omega), nat_mask1, Nat.testBit_eq_decide_div_mod_eq]
  have h2 : mask / 2 ^ k % 2 = 0 ∨ mask / 2 ^ k % 2 = 1 := by omega
  rcases h2 with h2 | h2 <;> simp [h2]

theorem xor_val (x j : Nat) (hx : x < 256) : bits .xor .u8 (x : Int) (2 ^ (j % 8) % 256) = ((x ^^^ 2 ^ (j % 8) : Nat) : Int) := by
  have h2 := pow_lt (j % 8) (by omega)
  have e : (2 : Int) ^ (j % 8) % 256 = ((2 ^ (j % 8) : Nat) : Int) := by
    have : (2 : Int) ^ (j % 8) = ((2 ^ (j % 8) : Nat) : Int) := by simp
    rw [this]
    generalize 2 ^ (j % 8) = y at *
    omega
  rw [e]
  exact u8_xor_nat _ _ hx h2

set_option maxHeartbeats 1600000 in
theorem flip_any (v : Value) (bs : List Nat) (f : Int) (mask : Nat) (w : World) (hv : Reads w v bs) (hb : bs.length ≤ 100000000000) (hs : ∀ j, bs.getD j 0 < 256)
    (hf0 : -9223372036854775808 ≤ f) (hf1 : f ≤ 9223372036854775807) (hm : mask < 4294967296) :
    Calls Try.prog 21 #[v, .int .i64 f, .int .u32 (mask : Int)] w fun e w' => e = .returned (.slice (some ⟨w.heap.size, 0, none⟩) bs.length bs.length) ∧
      w'.ownsRow 0 5 1 (.slice (some ⟨w.heap.size, 0, none⟩) bs.length bs.length) bs.length (row (flips bs f mask 32)) ∧ Fr w w' (fun _ => False) := by
  have Hv : Hid _ := hv
  obtain ⟨n, hn⟩ : ∃ n, n = bs.length := ⟨_, rfl⟩
  rw [← hn] at hb ⊢
  have Hn : Hid _ := hn
  have Hs : Hid _ := hs
  obtain ⟨g, hg⟩ : ∃ g, g = w.heap.size := ⟨_, rfl⟩
  rw [← hg]
  have Hg : Hid _ := hg
  clear hv hn hs hg
  go_enter Try.func21, Try.ntmps21
  go_wp2_with fail
  refine (copied_any v bs w Hv.out (by rw [← Hn.out]; omega)).mono ?_
  rw [← Hn.out, ← Hg.out]
  rintro e w1 ⟨rfl, h1, h2⟩
  go_wp2_with fail
  go_loopw [12] (fun c wr => ∃ k : Nat, k ≤ 32 ∧ c = .int .i64 (k : Int) ∧ wr.ownsRow 0 5 1 (.slice (some ⟨g, 0, none⟩) n n) n (row (flips bs f mask k)) ∧ Fr w wr (fun _ => False))
    (fun c _ => 32 - (intOf c).toNat)
  case atStart => exact ⟨0, Nat.zero_le _, rfl, h1, h2⟩
  case round =>
    obtain ⟨k, hk, rfl, ho, hfr⟩ := hrel
    by_cases hlt : k < 32
    · obtain ⟨cs, hcs⟩ : ∃ cs, cs = flips bs f mask k := ⟨_, rfl⟩
      have hcl : cs.length = n := by rw [hcs, length_flips, Hn.out]
      have hcsm : ∀ j, cs.getD j 0 < 256 := by rw [hcs]; exact small_flips _ _ _ _ Hs.out
      rw [← hcs] at ho
      have Hcs : Hid _ := hcs
      have Hcl : Hid _ := hcl
      have Hsm : Hid _ := hcsm
      have Ho : Hid _ := ho
      clear hcs hcl hcsm ho
      have hmv := mask_val mask k hm
      by_cases hin : -(k : Int) ≤ f ∧ f < 8 * (n : Int) - k
      · obtain ⟨hin1, hin2⟩ := hin
        cases hmb : mask.testBit k
        · rw [hmb] at hmv
          have Hmb : Hid _ := hmb
          clear hmb
          go_wp2
          go_roundw
          case rel =>
            refine ⟨k + 1, by omega, by go_num, ?_, hfr⟩
            have e : flips bs f mask (k + 1) = cs := by
              rw [flips, ← Hcs.out]; unfold flipStep; rw [if_neg (by rw [Hmb.out]; simp)]
            rw [e]; exact Ho.out
          case measure => simp [intOf]; omega
        · rw [hmb] at hmv
          have Hmb : Hid _ := hmb
          clear hmb
          obtain ⟨j, hj⟩ := Int.eq_ofNat_of_zero_le (show 0 ≤ f + (k : Int) by omega)
          obtain ⟨q, hq⟩ : ∃ q, q = j / 8 := ⟨_, rfl⟩
          have hqn : q < n := by omega
          have cg : wr.cell? ⟨g, q, none⟩ = some (.int .u8 ((cs.getD q 0 : Nat) : Int)) := by
            have := World.ownsRow.cellAt Ho.out q (by omega)
            rw [this]; exact row_get _ _ (by rw [Hcl.out]; exact hqn)
          have fg : wr.frozen? ⟨g, q, none⟩ = false := World.ownsRow.frozenAt Ho.out q
          obtain ⟨x, hx⟩ : ∃ x, x = cs.getD q 0 := ⟨_, rfl⟩
          rw [← hx] at cg
          have hx2 : x < 256 := by rw [hx]; exact Hsm.out _
          have hadd : IntKind.i64.wrap (f + (k : Int)) = (j : Int) := by rw [IntWalk.i64_in _ (by omega)]; exact hj
          have hqw : IntKind.i64.wrap ((j : Int) / 8) = (q : Int) := by rw [IntWalk.i64_in _ (by omega)]; omega
          have i1 : (q : Int) < (n : Int) := by omega
          have hjb : (j : Int) ≤ 1000000000000 := by omega
          have Hj : Hid _ := hj
          have Hq : Hid _ := hq
          have Hx : Hid _ := hx
          clear hj hq hx
          go_wp2
          go_still_tail 14, (by kernel_rfl)
          still_call (place_any (j : Int) _ (by omega) (by omega))
          repeat still_step
          refine wpStill_nil ?_
          go_wp2
          go_roundw
          case rel =>
            have e : flips bs f mask (k + 1) = cs.set q (x ^^^ 2 ^ (j % 8)) := by
              rw [flips, ← Hcs.out]; unfold flipStep
              rw [if_pos ⟨⟨hin1, by rw [Hcl.out]; exact hin2⟩, Hmb.out⟩, show (f + (k : Int)).toNat = j by rw [Hj.out]; rfl, ← Hq.out, ← Hx.out]
            obtain ⟨ho3, hg3⟩ := World.ownsRow.stored Ho.out q (.int .u8 ((x ^^^ 2 ^ (j % 8) : Nat) : Int))
            rw [xor_val x j hx2]
            refine ⟨k + 1, by omega, by go_num, ?_, Fr.drew (hfr.grown hg3 ?_)⟩
            · rw [e, row_set]; exact ho3
            · intro k' hk' hlt'
              simp at hk'
              rw [← hk', Hg.out] at hlt'; omega
          case measure => simp [intOf]; omega
      · have hst : flips bs f mask (k + 1) = cs := by
          rw [flips, ← Hcs.out]; unfold flipStep; rw [if_neg (by rw [Hcl.out]; intro h; exact hin h.1)]
        have Hst : Hid _ := hst
        clear hst
        by_cases hin1 : -(k : Int) ≤ f
        · have hin2 : ¬ f < 8 * (n : Int) - k := fun h => hin ⟨hin1, h⟩
          have hd2 : decide (f < 8 * (n : Int) - k) = false := by simpa using hin2
          clear hin
          go_wp2
          go_roundw
          case rel => exact ⟨k + 1, by omega, by go_num, by rw [Hst.out]; exact Ho.out, hfr⟩
          case measure => simp [intOf]; omega
        · have hd1 : decide (-(k : Int) ≤ f) = false := by simpa using hin1
          clear hin
          go_wp2
          go_roundw
          case rel => exact ⟨k + 1, by omega, by go_num, by rw [Hst.out]; exact Ho.out, hfr⟩
          case measure => simp [intOf]; omega
    · have Hk : Hid (k = 32) := by show k = 32; omega
      have Ho : Hid _ := ho
      clear ho
      go_wp2
      go_ret
      exact ⟨rfl, by rw [← Hk.out]; exact Ho.out, hfr⟩
end Go.Proofs.Ytjojjfnbnhfdgaa

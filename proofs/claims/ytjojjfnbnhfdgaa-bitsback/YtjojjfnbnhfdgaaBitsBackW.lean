/-
  The walk of the law BitsBack: called with whatever arguments, it returns true and touches nothing that was there. No condition.
-/
import Derived.Test.YtjojjfnbnhfdgaaRows
import Derived.Test.YtjojjfnbnhfdgaaArgs
import Derived.Test.YtjojjfnbnhfdgaaActs
namespace Go.Proofs.Ytjojjfnbnhfdgaa.bitsBack
open Go.ChangeShapes Go.WideShapes Go.ChangeAt Go.RowKit

theorem mask_ne (x c : Nat) (hx : x < 18446744073709551616) (hc : c ≤ 63) : ((x : Int) % 2 ^ c != bits .and .u64 (x : Int) (IntKind.u64.wrap (IntKind.u64.wrap (2 ^ c) - 1))) = false := by
  have hp : 2 ^ c ≤ 2 ^ 63 := Nat.pow_le_pow_right (by omega) hc
  have h0 : 0 < 2 ^ c := Nat.two_pow_pos c
  have e : (2 : Int) ^ c = ((2 ^ c : Nat) : Int) := by simp
  have hm := Nat.and_two_pow_sub_one_eq_mod x c
  rw [e]
  generalize 2 ^ c = y at *
  rw [IntKind.wrap_u64, IntKind.wrap_u64]
  have e2 : (((y : Int) % 18446744073709551616 - 1) % 18446744073709551616) = ((y - 1 : Nat) : Int) := by omega
  rw [e2, u64_and_nat _ _ hx (by omega), hm]
  simp

set_option maxHeartbeats 3200000 in
theorem walk (a0 : Option Addr) (len0 cap0 : Nat) (V : Nat → Nat) (M : Nat → Int) (w : World) (w0 : IsActs w a0 len0 V M) :
    Calls Try.prog 5 #[.slice a0 len0 cap0] w fun e w' => e = .returned (.bool true) ∧ Below w.heap.size w w' := by
  go_enter Try.func5, Try.ntmps5
  go_wp2_with fail
  refine (known_any w).mono ?_
  rintro e wa ⟨rfl, hf1⟩
  by_cases hlen : 40 < len0
  · go_wp2
    go_ret
    exact ⟨rfl, hf1.below (Nat.le_refl _) (fun _ h => h.elim)⟩
  · have hd40 : decide (40 < (len0 : Int)) = false := decide_eq_false (by omega)
    obtain ⟨C, hC⟩ : ∃ C : Nat → Nat, ∀ i, (M i % 64 = (C i : Int)) := ⟨fun i => (M i % 64).toNat, fun i => by show _ = (((M i % 64).toNat : Nat) : Int); omega⟩
    have hC64 : ∀ i, C i ≤ 64 := fun i => by have := hC i; omega
    have hC63 : ∀ i, C i ≤ 63 := fun i => by have := hC i; omega
    have Hw0 : Hid (IsActs w a0 len0 V M) := w0
    have HC : Hid (∀ i, (M i % 64 = (C i : Int))) := hC
    have HC64 : Hid (∀ i, C i ≤ 64) := hC64
    clear w0 hC hC64
    go_wp2_with fail
    refine (newWriter_any wa).mono ?_
    rintro e wb ⟨rfl, hwp, hf2⟩
    obtain ⟨p, hp⟩ : ∃ p, p = wa.heap.size := ⟨_, rfl⟩
    rw [← hp] at hwp ⊢
    have hnp : Newer w.heap.size p (.slice none 0 0) := by
      intro k hk
      rcases hk with rfl | hk
      · have := hf1.size; omega
      · simp [Value.ownBlock] at hk
    clear hp
    replace hf2 := hf1.none hf2
    clear hf1
    go_wp2_with fail
    go_loopw [4] (fun I wr => ∃ (i : Nat) (sv : Value), i ≤ len0 ∧ I = .int .i64 (i : Int) ∧ Wr wr p sv (actBits V C i) ∧ Newer w.heap.size p sv ∧ Fr w wr (fun _ => False)) (fun I _ => len0 - (intOf I).toNat)
    case atStart => exact ⟨0, _, Nat.zero_le _, rfl, hwp, hnp, hf2⟩
    case round =>
      clear hwp hnp hf2
      obtain ⟨i, sv, hi, rfl, hwp, hnp, hfr⟩ := hrel
      have hbl := actBits_length V C HC64.out i
      by_cases hlt : i < len0
      · obtain ⟨b, off, rfl, cz, cn, hv⟩ : ∃ b off, a0 = some ⟨b, off, none⟩ ∧ wr.cell? ⟨b, off + i * 2, none⟩ = some (.int .u64 (V i : Int)) ∧ wr.cell? ⟨b, off + i * 2 + 1, none⟩ = some (.int .i64 (M i)) ∧ V i < 18446744073709551616 := by
          obtain ⟨b, off, rfl, hc⟩ := Hw0.out (by omega)
          obtain ⟨h1, h2, h3⟩ := hc i hlt
          exact ⟨b, off, rfl, by rw [World.cell?_of_block (w := w) (hfr.block _ (World.block_lt_of_cell? _ _ h1) (fun h => h))]; exact h1, by rw [World.cell?_of_block (w := w) (hfr.block _ (World.block_lt_of_cell? _ _ h2) (fun h => h))]; exact h2, h3⟩
        have hband : bits .and .i64 (M i) 63 = (C i : Int) := by rw [and63]; exact HC.out i
        have ii : (i : Int) < (len0 : Int) := by omega
        go_wp2
        go_still_tail 12, (by kernel_rfl)
        go_wp2_with fail
        refine (put_any p sv _ (V i) (C i : Int) wr.drew hwp.drew (by omega) hv).mono ?_
        rintro e wc ⟨rfl, sv', hwp', hfc, hmc⟩
        have hnp' := hnp.moved hmc hfr.size
        replace hfc := hfr.drew.newer hfc hnp
        rw [show wide (C i : Int) = C i by unfold wide; have := HC64.out i; omega] at hwp'
        clear hwp hnp hmc hfr
        go_wp2
        go_roundw
        case rel => exact ⟨i + 1, sv', by omega, by go_num, hwp', hnp', hfc⟩
        case measure => simp [intOf]; omega
      · have Hil : Hid (i = len0) := by show i = len0; omega
        obtain ⟨L, hL⟩ : ∃ L, L = actBits V C len0 := ⟨_, rfl⟩
        rw [Hil.out, ← hL] at hwp hbl
        have HL : Hid _ := hL
        have hpl : (pack L).length = (L.length + 7) / 8 := length_pack L
        clear hL
        go_wp2_with fail
        refine (bytesP_any p sv L wr hwp (by omega)).mono ?_
        rintro e wc ⟨v1, rfl, hv1, hwq1, hfc⟩
        replace hfc := hfr.none hfc
        clear hwp hfr hnp
        go_wp2_with fail
        refine (newReader_any v1 (pack L) wc hv1.reads (by omega) (packs_pack L).small).mono ?_
        rintro e wd ⟨r, svr, rfl, hrd, hfd, hnr⟩
        have hnr' : w.heap.size ≤ r := by have := hnr r (.inl rfl); have := hfc.size; omega
        replace hfd := hfc.none hfd
        clear hfc hv1 hnr hwq1
        go_wp2_with fail
        go_loopw [6] (fun I wr => ∃ i : Nat, i ≤ len0 ∧ I = .int .i64 (i : Int) ∧ Rd 60 wr r svr (pack L) (actBits V C i).length ∧ Fr w wr (fun _ => False)) (fun I _ => len0 - (intOf I).toNat)
        case atStart => exact ⟨0, Nat.zero_le _, rfl, hrd, hfd⟩
        case round =>
          clear hrd hfd
          obtain ⟨j, hj, rfl, hrd, hfr⟩ := hrel
          by_cases hlt2 : j < len0
          · obtain ⟨b, off, rfl, cz, cn, hv⟩ : ∃ b off, a0 = some ⟨b, off, none⟩ ∧ (∀ wx, Fr w wx (fun _ => False) → wx.cell? ⟨b, off + j * 2, none⟩ = some (.int .u64 (V j : Int))) ∧ (∀ wx, Fr w wx (fun _ => False) → wx.cell? ⟨b, off + j * 2 + 1, none⟩ = some (.int .i64 (M j))) ∧ V j < 18446744073709551616 := by
              obtain ⟨b, off, rfl, hc⟩ := Hw0.out (by omega)
              obtain ⟨h1, h2, h3⟩ := hc j hlt2
              exact ⟨b, off, rfl, fun wx hx => by rw [World.cell?_of_block (w := w) (hx.block _ (World.block_lt_of_cell? _ _ h1) (fun h => h))]; exact h1, fun wx hx => by rw [World.cell?_of_block (w := w) (hx.block _ (World.block_lt_of_cell? _ _ h2) (fun h => h))]; exact h2, h3⟩
            have cn1 := cn _ hfr
            have Hcz : Hid _ := cz
            clear cz cn
            have hband : bits .and .i64 (M j) 63 = (C j : Int) := by rw [and63]; exact HC.out j
            have hcj := hC63 j
            obtain ⟨z, hz⟩ : ∃ z, unpack (pack L) = L ++ z := ⟨_, (packs_pack L).unpack⟩
            obtain ⟨t, ht⟩ := actBits_le V C (j + 1) len0 (by omega)
            rw [← HL.out] at ht
            have hposl : (actBits V C j).length + C j ≤ L.length := by rw [ht, actBits]; simp [length_putBits]
            have hval : num (List.take (wide (C j : Int)) (List.drop (actBits V C j).length (unpack (pack L)))) = V j % 2 ^ C j := by
              rw [show wide (C j : Int) = C j by unfold wide; omega, hz, HL.out, act_take V C j len0 hlt2 z, num_putBits]
            have Hval : Hid _ := hval
            clear hz ht hval
            go_wp2_with fail
            refine (take_yes r svr (pack L) _ (C j : Int) wr hrd (by rw [hpl]; unfold wide; omega)).mono ?_
            rintro e we ⟨rfl, hre, hfe⟩
            replace hfe := hfr.newer1 hfe hnr'
            rw [Hval.out]
            rw [show wide (C j : Int) = C j by unfold wide; omega] at hre
            have cz1 := Hcz.out _ hfe
            clear hrd hfr cn1
            go_wp2
            have jj : (j : Int) < (len0 : Int) := by omega
            have hne := mask_ne (V j) (C j) hv hcj
            refine wp_region_still_lit (by kernel_rfl) (by kernel_rfl) ?_
            repeat still_step
            refine wpStill_nil ?_
            go_wp2
            go_roundw
            case rel => exact ⟨j + 1, by omega, by go_num, by rw [actBits, List.length_append, length_putBits]; exact hre, hfe.drew⟩
            case measure => simp [intOf]; omega
          · have Hjl : Hid (j = len0) := by show j = len0; omega
            rw [Hjl.out, ← HL.out] at hrd
            go_wp2_with fail
            refine (left_fr r svr (pack L) _ wr hrd).mono ?_
            rintro e we ⟨rfl, hre, hfe⟩
            replace hfe := hfr.none hfe
            obtain ⟨m, hm⟩ : ∃ m, m = 8 * (pack L).length - L.length := ⟨_, rfl⟩
            have hm8 : m < 8 := by omega
            rw [← hm]
            have Hm : Hid _ := hm
            clear hm hrd hfr
            go_wp2_with fail
            refine (take_yes r svr (pack L) _ (m : Int) we hre (by rw [← Hm.out]; unfold wide; omega)).mono ?_
            rintro e wf ⟨rfl, hrf, hff⟩
            replace hff := hfe.newer1 hff hnr'
            have hz : num (List.take (wide (m : Int)) (List.drop L.length (unpack (pack L)))) = 0 := by
              rw [(packs_pack L).unpack, List.drop_left, List.take_replicate]
              exact num_zeros _
            rw [hz]
            clear hz
            go_wp2
            go_ret
            exact ⟨rfl, hff.below (Nat.le_refl _) (fun _ h => h.elim)⟩

end Go.Proofs.Ytjojjfnbnhfdgaa.bitsBack

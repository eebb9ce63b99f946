/-
  The walk of the law GammaBack: called with whatever arguments, it returns true and touches nothing that was there. No condition.
-/
import Derived.Test.YtknmlmkenmaocaaRows
import Derived.Test.YtknmlmkenmaocaaKnown
namespace Go.Proofs.Ytknmlmkenmaocaa.gammaBack
open Go.ChangeShapes Go.WideShapes Go.ChangeAt Go.RowKit

/-- The numbers up to i, one behind another. -/
def gall (V : Nat → Nat) : Nat → List Bool
  | 0 => []
  | i + 1 => gall V i ++ gbits (V i)
theorem gall_le (V : Nat → Nat) (i n : Nat) (h : i ≤ n) : ∃ t, gall V n = gall V i ++ t := by
  induction n with
  | zero => obtain rfl : i = 0 := by omega
            exact ⟨[], by simp⟩
  | succ n ih =>
    by_cases h1 : i = n + 1
    · exact ⟨[], by rw [h1]; simp⟩
    · obtain ⟨t, ht⟩ := ih (by omega)
      exact ⟨t ++ gbits (V n), by rw [gall, ht, List.append_assoc]⟩
theorem gall_length (V : Nat → Nat) (hV : ∀ i, V i < 18446744073709551616) (i : Nat) : (gall V i).length ≤ 127 * i := by
  induction i with
  | zero => simp [gall]
  | succ i ih =>
    have := gsize_le (V i) (hV i)
    rw [gall, List.length_append, length_gbits]; omega
/-- Where number i is read. -/
theorem gall_rest (V : Nat → Nat) (i n : Nat) (h : i < n) : ∃ r, rest (pack (gall V n)) (gall V i).length = gbits (V i) ++ r := by
  obtain ⟨t, ht⟩ := gall_le V (i + 1) n (by omega)
  refine ⟨t ++ List.replicate (8 * (pack (gall V n)).length - (gall V n).length) false, ?_⟩
  unfold rest
  rw [(packs_pack _).unpack]
  generalize List.replicate _ false = z
  rw [ht, gall, List.append_assoc, List.append_assoc, List.drop_left]

theorem or_oneV (v s : Nat) (hv : v < 18446744073709551616) : bits .or .u64 ((v : Int) / 2 ^ s) 1 = ((v / 2 ^ s ||| 1 : Nat) : Int) ∧ (v / 2 ^ s ||| 1) < 18446744073709551616 ∧ (v / 2 ^ s ||| 1) ≠ 0 := by
  have e : (v : Int) / 2 ^ s = ((v / 2 ^ s : Nat) : Int) := by simp
  have hlt : v / 2 ^ s < 18446744073709551616 := Nat.lt_of_le_of_lt (Nat.div_le_self _ _) hv
  refine ⟨?_, ?_, ?_⟩
  · rw [e, show (1 : Int) = ((1 : Nat) : Int) from rfl, u64_or_nat _ _ hlt (by omega)]
  · exact Nat.or_lt_two_pow (n := 64) hlt (by omega)
  · have := @Nat.right_le_or (v / 2 ^ s) 1
    omega

set_option maxRecDepth 4000 in
set_option maxHeartbeats 800000 in
theorem walk (a0 : Option Addr) (len0 cap0 : Nat) (z0 : List Int) (a1 : Int) (w : World) (w0 : IsRow .u64 w a0 len0 cap0 z0) (w1 : (Lit.int .u8 a1).wf = true) :
    Calls Try.prog 4 #[.slice a0 len0 cap0, .int .u8 a1] w fun e w' => e = .returned (.bool true) ∧ Below w.heap.size w w' := by
  obtain ⟨hb1, hb1'⟩ := bounds_u8 w1
  obtain ⟨ls, hll, hls, hrl, -⟩ := reads_isRow small_u64 (by decide) w0
  obtain ⟨s, rfl⟩ := Int.eq_ofNat_of_zero_le hb1
  clear hb1 w0 w1
  have Hrl : Hid (Reads .u64 w (.slice a0 len0 cap0) ls) := hrl
  have Hll : Hid _ := hll
  have hor := fun i => or_oneV (ls.getD i 0) ((s + 11 * i) % 64) (hls i)
  obtain ⟨V, hV⟩ : ∃ V : Nat → Nat, ∀ i, V i = (ls.getD i 0 / 2 ^ ((s + 11 * i) % 64) ||| 1) := ⟨_, fun _ => rfl⟩
  have HV : Hid (∀ i, bits .or .u64 ((ls.getD i 0 : Nat) / 2 ^ ((s + 11 * i) % 64)) 1 = (V i : Int)) := fun i => by rw [(hor i).1, hV]
  have HV2 : Hid (∀ i, V i < 18446744073709551616) := fun i => by rw [hV]; exact (hor i).2.1
  have HV0 : Hid (∀ i, V i ≠ 0) := fun i => by rw [hV]; exact (hor i).2.2
  have Hls : Hid _ := hls
  clear hll hls hrl hor hV
  go_enter Try.func4, Try.ntmps4
  go_wp2_with fail
  refine (known_any w).mono ?_
  rintro e wa ⟨rfl, hf1⟩
  by_cases hlen : 20 < len0
  · go_wp2
    go_ret
    exact ⟨rfl, hf1.below (Nat.le_refl _) (fun _ h => h.elim)⟩
  · have hd20 : decide (20 < (len0 : Int)) = false := by simp; omega
    go_wp2_with fail
    refine (newWriter_any wa).mono ?_
    rintro e wb ⟨rfl, hwp, hf2⟩
    obtain ⟨p, hp⟩ : ∃ p, p = wa.heap.size := ⟨_, rfl⟩
    rw [← hp] at hwp ⊢
    have hnp : Newer w.heap.size p (.slice none 0 0) := by
      intro k hk
      rcases hk with rfl | hk
      · have := hf1.size; omega
      · simp [Value.ownBlock] at hk
    clear hp
    replace hf2 := hf1.none hf2
    clear hf1
    go_wp2_with fail
    go_loopg [6, 7] len0 (fun g M I wr => ∃ (i m : Nat) (sv : Value), i ≤ len0 ∧ g = len0 - i ∧ M = .int .i64 (m : Int) ∧ I = .int .i64 (i : Int) ∧ m = (gall V i).length ∧ Wr wr p sv (gall V i) ∧ Newer w.heap.size p sv ∧ Fr w wr (fun _ => False))
    case atStart => exact ⟨0, 0, _, by omega, by omega, rfl, rfl, rfl, hwp, hnp, hf2⟩
    case round =>
      clear hwp hnp hf2
      obtain ⟨i, m, sv, hi, hgk, rfl, rfl, hm, hwp, hnp, hf⟩ := hrel
      have Hgk : Hid _ := hgk
      have hml := gall_length V HV2.out i
      rw [← hm] at hml
      have Hm : Hid _ := hm
      clear hgk hm
      by_cases hlt : i < len0
      · obtain ⟨ao', cap', e, -, hcl⟩ := Hrl.out.keep hf
        obtain ⟨b, off, rfl, hcell⟩ := hcl (by rw [length_row, Hll.out]; omega)
        simp only [Value.slice.injEq] at e
        obtain ⟨rfl, -, rfl⟩ := e
        have cg := hcell i _ (row_get .u64 ls i (by rw [Hll.out]; exact hlt))
        have hvi := HV.out i
        have hu := Hls.out i
        generalize ls.getD i 0 = u at cg hvi hu
        clear hcell hcl
        have hrem : ((s : Int) + 11 * (i : Int)).tmod 64 = (((s + 11 * i) % 64 : Nat) : Int) := by rw [Int.tmod_eq_emod_of_nonneg (by omega)]; omega
        have ii : (i : Int) < (len0 : Int) := by omega
        have Hvi : Hid _ := hvi
        clear hvi
        go_wp2_with fail
        rw [Hvi.out]
        have hv2 := HV2.out i
        refine (gput_any p sv _ (V i) wr hwp (by rw [← Hm.out]; omega) hv2).mono ?_
        rintro e wc ⟨rfl, sv', hwp', hfc, hmc⟩
        have hnp' := hnp.moved hmc hf.size
        replace hfc := hf.newer hfc hnp
        clear hwp hnp hmc hf cg
        have hgs := gsize_le (V i) hv2
        have Hm2 : Hid (m + gsize (V i) = (gall V (i + 1)).length) := by show _ = _; rw [gall, List.length_append, length_gbits, Hm.out]
        go_wp2_with fail
        refine (gsize_any (V i) _ hv2).mono ?_
        rintro e wd ⟨rfl, rfl⟩
        generalize gsize (V i) = gs at hgs Hm2
        go_wp2
        go_roundg (len0 - (i + 1))
        case rel => exact ⟨i + 1, m + gs, sv', by omega, rfl, by go_num, by go_num, Hm2.out, hwp', hnp', hfc⟩
        case measure => have := Hgk.out; omega
      · have Hil : Hid (i = len0) := by show i = len0; omega
        obtain ⟨L, hL⟩ : ∃ L, L = gall V len0 := ⟨_, rfl⟩
        have hmL : m = L.length := by rw [Hm.out, Hil.out, hL]
        rw [Hil.out, ← hL] at hwp
        have HmL : Hid _ := hmL
        have HL : Hid _ := hL
        have hpl : (pack L).length = (m + 7) / 8 := by rw [length_pack, hmL]
        have Hpl : Hid _ := hpl
        clear hL hmL hpl
        go_wp2_with fail
        refine (bytesP_any p sv L wr hwp (by rw [← HmL.out]; omega)).mono ?_
        rintro e wc ⟨v1, rfl, hv1, hwc, hfc⟩
        replace hfc := hf.none hfc
        clear hwp hf
        go_wp2_with fail
        refine (newReader_any v1 (pack L) wc hv1.reads (by rw [Hpl.out]; omega) (packs_pack L).small).mono ?_
        rintro e wd ⟨r, svr, rfl, hrd, hfd, hnr⟩
        have hap : ∀ k, foot p sv k → k ≠ r := fun k h1 h2 => by have := hnr r (.inl rfl); have := hwc.lt k h1; omega
        have hnr' : w.heap.size ≤ r := by have := hnr r (.inl rfl); have := hfc.size; omega
        replace hwc := hwc.frame hfd (fun _ _ h => h)
        replace hfd := hfc.none hfd
        clear hfc hv1 hnr
        go_wp2_with fail
        go_loopg [10] len0 (fun g I wr => ∃ j : Nat, j ≤ len0 ∧ g = len0 - j ∧ I = .int .i64 (j : Int) ∧ Rd 57 wr r svr (pack L) (gall V j).length ∧ Wr wr p sv L ∧ Fr w wr (fun _ => False))
        case atStart => exact ⟨0, by omega, by omega, rfl, hrd, hwc, hfd⟩
        case round =>
          clear hrd hfd hwc
          obtain ⟨j, hj, hgj, rfl, hrd, hwc, hfr⟩ := hrel
          have Hgj : Hid _ := hgj
          clear hgj
          by_cases hlt2 : j < len0
          · have hv2 := HV2.out j
            obtain ⟨rr, hrr⟩ := gall_rest V j len0 hlt2
            rw [← HL.out] at hrr
            obtain ⟨k1, k2, k3⟩ := gtake_gbits (V j) (HV0.out j) hv2 rr
            rw [← hrr] at k1 k2 k3
            clear hrr
            go_wp2_with fail
            refine (gtake_any r svr (pack L) _ wr hrd).mono ?_
            rw [k1, k2, k3]
            rintro e we ⟨rfl, hre, hfe⟩
            replace hwc := hwc.frame hfe (fun k h1 h2 => hap k h1 h2)
            replace hfe := hfr.newer1 hfe hnr'
            clear hrd hfr k1 k2 k3
            obtain ⟨ao', cap', e, -, hcl⟩ := Hrl.out.keep hfe
            obtain ⟨b, off, rfl, hcell⟩ := hcl (by rw [length_row, Hll.out]; omega)
            simp only [Value.slice.injEq] at e
            obtain ⟨rfl, -, rfl⟩ := e
            have cg := hcell j _ (row_get .u64 ls j (by rw [Hll.out]; exact hlt2))
            have hvi := HV.out j
            have hu := Hls.out j
            generalize ls.getD j 0 = u at cg hvi hu
            clear hcell hcl
            have hrem : ((s : Int) + 11 * (j : Int)).tmod 64 = (((s + 11 * j) % 64 : Nat) : Int) := by rw [Int.tmod_eq_emod_of_nonneg (by omega)]; omega
            have ii : (j : Int) < (len0 : Int) := by omega
            have hne : ((V j : Int) != bits .or .u64 ((u : Int) / 2 ^ ((s + 11 * j) % 64)) 1) = false := by rw [hvi]; simp
            clear hvi
            go_wp2
            go_roundg (len0 - (j + 1))
            case rel => exact ⟨j + 1, by omega, rfl, by go_num, by rw [gall, List.length_append, length_gbits]; exact hre, hwc, hfe⟩
            case measure => have := Hgj.out; omega
          · have Hjl : Hid (j = len0) := by show j = len0; omega
            rw [Hjl.out, ← HL.out] at hrd
            go_wp2_with fail
            refine (len_any p _ _ wr hwc).mono ?_
            rintro e we ⟨rfl, rfl⟩
            rw [← HmL.out]
            go_wp2_with fail
            refine (left_fr r svr (pack L) _ we hrd).mono ?_
            rintro e wf ⟨rfl, hre, hff⟩
            replace hff := hfr.none hff
            have e8 : 8 * (pack L).length - L.length = (8 - m % 8) % 8 := by rw [Hpl.out, ← HmL.out]; omega
            rw [e8]
            clear e8
            go_wp2
            go_ret
            have hz : (((8 - m % 8 : Nat) : Int) % 8 == -((m : Int) % 8) % 8) = true := beq_iff_eq.2 (by omega)
            exact ⟨congrArg (fun b => Ending.returned (.bool b)) hz, hff.below (Nat.le_refl _) (fun _ h => h.elim)⟩

end Go.Proofs.Ytknmlmkenmaocaa.gammaBack

/-
  The statement of the law BitsEnds, proved whole: called with whatever arguments, it returns true and each argument reads as it did. No condition.
  (The frame round the walk is the kit's own shell; the walk is ours.)
-/
import Derived.Test.YtjojjfnbnhfdgaaRows
import Derived.Test.YtjojjfnbnhfdgaaArgs
import Derived.ProofKit
import Derived.OpenShut
import Derived.ShutString
import Derived.ChangeOld
import Derived.Below
namespace Go.Proofs.Ytjojjfnbnhfdgaa.bitsEnds
open Go.ChangeShapes Go.WideShapes Go.ChangeAt Go.RowKit
open Go.ChangeMaps (open_string shut_string)
set_option linter.unusedVariables false

theorem own : ownKnob Try.prog.godebug = none := by kernel_rfl
theorem laidOut : laidOutB Try.prog = true := by kernel_rfl

theorem wide_big (m : Int) (h : 65 ≤ m) : wide m = 64 := by unfold wide; omega
theorem wide_low (m : Int) (h : m ≤ 0) : wide m = 0 := by unfold wide; omega
theorem wide_mid (m : Nat) (h : m ≤ 64) : wide (m : Int) = m := by unfold wide; omega

set_option maxHeartbeats 3200000 in
theorem walk (a0 : Option Addr) (len0 cap0 : Nat) (z0 : List Int) (a1 : Int) (a2 : Int) (w : World) (w0 : IsRow .u8 w a0 len0 cap0 z0) (w1 : (Lit.int .u8 a1).wf = true) (w2 : (Lit.int .i64 a2).wf = true) :
    Calls Try.prog 8 #[.slice a0 len0 cap0, .int .u8 a1, .int .i64 a2] w fun e w' => e = .returned (.bool true) ∧ Below w.heap.size w w' := by
  obtain ⟨bs, hbl, hbs, hr, _⟩ := reads_isRow w0
  have hb1 := bounds_u8 w1
  go_enter Try.func8, Try.ntmps8
  go_wp2_with fail
  refine (known_any w).mono ?_
  rintro e wa ⟨rfl, hf1⟩
  by_cases hlen : 30 < len0
  · go_wp2
    go_ret
    exact ⟨rfl, hf1.below (Nat.le_refl _) (fun _ h => h.elim)⟩
  · have Hr : Hid _ := hr.frame hf1 (fun _ _ h => h)
    have hd30 : decide (30 < (len0 : Int)) = false := by simp; omega
    clear hr
    go_wp2_with fail
    refine (newReader_any _ bs wa Hr.out (by omega) hbs).mono ?_
    rintro e wb ⟨p, sv, rfl, hrd, hf2, hn2⟩
    have hpn : w.heap.size ≤ p := by have := hn2 p (.inl rfl); have := hf1.size; omega
    replace hf2 := hf1.none hf2
    have Hbl : Hid _ := hbl
    clear hf1 hn2 hbl hbs
    obtain ⟨k, hk, hkb⟩ : ∃ k : Nat, (a1 ≤ 8 * (len0 : Int) ∧ a1 / 3 = (k : Int) ∨ 8 * (len0 : Int) < a1 ∧ 8 * (len0 : Int) / 3 = (k : Int)) ∧ 3 * k ≤ 8 * len0 := by
      by_cases hmin : a1 ≤ 8 * (len0 : Int)
      · exact ⟨(a1 / 3).toNat, .inl ⟨hmin, by omega⟩, by omega⟩
      · exact ⟨8 * len0 / 3, .inr ⟨by omega, by omega⟩, by omega⟩
    rcases hk with ⟨hmin, hk⟩ | ⟨hmin, hk⟩
    all_goals
      have Hk : Hid _ := hk
      clear hk
      go_wp2_with fail
      rw [Hk.out]
      go_loopw [9] (fun i wr => ∃ j : Nat, j ≤ k ∧ i = .int .i64 (j : Int) ∧ Rd 60 wr p sv bs j ∧ Fr w wr (fun _ => False)) (fun i _ => k - (intOf i).toNat)
      case atStart => exact ⟨0, Nat.zero_le _, rfl, hrd, hf2⟩
      case round =>
        obtain ⟨j, hj, rfl, hrj, hfj⟩ := hrel
        by_cases hlt : j < k
        · go_wp2_with fail
          refine (take_yes p sv bs j 1 wr hrj (by rw [Hbl.out]; show 1 ≤ _; omega)).mono ?_
          rintro e wc ⟨rfl, hrc, hfc⟩
          go_wp2
          go_roundw
          case rel => exact ⟨j + 1, by omega, by go_num, hrc, hfj.newer1 hfc hpn⟩
          case measure => simp [intOf]; omega
        · have Hjk : Hid (j = k) := by show j = k; omega
          have hrk : Rd 60 wr p sv bs k := by rw [← Hjk.out]; exact hrj
          clear hrj
          go_wp2_with fail
          refine (left_fr p sv bs j wr (by rw [Hjk.out]; exact hrk)).mono ?_
          rintro e wc ⟨rfl, hrc, hfc⟩
          replace hfc := hfj.none hfc
          rw [Hbl.out]
          clear hfj hrk
          obtain ⟨m, hm⟩ : ∃ m : Nat, m = 8 * len0 - j := ⟨_, rfl⟩
          rw [← hm]
          have Hm : Hid _ := hm
          clear hm
          have hbig : 65 ≤ a2 ∨ (0 < a2 ∧ a2 < 65) ∨ a2 ≤ 0 := by omega
          have hmb : (m : Int) ≤ 240 := by have := Hm.out; omega
          by_cases hm64 : m < 64
          · rcases hbig with hbig | ⟨hbig, hbig'⟩ | hbig
            all_goals
              go_wp2_with fail
              refine (take_nofr p sv bs j _ wc hrc (by rw [Hbl.out, ← Hm.out, wide_big _ (by omega)]; exact hm64)).mono ?_
              rintro e wd ⟨rfl, hrd', hfd⟩
              replace hfd := hfc.none hfd
              go_wp2_with fail
              refine (take_nofr p sv bs j ((m : Int) + 1) wd hrd' (by rw [Hbl.out, ← Hm.out]; unfold wide; omega)).mono ?_
              rintro e we ⟨rfl, hre, hfe⟩
              replace hfe := hfd.none hfe
              go_wp2_with fail
              refine (left_fr p sv bs j we hre).mono ?_
              rintro e wf ⟨rfl, hrf, hff⟩
              replace hff := hfe.none hff
              rw [Hbl.out, ← Hm.out]
              have hend : ((m : Int) == 8 * (len0 : Int) - (k : Int)) = true := by
                rw [beq_iff_eq, Hm.out, Hjk.out]; omega
              go_wp2
              go_ret
              exact ⟨rfl, hff.below (Nat.le_refl _) (fun _ h => h.elim)⟩
          · have hk63 : 64 ≤ m := by omega
            rcases hbig with hbig | ⟨hbig, hbig'⟩ | hbig
            all_goals
              go_wp2_with fail
              refine (take_yes p sv bs j _ wc hrc (by rw [Hbl.out, ← Hm.out, wide_big _ (by omega)]; exact hk63)).mono ?_
              rintro e wd ⟨rfl, hrd', hfd⟩
              replace hfd := hfc.newer1 hfd hpn
              rw [wide_big _ (by omega)] at hrd'
              generalize num (List.take (wide _) (List.drop j (unpack bs))) = V
              go_wp2_with fail
              refine (take_yes p sv bs _ _ wd hrd' (by rw [Hbl.out, wide_low _ (by omega)]; omega)).mono ?_
              rintro e we ⟨rfl, hre, hfe⟩
              replace hfe := hfd.newer1 hfe hpn
              rw [wide_low _ (by omega)] at hre ⊢
              rw [List.take_zero, show num [] = 0 from rfl]
              go_wp2_with fail
              refine (left_fr p sv bs _ we hre).mono ?_
              rintro e wf ⟨rfl, hrf, hff⟩
              replace hff := hfe.none hff
              rw [Hbl.out, show ((8 * len0 - (j + 64 + 0) : Nat) : Int) = (m : Int) - 64 from by have := Hm.out; omega]
              go_wp2
              go_ret
              exact ⟨rfl, hff.below (Nat.le_refl _) (fun _ h => h.elim)⟩

/-! ### THE ROW's STEP: WRITTEN OUT: LEAVE IT -/
set_option maxRecDepth 100000 in
theorem lifted (os : Os) (started : os.Started) (H : Type) (enc : TypeId × Value → H) :
    ReturnsInHanded {} Try.checked os 8 .any (Rows.bitsEndsSpec.pre6 enc Try.prog Try.f8 Rows.bitsEndsRow.domain false) (Rows.bitsEndsSpec.post enc Try.prog Try.f8 false true false false) := by
  refine returnsInHanded_of_change (C := Try.checked) own started (by kernel_rfl) Try.func8
    (ChangeSpec.witness6 (enc := enc) (C := Try.checked) false ⟨#[], #[.slice none 0 0, .int .u8 0, .int .i64 0], []⟩ 8 (by kernel_rfl) (by kernel_rfl) (by kernel_rfl) (by kernel_rfl)) ?_
  intro W base args ds gs before hval0 hW hcnd _
  have hval : ∀ (j : Nat) t v, Try.f8.params[j]? = some t → args[j]? = some v → Value.okWide Try.prog W .any base t v := hval0
  have hW' := hW
  obtain ⟨p, q, hA0, hV, rfl, hfz, hnd⟩ := hW
  have hA : DataW.TrodAll enc Try.prog W 0 (fun _ => true) true Try.f8.params.toList args.toList ds p := hA0
  rw [Try.params8] at hA hval
  obtain ⟨v0, vs0, d0, ds0, p0, q0, hargs, rfl, rfl, h0, r0⟩ := trodAll_cons hA
  obtain ⟨v1, vs1, d1, ds1, p1, q1, rfl, rfl, rfl, h1, r1⟩ := trodAll_cons r0
  obtain ⟨v2, vs2, d2, ds2, p2, q2, rfl, rfl, rfl, h2, r2⟩ := trodAll_cons r1
  obtain ⟨rfl, rfl, rfl⟩ := trodAll_nil r2
  obtain rfl : args = #[v0, v1, v2] := by cases args; simp_all
  obtain ⟨rfl, rfl⟩ := trodVars_none hV
  obtain ⟨a0, len0, cap0, rfl⟩ := okWide_slice Try.underlying35 (hval 0 35 v0 rfl rfl)
  have k0 := h0
  have lt0 : ∀ x ∈ p0, x.block < W.heap.size := by obtain ⟨m, hm⟩ := k0; exact DataW.trod_lt m _ _ _ hm
  obtain ⟨z0, w0⟩ : ∃ zs, IsRow .u8 W a0 len0 cap0 zs := by
    obtain ⟨fuel, hf⟩ := h0
    rcases open_ints Try.underlying35 Try.underlying5 (by kernel_rfl) hf with ⟨hcs, _⟩ | ⟨x, l, c, zs, hcs, _, hl, hm, hz, _, hcell, hwz⟩
    · simp [Value.cells] at hcs
      obtain ⟨rfl, rfl, rfl⟩ := hcs
      exact ⟨[], .inl ⟨rfl, rfl, rfl, rfl⟩⟩
    · simp [Value.cells] at hcs
      obtain ⟨rfl, rfl, rfl⟩ := hcs
      exact ⟨zs, .inr ⟨_, rfl, hl, hm, by simpa using hz, hcell, hwz⟩⟩
  obtain ⟨a1, rfl, rfl, rfl, w1⟩ := open_int Try.underlying5 (hval 1 5 v1 rfl rfl) h1
  obtain ⟨a2, rfl, rfl, rfl, w2⟩ := open_int Try.underlying3 (hval 2 3 v2 rfl rfl) h2
  clear hA0 hval0
  refine (walk a0 len0 cap0 z0 a1 a2 W w0 w1 w2).mono fun e W' ⟨he, bel⟩ => ?_
  subst he
  exact ⟨_, rfl, _, _, _, [], _, [], hW', trodAll_mk1 (shut_bool Try.underlying4 _), (trodAll_cons_mk (Below.trod laidOut (by kernel_rfl) (of_decide_eq_true (by kernel_rfl)) k0 bel lt0) (trodAll_cons_mk (shut_int Try.underlying5 w1) (trodAll_cons_mk (shut_int Try.underlying3 w2) trodAll_mk0))), rfl, bel.frame _, fun h => by cases h⟩

theorem over : Rows.bitsEndsRow.holds Try.pinned (OpenSpec.ofChange Rows.bitsEndsSpec) :=
  OpenClaim.holds_of_wide 8 Try.f8 rfl rfl rfl rfl rfl rfl rfl ⟨rfl, rfl, rfl, rfl, rfl⟩ rfl rfl rfl rfl rfl (by kernel_rfl) Try.func8 (by kernel_rfl)
    (of_decide_eq_true (by kernel_rfl)) (by unfold Func.isWrapper; first | (rw [if_pos (by decide +kernel)]; kernel_rfl) | (rw [if_neg (by decide +kernel)]; exact ⟨rfl, rfl⟩))
    (fun os started H enc _ => lifted os started H enc)

/-- The statement. -/
theorem proved : Rows.BitsEndsSaid := over
end Go.Proofs.Ytjojjfnbnhfdgaa.bitsEnds
namespace Go.Proofs.Ytjojjfnbnhfdgaa
theorem bitsEnds_holds : Rows.BitsEndsSaid := bitsEnds.proved
#print axioms bitsEnds_holds
end Go.Proofs.Ytjojjfnbnhfdgaa

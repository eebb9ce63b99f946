/-
  The walk of the law VarintBack: called with whatever arguments, it returns true and touches nothing that was there. No condition.
-/
import Derived.Test.YtimegheijfnkaaaKnown
import Derived.Test.YtimegheijfnkaaaRefPut
namespace Go.Proofs.Ytimegheijfnkaaa.varintBack
open Go.ChangeShapes Go.WideShapes Go.ChangeAt Go.RowKit

set_option maxRecDepth 4000 in
set_option maxHeartbeats 1600000 in
theorem walk (a0 : Int) (a1 : Int) (a2 : Int) (a3 : Option Addr) (len3 cap3 : Nat) (z3 : List Int) (w : World) (w0 : (Lit.int .u64 a0).wf = true) (w1 : (Lit.int .u8 a1).wf = true) (w2 : (Lit.int .u8 a2).wf = true) (w3 : IsRow .u8 w a3 len3 cap3 z3) :
    Calls Try.prog 4 #[.int .u64 a0, .int .u8 a1, .int .u8 a2, .slice a3 len3 cap3] w fun e w' => e = .returned (.bool true) ∧ Below w.heap.size w w' := by
  obtain ⟨hb0, hb0'⟩ := bounds_u64 w0
  obtain ⟨hb1, hb1'⟩ := bounds_u8 w1
  obtain ⟨hb2, hb2'⟩ := bounds_u8 w2
  obtain ⟨ms, hml, hms, hrm, -⟩ := reads_isRow small_u8 (by decide) w3
  obtain ⟨n, rfl⟩ := Int.eq_ofNat_of_zero_le hb0
  obtain ⟨k, rfl⟩ := Int.eq_ofNat_of_zero_le hb1
  obtain ⟨c, rfl⟩ := Int.eq_ofNat_of_zero_le hb2
  have hn : n < 18446744073709551616 := by omega
  have hk : k < 256 := by omega
  clear hb0 hb1 hb2 w0 w1 w2 w3 hb0'
  have Hrm : Hid (Reads .u8 w (.slice a3 len3 cap3) ms) := hrm
  have Hml : Hid _ := hml
  have Hms : Hid _ := hms
  clear hml hms hrm
  go_enter Try.func4, Try.ntmps4
  go_wp2_with fail
  refine (known_any w).mono ?_
  rintro e wa ⟨rfl, hf1⟩
  by_cases hlen : 20 < len3
  · go_wp2
    go_ret
    exact ⟨rfl, hf1.below (Nat.le_refl _) (fun _ h => h.elim)⟩
  · have hd20 : decide (20 < (len3 : Int)) = false := by simp; omega
    go_wp2_with fail
    refine (edge_any n k wa hn hk).mono ?_
    have hX2 := edgeV_lt n k hn
    generalize edgeV n k = X at hX2
    rintro e wb ⟨rfl, hf2⟩
    replace hf2 := hf1.none hf2
    clear hf1
    go_wp2_with fail
    refine (puts_any _ [X] _ (holds_lit wb 24 [.int .u64 (X : Int)] (by simp)) (by simpa using hX2) (by simp)).mono ?_
    rintro e wc ⟨sv, rfl, ho, hf, -⟩
    have hf3 := (hf2.alloc (.cells #[.int .u64 (X : Int)] 24)).none hf
    have hee : encs [X] = enc X := by simp [encs]
    rw [hee] at ho
    obtain ⟨L, hL⟩ : ∃ L, L = (enc X).length := ⟨_, rfl⟩
    have hL1 := enc_pos X
    have hL2 := enc_le X hX2
    have hr := ho.reads
    obtain ⟨ao, cap, rfl, hlc, -⟩ := id hr
    rw [length_row, ← hL] at hr hlc ⊢
    rw [← hL] at hL1 hL2
    have Hr : Hid (Reads .u8 wc (.slice ao L cap) (enc X)) := hr
    have HL : Hid _ := hL
    clear hf2 hf hee ho hr hL
    have hd0 : ((L : Int) == 0) = false := by simp; omega
    have hd0' : (L == 0) = false := by simp; omega
    go_wp2_with fail
    refine (size_any X wc hX2).mono ?_
    rw [← HL.out]
    rintro e w' ⟨rfl, rfl⟩
    obtain ⟨sx, wd, hrun, hox, hfx, hmx, -⟩ := app_bytes w' (.slice none 0 0) (.slice ao L cap) [] (enc X) (Own.nil _) Hr.out (by rw [← HL.out]; simp; omega)
    have hfx' : Fr w' wd (fun _ => False) := hfx.mono (fun _ _ h => by simp [Value.ownBlock] at h)
    have hrmd := (Hrm.out.keep hf3).keep hfx'
    rw [List.nil_append] at hox
    obtain ⟨sy, we, hrun2, hoy, hfy, hmy, -⟩ := app_bytes wd sx (.slice a3 len3 cap3) (enc X) ms hox hrmd (by rw [← HL.out, Hml.out]; omega)
    have hf4 : Fr w' we (fun _ => False) := (hfx'.trans hfy (fun k hk h => by
      rcases hmx k h with h | h
      · simp [Value.ownBlock] at h
      · omega))
    have hre := Hr.out.keep hf4
    have hf5 := hf3.none hf4
    have hry := hoy.reads
    clear hf3 hf4 hfy hmy hfx hfx' hmx hox hoy hrmd
    go_wp2_with (at_builtin; first | refine wpList_append_run rfl (.const (.slice none 0 0)) (.tmp 42) 23 rfl rfl rfl hrun ?_ | refine wpList_append_run rfl (.tmp 43) (.tmp 44) 23 rfl rfl rfl hrun2 ?_)
    clear hrun hrun2
    have Ht1 : Hid (took (enc X ++ ms) X = (X, L, 0)) := by show _ = _; rw [HL.out]; exact took_enc X X ms hX2 (Nat.le_refl _)
    have Hb1 : Hid (∀ x ∈ enc X ++ ms, x < 256) := fun x hx => by
      rcases List.mem_append.1 hx with h | h
      · exact enc_bytes X x h
      · obtain ⟨j, hj, rfl⟩ := List.getElem_of_mem h
        have := Hms.out j
        rwa [List.getD_eq_getElem?_getD, List.getElem?_eq_getElem hj] at this
    refine (take_any _ _ X we hry Hb1.out (by rw [List.length_append, ← HL.out, Hml.out]; omega) hX2).mono ?_
    rw [Ht1.out]
    rintro e w' ⟨rfl, rfl⟩
    obtain ⟨K, hK⟩ : ∃ K, K = c % L := ⟨_, rfl⟩
    have hcm : (c : Int) % (L : Int) = (K : Int) := by rw [hK]; simp
    have hKL : K < L := by rw [hK]; exact Nat.mod_lt _ hL1
    clear hK
    have Ht2 : Hid (took ((enc X).take K) 18446744073709551615 = (0, 0, 20)) := by
      show _ = _
      have := took_cut X K 18446744073709551615 hX2 (by rw [← HL.out]; exact hKL) []
      rwa [List.append_nil] at this
    have hr2 : Reads .u8 w' (.slice ao K cap) ((enc X).take K) := by
      have := Holds.take hre K (by omega) cap (by omega)
      rwa [← row_take] at this
    clear hry
    go_wp2_with fail
    refine (take_any _ _ 18446744073709551615 w' hr2 (mem_take_lt (enc_bytes X)) (by rw [List.length_take, ← HL.out]; omega) (by omega)).mono ?_
    rw [Ht2.out]
    rintro e w' ⟨rfl, rfl⟩
    clear hr2 Ht2 Ht1 Hb1
    obtain ⟨hs, y, fm⟩ := form X
    have hfl := fm.len
    rw [← HL.out] at hfl
    have htop := fm.top
    have hlow := fm.low
    have hq : L < 10 → X / 2 ^ (7 * L) = 0 := by
      intro _
      rw [hfl, show 7 * (hs.length + 1) = 7 * hs.length + 7 by omega, Nat.pow_add, ← Nat.div_div_eq_div_mul, ← htop]
      omega
    have hp : L ≠ 1 → X / 2 ^ (7 * (L - 1)) ≠ 0 := by
      intro h1
      rw [hfl, Nat.add_sub_cancel, ← htop]
      intro h0
      have := fm.zero h0
      subst this
      simp at hfl
      omega
    clear hfl htop hlow fm
    by_cases hX0 : X = 0
    · subst hX0
      obtain rfl : L = 1 := by rw [HL.out, enc_small 0 (by decide)]; rfl
      clear hq hp
      go_wp2
      go_ret
      exact ⟨rfl, hf5.below (Nat.le_refl _) (fun _ h => h.elim)⟩
    · have Ht3 : Hid (took (enc X) (X - 1) = (0, 0, 22)) := by
        show _ = _
        have := took_long X (X - 1) [] hX2 (by omega)
        rwa [List.append_nil] at this
      have hX1 : 0 < X := by omega
      have hcast : (X : Int) - 1 = ((X - 1 : Nat) : Int) := by omega
      have Hc : Hid _ := hcast
      clear hcast
      go_wp2_with fail
      rw [Hc.out]
      refine (take_any _ _ (X - 1) w' hre (enc_bytes X) (by rw [← HL.out]; omega) (by omega)).mono ?_
      rw [Ht3.out]
      rintro e w' ⟨rfl, rfl⟩
      clear hre Hc Ht3
      rcases (show L = 1 ∨ L = 10 ∨ (1 < L ∧ L < 10) by omega) with rfl | rfl | ⟨h1, h2⟩
      · have hq' : (X : Int) / 128 = 0 := by have := hq (by omega); simp at this; omega
        clear hq hp
        go_wp2
        go_ret
        exact ⟨rfl, hf5.below (Nat.le_refl _) (fun _ h => h.elim)⟩
      · have hp' : ¬ (X : Int) / 9223372036854775808 = 0 := by have := hp (by omega); simp at this; omega
        have hp2 : ((X : Int) / 9223372036854775808 != 0) = true := by simpa using hp'
        clear hq hp
        go_wp2
        go_ret
        exact ⟨rfl, hf5.below (Nat.le_refl _) (fun _ h => h.elim)⟩
      · obtain ⟨M, rfl⟩ : ∃ M, L = M + 1 := ⟨L - 1, by omega⟩
        have hq' : (X : Int) / 2 ^ (7 * (M + 1)) = 0 := by have := hq h2; exact_mod_cast this
        have hp' : ¬ (X : Int) / 2 ^ (7 * M) = 0 := by have := hp (by omega); rw [Nat.add_sub_cancel] at this; exact_mod_cast this
        have hp2 : ((X : Int) / 2 ^ (7 * M) != 0) = true := by simpa using hp'
        have hd10 : ((M : Int) + 1 == 10) = false := by simp; omega
        have hd11 : ((M : Int) + 1 == 1) = false := by simp; omega
        clear hq hp
        go_wp2
        go_ret
        exact ⟨rfl, hf5.below (Nat.le_refl _) (fun _ h => h.elim)⟩

end Go.Proofs.Ytimegheijfnkaaa.varintBack

/-
  The walk of the law GammaCuts: called with whatever arguments, it returns true and touches nothing that was there. No condition.
-/
import Derived.Test.YtknmlmkenmaocaaRows
import Derived.Test.YtknmlmkenmaocaaKnown
namespace Go.Proofs.Ytknmlmkenmaocaa.gammaCuts
open Go.ChangeShapes Go.WideShapes Go.ChangeAt Go.RowKit

theorem unpack_take (bs : List Nat) (k : Nat) (h : k ≤ bs.length) : unpack (bs.take k) = (unpack bs).take (8 * k) := by
  apply List.ext_getElem?
  intro i
  have hl : (bs.take k).length = k := by rw [List.length_take]; omega
  by_cases hi : i < 8 * k
  · rw [get_unpack _ _ (by rw [hl]; exact hi), List.getElem?_take_of_lt hi, get_unpack _ _ (by omega)]
    unfold bitAt
    rw [List.getD_eq_getElem?_getD, List.getD_eq_getElem?_getD, List.getElem?_take_of_lt (by omega)]
  · rw [List.getElem?_eq_none (by rw [length_unpack, hl]; omega), List.getElem?_eq_none (by rw [List.length_take]; omega)]

theorem cut_none (n X k : Nat) (hn : n < 8) (hX : X ≠ 0) (hk : k < (n + gsize X + 7) / 8) : gok (rest ((pack ([] ++ putBits 0 n ++ gbits X)).take k) (min n (8 * k))) = false := by
  have hL : ([] ++ putBits 0 n ++ gbits X).length = n + gsize X := by rw [List.length_append, List.nil_append, length_putBits, length_gbits]
  have hp : (pack ([] ++ putBits 0 n ++ gbits X)).length = (n + gsize X + 7) / 8 := by rw [length_pack, hL]
  unfold rest
  rw [unpack_take _ _ (by omega), (packs_pack _).unpack, List.take_append_of_le_length (by omega)]
  by_cases h0 : k = 0
  · subst h0
    simp [gok, lead]
  · rw [Nat.min_eq_left (by omega), List.drop_take, List.nil_append, List.drop_left' (length_putBits 0 n)]
    exact gtake_cut X hX _ (by omega)

theorem or_two (v s : Nat) (hv : v < 18446744073709551616) : ∃ X : Nat, bits .or .u64 ((v : Int) / 2 ^ s) 2 = (X : Int) ∧ X < 18446744073709551616 ∧ X ≠ 0 := by
  have e : (v : Int) / 2 ^ s = ((v / 2 ^ s : Nat) : Int) := by simp
  have hlt : v / 2 ^ s < 18446744073709551616 := Nat.lt_of_le_of_lt (Nat.div_le_self _ _) hv
  refine ⟨v / 2 ^ s ||| 2, ?_, ?_, ?_⟩
  · rw [e, show (2 : Int) = ((2 : Nat) : Int) from rfl, u64_or_nat _ _ hlt (by omega)]
  · exact Nat.or_lt_two_pow (n := 64) hlt (by omega)
  · have := @Nat.right_le_or (v / 2 ^ s) 2
    omega

set_option maxRecDepth 4000 in
set_option maxHeartbeats 800000 in
theorem walk (a0 : Int) (a1 : Int) (a2 : Int) (a3 : Int) (w0 : (Lit.int .u64 a0).wf = true) (w1 : (Lit.int .u8 a1).wf = true) (w2 : (Lit.int .u8 a2).wf = true) (w3 : (Lit.int .u8 a3).wf = true) (w : World) :
    Calls Try.prog 6 #[.int .u64 a0, .int .u8 a1, .int .u8 a2, .int .u8 a3] w fun e w' => e = .returned (.bool true) ∧ Below w.heap.size w w' := by
  obtain ⟨hb0, hb0'⟩ := bounds_u64 w0
  obtain ⟨hb1, hb1'⟩ := bounds_u8 w1
  obtain ⟨hb2, hb2'⟩ := bounds_u8 w2
  obtain ⟨hb3, hb3'⟩ := bounds_u8 w3
  obtain ⟨v, rfl⟩ := Int.eq_ofNat_of_zero_le hb0
  obtain ⟨s, rfl⟩ := Int.eq_ofNat_of_zero_le hb1
  obtain ⟨t, rfl⟩ := Int.eq_ofNat_of_zero_le hb2
  obtain ⟨c, rfl⟩ := Int.eq_ofNat_of_zero_le hb3
  obtain ⟨X, hXe, hX2, hX0⟩ := or_two v (s % 64) (by omega)
  obtain ⟨n, hn⟩ : ∃ n, n = t % 8 := ⟨_, rfl⟩
  have hn8 : n < 8 := by omega
  have hne : (t : Int) % 8 = (n : Int) := by omega
  have hgs := gsize_le X hX2
  have hg1 : 1 ≤ gsize X := by unfold gsize; rw [if_neg hX0]; omega
  clear w0 w1 w2 w3 hb0 hb1 hb2 hb3 hb0' hb1' hn
  have hc : c < 256 := by omega
  clear hb3'
  have HX : Hid _ := hXe
  clear hXe
  go_enter Try.func6, Try.ntmps6
  go_wp2_with fail
  refine (known_any w).mono ?_
  rintro e wa ⟨rfl, hf1⟩
  go_wp2_with fail
  rw [HX.out]
  refine (newWriter_any wa).mono ?_
  rintro e wb ⟨rfl, hwp, hf2⟩
  obtain ⟨p, hp⟩ : ∃ p, p = wa.heap.size := ⟨_, rfl⟩
  rw [← hp] at hwp ⊢
  have hnp : Newer w.heap.size p (.slice none 0 0) := by
    intro k hk
    rcases hk with rfl | hk
    · have := hf1.size; omega
    · simp [Value.ownBlock] at hk
  clear hp
  replace hf2 := hf1.none hf2
  clear hf1
  go_wp2_with fail
  rw [hne]
  refine (put_any p _ [] 0 (n : Int) wb hwp (by simp) (by omega)).mono ?_
  rintro e wc ⟨rfl, sv1, hw1, hf3, hm1⟩
  rw [show wide (n : Int) = n by unfold wide; omega] at hw1
  have hn1 := hnp.moved hm1 hf2.size
  replace hf3 := hf2.newer hf3 hnp
  clear hwp hf2 hm1 hnp
  go_wp2_with fail
  refine (gput_any p _ _ X wc hw1 (by rw [List.length_append, length_putBits]; simp; omega) hX2).mono ?_
  rintro e wd ⟨rfl, sv2, hw2, hf4, hm2⟩
  have hn2 := hn1.moved hm2 hf3.size
  replace hf4 := hf3.newer hf4 hn1
  clear hw1 hf3 hm2 hn1
  have hL : ([] ++ putBits 0 n ++ gbits X).length = n + gsize X := by rw [List.length_append, List.nil_append, length_putBits, length_gbits]
  have hcut := cut_none n X
  obtain ⟨L, hLe⟩ : ∃ L, L = [] ++ putBits 0 n ++ gbits X := ⟨_, rfl⟩
  rw [← hLe] at hL hw2 hcut
  have hpl : (pack L).length = (n + gsize X + 7) / 8 := by rw [length_pack, hL]
  have Hcut : Hid _ := hcut
  clear hLe hcut
  go_wp2_with fail
  refine (len_any p _ _ wd hw2).mono ?_
  rintro e wd' ⟨rfl, rfl⟩
  rw [hL]
  go_wp2_with fail
  refine (bytesP_any p _ L wd' hw2 (by omega)).mono ?_
  rintro e we ⟨ve, rfl, ⟨g, rfl, hoe, hge, hge'⟩, hwe, hf5⟩
  replace hf5 := hf4.none hf5
  have Hre : Hid (Reads .u8 we (.slice (some ⟨g, 0, none⟩) (pack L).length (pack L).length) (pack L)) := holds_own hoe
  clear hw2 hf4 hoe hge hge' hwe hn2
  have Hpl : Hid _ := hpl
  have hB1 : 1 ≤ (pack L).length := by omega
  have hB2 : (pack L).length ≤ 20 := by omega
  clear hpl hL
  obtain ⟨B, hB⟩ : ∃ B, B = (pack L).length := ⟨_, rfl⟩
  rw [← hB] at hB1 hB2 Hre ⊢
  have HB : Hid (B = (pack L).length) := hB
  clear hB
  have hd0 : ((B : Int) == 0) = false := by simp; omega
  have hd0' : (B == 0) = false := by simp; omega
  obtain ⟨k, hk⟩ : ∃ k, k = c % B := ⟨_, rfl⟩
  have hkB : k < B := by rw [hk]; exact Nat.mod_lt _ (by omega)
  have hke : (c : Int) % (B : Int) = (k : Int) := by rw [hk]; simp
  have hke' : (c : Int).tmod (B : Int) = (k : Int) := by rw [Int.tmod_eq_emod_of_nonneg (by omega), hke]
  clear hk
  have hbnd : (0 : Int) ≤ (c : Int).tmod (B : Int) ∧ (c : Int).tmod (B : Int) ≤ (B : Int) := by rw [hke']; omega
  go_wp2_with fail
  have hrk : Rds we (.slice (some ⟨g, 0, none⟩) k B) ((pack L).take k) := by
    have := Holds.take Hre.out k (by omega) B (by omega)
    rw [← row_take] at this
    exact Reads.rds this
  have hlk : ((pack L).take k).length = k := by rw [List.length_take, ← HB.out]; omega
  have hcut := Hcut.out k hn8 hX0 (by rw [← Hpl.out, ← HB.out]; exact hkB)
  have Hcut2 : Hid _ := hcut
  have hsm : ∀ j, ((pack L).take k).getD j 0 < 256 := by
    intro j
    rw [List.getD_eq_getElem?_getD, List.getElem?_take]
    split
    · have := (packs_pack L).small j
      rwa [List.getD_eq_getElem?_getD] at this
    · decide
  generalize (pack L).take k = bs at *
  refine (newReader_any _ bs we hrk (by omega) hsm).mono ?_
  rintro e wf ⟨q, svq, rfl, hrq, hf6, hnq⟩
  have hqn : w.heap.size ≤ q := by have := hnq q (.inl rfl); have := hf5.size; omega
  replace hf6 := hf5.none hf6
  clear hf5 hrk hnq hcut hke hke' hbnd hd0 hd0'
  have hk20 : k ≤ 20 := by omega
  by_cases h8 : n ≤ 8 * k
  · have Hmin : Hid (min n (8 * k) = n) := by show _ = _; omega
    go_wp2_with fail
    refine (take_yes q svq bs 0 (n : Int) wf hrq (by rw [hlk]; unfold wide; omega)).mono ?_
    rintro e wg ⟨rfl, hrg, hf7⟩
    rw [show wide (n : Int) = n by unfold wide; omega] at hrg ⊢
    replace hf7 := hf6.newer1 hf7 hqn
    generalize num _ = V
    rw [Nat.zero_add] at hrg
    have hok := Hcut2.out
    rw [Hmin.out] at hok
    have hlen : glen (rest bs n) = 0 := by unfold glen; rw [if_neg (by rw [hok]; decide)]
    clear hf6 hrq
    go_wp2_with fail
    refine (left_fr q svq bs n wg hrg).mono ?_
    rintro e wh ⟨rfl, hrh, hf8⟩
    replace hf8 := hf7.none hf8
    clear hf7 hrg
    go_wp2_with fail
    refine (gtake_any q svq bs n wh hrh).mono ?_
    rintro e wi ⟨rfl, hri, hf9⟩
    rw [hok]
    rw [hlen, Nat.add_zero] at hri
    replace hf9 := hf8.newer1 hf9 hqn
    clear hf8 hrh hok hlen
    generalize gval _ = V2
    go_wp2_with fail
    refine (left_fr q svq bs n wi hri).mono ?_
    rintro e wj ⟨rfl, hrj, hf10⟩
    replace hf10 := hf9.none hf10
    clear hf9 hri
    go_wp2_with fail
    refine (gsize_any X _ hX2).mono ?_
    rintro e wk ⟨rfl, rfl⟩
    go_wp2
    go_ret
    exact ⟨rfl, hf10.below (Nat.le_refl _) (fun _ h => h.elim)⟩
  · have Hmin : Hid (min n (8 * k) = 8 * k) := by show _ = _; omega
    go_wp2_with fail
    refine (take_yes q svq bs 0 (8 * (k : Int)) wf hrq (by rw [hlk]; unfold wide; omega)).mono ?_
    rintro e wg ⟨rfl, hrg, hf7⟩
    rw [show wide (8 * (k : Int)) = 8 * k by unfold wide; omega] at hrg ⊢
    replace hf7 := hf6.newer1 hf7 hqn
    generalize num _ = V
    rw [Nat.zero_add] at hrg
    have hok := Hcut2.out
    rw [Hmin.out] at hok
    have hlen : glen (rest bs (8 * k)) = 0 := by unfold glen; rw [if_neg (by rw [hok]; decide)]
    clear hf6 hrq
    go_wp2_with fail
    refine (left_fr q svq bs _ wg hrg).mono ?_
    rintro e wh ⟨rfl, hrh, hf8⟩
    replace hf8 := hf7.none hf8
    clear hf7 hrg
    go_wp2_with fail
    refine (gtake_any q svq bs _ wh hrh).mono ?_
    rintro e wi ⟨rfl, hri, hf9⟩
    rw [hok]
    rw [hlen, Nat.add_zero] at hri
    replace hf9 := hf8.newer1 hf9 hqn
    clear hf8 hrh hok hlen
    generalize gval _ = V2
    go_wp2_with fail
    refine (left_fr q svq bs _ wi hri).mono ?_
    rintro e wj ⟨rfl, hrj, hf10⟩
    replace hf10 := hf9.none hf10
    clear hf9 hri
    go_wp2_with fail
    refine (gsize_any X _ hX2).mono ?_
    rintro e wk ⟨rfl, rfl⟩
    go_wp2
    go_ret
    exact ⟨rfl, hf10.below (Nat.le_refl _) (fun _ h => h.elim)⟩

end Go.Proofs.Ytknmlmkenmaocaa.gammaCuts

/-
  The walk of the law LogLines, under the condition that logfmt's functions answer as their contracts say.
-/
import Derived.Test.YtpeibameegjefaaDoorRows
import Derived.Test.YtpeibameegjefaaDoorFLines
namespace Go.Proofs.YtpeibameegjefaaDoor.logLines
open Go.ChangeShapes Go.WideShapes Go.ChangeAt Go.RowKit

set_option maxRecDepth 4000 in
set_option maxHeartbeats 12800000 in
theorem walkM {K : World → Prop} (M : FI K) (a0 : Int) (a1 : Option Addr) (len1 cap1 : Nat) (z1 : List Int) (a2 : Int) (w : World) (w0 : (Lit.int .u8 a0).wf = true) (w1 : IsRow .u8 w a1 len1 cap1 z1) (w2 : (Lit.int .u8 a2).wf = true) (hK : K w) :
    Calls Tryd.prog 6 #[.int .u8 a0, .slice a1 len1 cap1, .int .u8 a2] w fun e w' => e = .returned (.bool true) ∧ Below w.heap.size w w' := by
  have HK : Hid (K w) := hK
  clear hK
  obtain ⟨bs, hbl, hbb, hbr⟩ := bytes_arg w1
  have Hbs : Hid (Reads .u8 w (.slice a1 len1 cap1) bs) := hbr
  have Hbb : Hid (∀ x ∈ bs, x < 256) := hbb
  have Hbl : Hid (bs.length = len1) := hbl
  obtain ⟨k, rfl, hk⟩ := eu8_nat w0
  have Hk : Hid (k < 256) := hk
  obtain ⟨bad, rfl, hbad⟩ := eu8_nat w2
  have Hbad : Hid (bad < 256) := hbad
  clear w0 w1 w2 z1 hbl hbb hbr hk hbad
  go_enter Tryd.func6, Tryd.ntmps6
  go_wp2_with fail
  refine (fknown_any M w HK.out).mono ?_
  rintro e w1 ⟨rfl, hf1⟩
  have Hf1 : Hid (Fr w w1 (fun _ => False)) := hf1
  clear hf1
  by_cases hb60 : 60 < len1
  · have d1 : decide ((60 : Int) < (len1 : Int)) = true := decide_eq_true (by omega)
    have d1' : decide (60 < len1) = true := decide_eq_true hb60
    go_wp2
    go_ret
    exact ⟨rfl, ebelow Hf1.out⟩
  have db60 : decide ((60 : Int) < (len1 : Int)) = false := decide_eq_false (by omega)
  have db60' : decide (60 < len1) = false := decide_eq_false hb60
  have Hl : Hid (bs.length ≤ 60) := by have := Hbl.out; show _ ≤ _; omega
  clear hb60
  go_wp2_with fail
  refine (seatH_any k _ bs _ (Hbs.out.keep Hf1.out) Hbb.out (by have := Hl.out; omega) Hk.out).mono ?_
  rintro r w2 ⟨n, E, a2', m, c2', rfl, hm, hnv, hEv, hok, hr2, hmc, g⟩
  have Hf2 : Hid (Fr w w2 (fun _ => False)) := Hf1.out.none g
  have HO : Hid (HOk n E) := hok
  have Hm : Hid (m = E.length) := hm
  have Hm2 : Hid (m + 2 = E.length + 2) := by show _ = _; rw [hm]
  have Hr2 : Hid (RdV w2 (.slice a2' m c2') E) := hr2
  have Hn2 : Hid (2 ≤ n) := by rw [hnv]; exact (vertF_bounds k).1
  have Hlast : Hid (∀ y, E.getLast? = some y → y.1 < 4611686018427387903) := fun y hy => by
    have h1 := hist_ok k bs y (by rw [← hEv]; exact List.mem_of_getLast? hy)
    have h2 := h1.2.1
    have h3 := Hl.out
    omega
  clear g hok hm hr2 hmc hnv hEv
  go_upto_region 6 with fail
  obtain ⟨ph, hph⟩ : ∃ p, p = w2.heap.size := ⟨_, rfl⟩
  obtain ⟨w3, hw3⟩ : ∃ x, x = w2.alloc (.cells #[.int .u64 (n : Int), .slice a2' m c2'] 25) := ⟨_, rfl⟩
  rw [← hw3, ← hph]
  have Qh : Hid (∀ z, Fr w3 z (fun _ => False) → z.heap[ph]? = some (.cells #[.int .u64 (n : Int), .slice a2' m c2'] 25 (0, 0))) := fun z hz => hz.kept (by rw [hw3, hph]; exact heap_alloc_new _ _) (fun h => h)
  have H23 : Hid (Fr w2 w3 (fun _ => False)) := by show Fr _ _ _; rw [hw3]; exact (Fr.refl _ _).alloc _
  have Hf3 : Hid (Fr w w3 (fun _ => False)) := Hf2.out.none H23.out
  have Hr3 : Hid (∀ z, Fr w3 z (fun _ => False) → RdV z (.slice a2' m c2') E) := fun z hz => Hr2.out.keep (H23.out.none hz)
  clear hph hw3
  obtain ⟨ka, kb⟩ : w3.cell? ⟨ph, 0, none⟩ = some (.int .u64 (n : Int)) ∧ w3.cell? ⟨ph, 1, none⟩ = some (.slice a2' m c2') := ⟨two_cell0 (Qh.out w3 (Fr.refl _ _)), two_cell1 (Qh.out w3 (Fr.refl _ _))⟩
  have H40 := HO.out.len
  have hc0 : (checkF n E).2 = 0 := by rw [HO.out.chk]
  have hpr := M.print n _ E w3 (Hr3.out _ (Fr.refl _ _)) HO.out.n64 (by omega) HO.out.fit (M.keep HK.out Hf3.out)
  obtain ⟨L0, hL0⟩ : ∃ L, L = logL n E := ⟨_, rfl⟩
  obtain ⟨S0, hS0⟩ : ∃ S, S = strOf L0 := ⟨_, rfl⟩
  have hS : prLog n E = S0 := by rw [hS0, hL0]; exact prLog_ok hc0
  have hLl : L0.length ≤ 6000 := by have h1 := log_len hc0; rw [hL0]; omega
  rw [hS, hc0] at hpr
  unfold histV at hpr
  have HL0 : Hid (L0 = logL n E) := hL0
  have HS : Hid (S0 = strOf L0) := hS0
  have HSn : Hid (S0.size = L0.length) := by show _ = _; rw [hS0, strOf_length]
  have HSz : Hid (S0.size ≤ 6000) := by show _ ≤ _; rw [hS0, strOf_length]; exact hLl
  have Hc0 : Hid _ := hc0
  have Hcn : Hid (nls L0 = E.length + 1) := by show _ = _; rw [hL0]; exact nls_log n E
  have HL6 : Hid (∀ x ∈ L0, x < 256) := by rw [hL0]; exact log_lt hc0
  have HIx : Hid (∀ i, i < L0.length → chAt S0 i = L0.getD i 0) := fun i hi => by rw [HS.out]; exact chAt_strOf L0 i hi HL6.out
  clear hS hL0 hS0 hc0 H40 hLl
  go_wp2_with fail
  refine hpr.mono ?_
  clear hpr ka kb
  rintro r w4 ⟨rfl, g⟩
  have H34 : Hid (Fr w3 w4 (fun _ => False)) := g
  clear g
  obtain ⟨Z, hZ⟩ : ∃ Z, Z = L0.length := ⟨_, rfl⟩
  have HZ : Hid _ := hZ
  clear hZ
  have hXe : (S0.size : Int) = (Z : Int) := by rw [HSn.out, HZ.out]
  go_wp2_with fail
  go_loopg [10, 11] Z (fun g A I wr => ∃ i : Nat, g = Z - i ∧ i ≤ Z ∧ I = .int .i64 (i : Int) ∧ A = .int .i64 ((nls (L0.take i) : Nat) : Int) ∧ Fr w3 wr (fun _ => False))
  case atStart => exact ⟨0, by omega, by omega, rfl, rfl, H34.out⟩
  case round =>
    obtain ⟨i, hg, hi, rfl, rfl, hf⟩ := hrel
    have Hg : Hid _ := hg
    have Hf : Hid (Fr w3 wr (fun _ => False)) := hf
    have hbd := nls_le (L0.take i)
    have hz6 := HSz.out
    rw [HSn.out, ← HZ.out] at hz6
    rw [List.length_take, ← HZ.out, Nat.min_eq_left hi] at hbd
    clear hg hf
    by_cases hlt : i < Z
    · have hin : (i : Int) < (Z : Int) := by omega
      have hin' : decide (i < Z) = true := decide_eq_true hlt
      have hin2 : (i : Int) < (S0.size : Int) := by rw [hXe]; exact hin
      have hin3 : i < S0.size := by rw [HSn.out, ← HZ.out]; exact hlt
      have hin4 : i < L0.length := by rw [← HZ.out]; exact hlt
      obtain ⟨y, hy⟩ : ∃ y, y = L0.getD i 0 := ⟨_, rfl⟩
      have hst := nls_step (show L0.take (i + 1) = L0.take i ++ [y] by rw [hy]; exact take_step hin4)
      have hix : ∀ z, (Instr.index 9 (.string S0) (.int .i64 (i : Int))).run Tryd.prog z = .ok (.int .u8 (y : Int)) z := fun z => by rw [hy, ← HIx.out i hin4]; exact index_any S0 i hin3 z
      obtain ⟨cn, hcn⟩ : ∃ v, v = nls (L0.take i) := ⟨_, rfl⟩
      rw [← hcn] at hst hbd ⊢
      clear hcn hy
      by_cases hnl : y = 10
      · have h10 : ((y : Int) == 10) = true := by rw [beq_iff_eq]; omega
        rw [if_pos hnl] at hst
        have Hst : Hid _ := hst
        clear hst hnl
        go_wp2_with fail
        go_roundg (Z - (i + 1))
        case rel => exact ⟨i + 1, rfl, by omega, by go_num, by rw [Hst.out]; go_num, Hf.out⟩
        case measure => rw [Hg.out]; omega
      · have h10 : ((y : Int) == 10) = false := by rw [beq_eq_false_iff_ne]; omega
        rw [if_neg hnl] at hst
        have Hst : Hid _ := hst
        clear hst hnl
        go_wp2_with fail
        go_roundg (Z - (i + 1))
        case rel => exact ⟨i + 1, rfl, by omega, by go_num, by rw [Hst.out]; rfl, Hf.out⟩
        case measure => rw [Hg.out]; omega
    obtain rfl : i = Z := by omega
    have hin : ¬ (i : Int) < (i : Int) := by omega
    have hin' : decide (i < i) = false := decide_eq_false hlt
    have hin2 : decide ((i : Int) < (S0.size : Int)) = false := by rw [hXe]; exact decide_eq_false hin
    rw [List.take_of_length_le (by rw [HZ.out]; exact Nat.le_refl _), Hcn.out]
    obtain ⟨N, hN⟩ : ∃ v, v = E.length + 1 := ⟨_, rfl⟩
    rw [← hN]
    have HN : Hid (N = E.length + 1) := hN
    clear hN hbd hlt
    obtain ⟨ka, kb⟩ : wr.cell? ⟨ph, 0, none⟩ = some (.int .u64 (n : Int)) ∧ wr.cell? ⟨ph, 1, none⟩ = some (.slice a2' m c2') := ⟨two_cell0 (Qh.out wr Hf.out), two_cell1 (Qh.out wr Hf.out)⟩
    have hhi := history13_any n _ E wr (Hr3.out _ Hf.out) (by have := HO.out.len; omega)
    unfold histV at hhi
    have hLTb : lastT E = -1 ∨ (0 ≤ lastT E ∧ lastT E ≤ 4611686018427387903) := by
      unfold lastT
      cases hg : E.getLast? with
      | none => exact .inl rfl
      | some y => exact .inr (HO.out.times y (List.mem_of_getLast? hg))
    obtain ⟨LT, hLT⟩ : ∃ v, v = lastT E := ⟨_, rfl⟩
    rw [← hLT] at hhi hLTb
    clear hLT
    go_upto_region 13 with fail
    go_cut [12] from 44 to 48 (fun V wx => (∃ t : Nat, t ≤ 4611686018427387903 ∧ V = .string (strOf (decL t))) ∧ Fr w3 wx (fun _ => False))
    case first =>
      go_wp2_with fail
      refine hhi.mono ?_
      clear hhi ka kb
      rintro r wy ⟨rfl, g⟩
      have Hy : Hid (Fr w3 wy (fun _ => False)) := Hf.out.none g
      clear g
      rcases hLTb with rfl | ⟨hlo, hhi2⟩
      · have hd0 := refDecimal_any 0 wy (by decide)
        go_wp2_with fail
        refine hd0.mono ?_
        rintro r wv ⟨rfl, g⟩
        have Hv : Hid (Fr w3 wv (fun _ => False)) := Hy.out.none g
        clear g hd0
        go_wp2_with fail
        go_meet
        case rel => exact ⟨⟨0, by decide, rfl⟩, Hv.out⟩
      · obtain ⟨t, rfl⟩ : ∃ t : Nat, LT = (t : Int) := ⟨LT.toNat, by omega⟩
        have Ht : Hid (t ≤ 4611686018427387903) := by show _ ≤ _; omega
        have hd0 := refDecimal_any t wy (by have := Ht.out; omega)
        have m1 : ¬ (t : Int) < 0 := by omega
        have m2 : max (t : Int) 0 = (t : Int) := by omega
        have m3 : IntKind.u64.wrap (t : Int) = (t : Int) := by rw [IntKind.wrap_u64]; omega
        go_wp2_with fail
        refine hd0.mono ?_
        rintro r wv ⟨rfl, g⟩
        have Hv : Hid (Fr w3 wv (fun _ => False)) := Hy.out.none g
        clear g hd0 hlo hhi2 m1 m2 m3
        go_wp2_with fail
        go_meet
        case rel => exact ⟨⟨t, Ht.out, rfl⟩, Hv.out⟩
    case rest =>
    obtain ⟨⟨t, ht, rfl⟩, hwc⟩ := hcut
    have Ht : Hid (t ≤ 4611686018427387903) := ht
    have Hwc : Hid (Fr w3 wc (fun _ => False)) := hwc
    have hdz : (strOf (decL t)).size ≤ 20 := by rw [strOf_length]; exact decL_len20 t (by omega)
    obtain ⟨D, hD⟩ : ∃ D, D = strOf (decL t) := ⟨_, rfl⟩
    rw [← hD] at hdz ⊢
    have HD : Hid (D = strOf (decL t)) := hD
    have HDz : Hid (D.size ≤ 20) := hdz
    have s1 : ¬ 9223372036854775807 < D.size + 7 := by omega
    have s2 : ¬ 9223372036854775807 < D.size + 16 := by omega
    clear hhi hLTb ka kb ht hwc hD hdz hin hin' hin2 hi hz6
    obtain ⟨b8, hb8⟩ : ∃ v, v = bad % 8 := ⟨_, rfl⟩
    have hb9 : b8 < 8 := by omega
    have tb : (bad : Int).tmod 8 = (b8 : Int) := by have := Hbad.out; rw [Int.tmod_eq_emod_of_nonneg (by omega)]; omega
    have ub : IntKind.u8.wrap (b8 : Int) = (b8 : Int) := by rw [IntKind.wrap_u8]; omega
    clear hb8
    obtain rfl | rfl | rfl | rfl | rfl | rfl | rfl | rfl : b8 = 0 ∨ b8 = 1 ∨ b8 = 2 ∨ b8 = 3 ∨ b8 = 4 ∨ b8 = 5 ∨ b8 = 6 ∨ b8 = 7 := by omega
    · -- 0
      go_upto_region 17 with fail
      obtain ⟨z1, hz1⟩ : ∃ z, z = ((wc.alloc (.cells #[.string ⟨#[48, 32, 43, 32, 49, 32, 49, 10]⟩, .string (D ++ ⟨#[32, 43, 32, 49, 32, 48, 10]⟩), .string (D ++ ⟨#[32, 43, 32, 48, 32, 52, 50, 57, 52, 57, 54, 55, 50, 57, 53, 10]⟩), .string ⟨#[52, 54, 49, 49, 54, 56, 54, 48, 49, 56, 52, 50, 55, 51, 56, 55, 57, 48, 51, 32, 45, 32, 48, 32, 49, 10]⟩, .string ⟨#[120, 10]⟩, .string ⟨#[52, 54, 49, 49, 54, 56, 54, 48, 49, 56, 52, 50, 55, 51, 56, 55, 57, 48, 52, 32, 43, 32, 48, 32, 49, 10]⟩, .string ⟨#[32, 53, 32, 43, 32, 48, 32, 49, 10]⟩, .string ⟨#[53, 32, 43, 32, 48, 32, 49, 32, 10]⟩] 9)).alloc (.cells #[.int .i64 24, .int .i64 24, .int .i64 24, .int .i64 25, .int .i64 21, .int .i64 22, .int .i64 21, .int .i64 21] 3)).alloc (.cells #[.int .i64 1, .int .i64 1, .int .i64 1, .int .i64 1, .int .i64 1, .int .i64 1, .int .i64 1, .int .i64 8] 3) := ⟨_, rfl⟩
      rw [← hz1]
      have Z1 : Hid (Fr w3 z1 (fun _ => False)) := by show Fr _ _ _; rw [hz1]; exact ((Hwc.out.alloc _).alloc _).alloc _
      clear hz1
      obtain ⟨ka, kb⟩ : z1.cell? ⟨ph, 0, none⟩ = some (.int .u64 (n : Int)) ∧ z1.cell? ⟨ph, 1, none⟩ = some (.slice a2' m c2') := ⟨two_cell0 (Qh.out z1 Z1.out), two_cell1 (Qh.out z1 Z1.out)⟩
      have hhi := history13_any n _ E z1 (Hr3.out _ Z1.out) (by have := HO.out.len; omega)
      unfold histV at hhi
      obtain ⟨LT, hLT⟩ : ∃ v, v = lastT E := ⟨_, rfl⟩
      rw [← hLT] at hhi
      clear hLT
      go_wp2_with fail
      refine hhi.mono ?_
      clear hhi ka kb
      rintro r z2 ⟨rfl, g⟩
      have Z2 : Hid (Fr w3 z2 (fun _ => False)) := Z1.out.none g
      clear g
      by_cases hpos : (0 : Int) < LT
      · have e0 : decide ((0 : Int) < LT) = true := decide_eq_true hpos
        go_upto_region 23 with fail
        clear e0
        have hR := bad0 (n := n) (E := E) (by have := HO.out.len; omega) Hc0.out
        rw [← HL0.out] at hR
        have hRs := HS.out
        rw [← hRs] at hR
        skip
        obtain ⟨RL, hRL⟩ : ∃ v, v = E.length + 2 := ⟨_, rfl⟩
        rw [← hRL] at hR
        have HRL : Hid (RL = E.length + 2) := hRL
        clear hRL
        have hpz := M.parse (S0 ++ ⟨#[48, 32, 43, 32, 49, 32, 49, 10]⟩) z2 (by
          have h1 := HSz.out
          have h2 := HDz.out
          simp only [ByteArray.size_append]
          show S0.size + 8 ≤ 100000
          omega) (M.keep (M.keep HK.out Hf3.out) Z2.out)
        rw [hR] at hpz
        unfold histV placeR at hpz
        dsimp only at hpz
        have ov : ¬ 9223372036854775807 < S0.size + 8 := by have h1 := HSz.out; have h2 := HDz.out; omega
        clear hR hRs
        go_wp2_with fail
        refine hpz.mono ?_
        clear hpz ov
        rintro r z7 ⟨⟨v7, rfl, hr7⟩, g⟩
        obtain ⟨a7, c7, rfl, -⟩ : ∃ a c, v7 = .slice a 0 c ∧ 0 ≤ c := hr7.form
        have Z7 : Hid (Fr w3 z7 (fun _ => False)) := Z2.out.none g
        clear g hr7
        go_upto_region 24 with fail
        obtain ⟨p1, hp1⟩ : ∃ p, p = z7.heap.size := ⟨_, rfl⟩
        obtain ⟨p2, hp2⟩ : ∃ p, p = p1 + 1 := ⟨_, rfl⟩
        obtain ⟨z8, hz8⟩ : ∃ x, x = (z7.alloc (.cells #[.int .u64 0, .slice a7 0 c7] 25)).alloc (.cells #[.int .i64 (RL : Int), .int .i64 1] 38) := ⟨_, rfl⟩
        rw [← hz8, ← hp1, ← hp2]
        have q2 : z8.heap[p2]? = some (.cells #[.int .i64 (RL : Int), .int .i64 1] 38 (0, 0)) := by
          have h0 := heap_alloc_new (z7.alloc (.cells #[.int .u64 0, .slice a7 0 c7] 25)) (.cells #[.int .i64 (RL : Int), .int .i64 1] 38)
          rw [hz8, hp2, hp1]
          simpa using h0
        have Z8 : Hid (Fr w3 z8 (fun _ => False)) := by show Fr _ _ _; rw [hz8]; exact (Z7.out.alloc _).alloc _
        have h40 := HO.out.len
        have hme := Hm.out
        have e1 : ((N : Int) == (m : Int) + 1) = true := by rw [beq_iff_eq]; have := HN.out; omega
        have e2 : ((RL : Int) == (N : Int) + 1) = true := by rw [beq_iff_eq]; have := HN.out; have := HRL.out; omega
        have e3 : N ≤ 41 := by have := HN.out; omega
        have e4 : m ≤ 40 := by omega
        obtain ⟨kc, kd⟩ : z8.cell? ⟨p2, 0, none⟩ = some (.int .i64 (RL : Int)) ∧ z8.cell? ⟨p2, 1, none⟩ = some (.int .i64 1) := ⟨two_cell0 q2, two_cell1 q2⟩
        obtain ⟨ka, kb⟩ : z8.cell? ⟨ph, 0, none⟩ = some (.int .u64 (n : Int)) ∧ z8.cell? ⟨ph, 1, none⟩ = some (.slice a2' m c2') := ⟨two_cell0 (Qh.out z8 Z8.out), two_cell1 (Qh.out z8 Z8.out)⟩
        have Hfo : Hid (Fr w z8 (fun _ => False)) := Hf3.out.none Z8.out
        clear hz8 hp1 hp2 q2 hme h40
        go_wp2
        go_ret
        exact ⟨rfl, ebelow Hfo.out⟩
      · have e0 : decide ((0 : Int) < LT) = false := decide_eq_false hpos
        go_upto_region 23 with fail
        clear e0
        have hR := bad0 (n := n) (E := E) (by have := HO.out.len; omega) Hc0.out
        rw [← HL0.out] at hR
        have hRs := HS.out
        rw [← hRs] at hR
        skip
        obtain ⟨RL, hRL⟩ : ∃ v, v = E.length + 2 := ⟨_, rfl⟩
        rw [← hRL] at hR
        have HRL : Hid (RL = E.length + 2) := hRL
        clear hRL
        have hpz := M.parse (S0 ++ ⟨#[48, 32, 43, 32, 49, 32, 49, 10]⟩) z2 (by
          have h1 := HSz.out
          have h2 := HDz.out
          simp only [ByteArray.size_append]
          show S0.size + 8 ≤ 100000
          omega) (M.keep (M.keep HK.out Hf3.out) Z2.out)
        rw [hR] at hpz
        unfold histV placeR at hpz
        dsimp only at hpz
        have ov : ¬ 9223372036854775807 < S0.size + 8 := by have h1 := HSz.out; have h2 := HDz.out; omega
        clear hR hRs
        go_wp2_with fail
        refine hpz.mono ?_
        clear hpz ov
        rintro r z7 ⟨⟨v7, rfl, hr7⟩, g⟩
        obtain ⟨a7, c7, rfl, -⟩ : ∃ a c, v7 = .slice a 0 c ∧ 0 ≤ c := hr7.form
        have Z7 : Hid (Fr w3 z7 (fun _ => False)) := Z2.out.none g
        clear g hr7
        go_upto_region 24 with fail
        obtain ⟨p1, hp1⟩ : ∃ p, p = z7.heap.size := ⟨_, rfl⟩
        obtain ⟨p2, hp2⟩ : ∃ p, p = p1 + 1 := ⟨_, rfl⟩
        obtain ⟨z8, hz8⟩ : ∃ x, x = (z7.alloc (.cells #[.int .u64 0, .slice a7 0 c7] 25)).alloc (.cells #[.int .i64 (RL : Int), .int .i64 1] 38) := ⟨_, rfl⟩
        rw [← hz8, ← hp1, ← hp2]
        have q2 : z8.heap[p2]? = some (.cells #[.int .i64 (RL : Int), .int .i64 1] 38 (0, 0)) := by
          have h0 := heap_alloc_new (z7.alloc (.cells #[.int .u64 0, .slice a7 0 c7] 25)) (.cells #[.int .i64 (RL : Int), .int .i64 1] 38)
          rw [hz8, hp2, hp1]
          simpa using h0
        have Z8 : Hid (Fr w3 z8 (fun _ => False)) := by show Fr _ _ _; rw [hz8]; exact (Z7.out.alloc _).alloc _
        have h40 := HO.out.len
        have hme := Hm.out
        have e1 : ((N : Int) == (m : Int) + 1) = true := by rw [beq_iff_eq]; have := HN.out; omega
        have e2 : ((RL : Int) == (N : Int) + 1) = true := by rw [beq_iff_eq]; have := HN.out; have := HRL.out; omega
        have e3 : N ≤ 41 := by have := HN.out; omega
        have e4 : m ≤ 40 := by omega
        obtain ⟨kc, kd⟩ : z8.cell? ⟨p2, 0, none⟩ = some (.int .i64 (RL : Int)) ∧ z8.cell? ⟨p2, 1, none⟩ = some (.int .i64 1) := ⟨two_cell0 q2, two_cell1 q2⟩
        obtain ⟨ka, kb⟩ : z8.cell? ⟨ph, 0, none⟩ = some (.int .u64 (n : Int)) ∧ z8.cell? ⟨ph, 1, none⟩ = some (.slice a2' m c2') := ⟨two_cell0 (Qh.out z8 Z8.out), two_cell1 (Qh.out z8 Z8.out)⟩
        have Hfo : Hid (Fr w z8 (fun _ => False)) := Hf3.out.none Z8.out
        clear hz8 hp1 hp2 q2 hme h40
        go_wp2
        go_ret
        exact ⟨rfl, ebelow Hfo.out⟩
    · -- 1
      go_upto_region 17 with fail
      obtain ⟨z1, hz1⟩ : ∃ z, z = ((wc.alloc (.cells #[.string ⟨#[48, 32, 43, 32, 49, 32, 49, 10]⟩, .string (D ++ ⟨#[32, 43, 32, 49, 32, 48, 10]⟩), .string (D ++ ⟨#[32, 43, 32, 48, 32, 52, 50, 57, 52, 57, 54, 55, 50, 57, 53, 10]⟩), .string ⟨#[52, 54, 49, 49, 54, 56, 54, 48, 49, 56, 52, 50, 55, 51, 56, 55, 57, 48, 51, 32, 45, 32, 48, 32, 49, 10]⟩, .string ⟨#[120, 10]⟩, .string ⟨#[52, 54, 49, 49, 54, 56, 54, 48, 49, 56, 52, 50, 55, 51, 56, 55, 57, 48, 52, 32, 43, 32, 48, 32, 49, 10]⟩, .string ⟨#[32, 53, 32, 43, 32, 48, 32, 49, 10]⟩, .string ⟨#[53, 32, 43, 32, 48, 32, 49, 32, 10]⟩] 9)).alloc (.cells #[.int .i64 24, .int .i64 24, .int .i64 24, .int .i64 25, .int .i64 21, .int .i64 22, .int .i64 21, .int .i64 21] 3)).alloc (.cells #[.int .i64 1, .int .i64 1, .int .i64 1, .int .i64 1, .int .i64 1, .int .i64 1, .int .i64 1, .int .i64 8] 3) := ⟨_, rfl⟩
      rw [← hz1]
      have Z1 : Hid (Fr w3 z1 (fun _ => False)) := by show Fr _ _ _; rw [hz1]; exact ((Hwc.out.alloc _).alloc _).alloc _
      clear hz1
      obtain ⟨ka, kb⟩ : z1.cell? ⟨ph, 0, none⟩ = some (.int .u64 (n : Int)) ∧ z1.cell? ⟨ph, 1, none⟩ = some (.slice a2' m c2') := ⟨two_cell0 (Qh.out z1 Z1.out), two_cell1 (Qh.out z1 Z1.out)⟩
      go_upto_region 23 with fail
      clear ka kb
      have hR := bad1 (n := n) (E := E) (by have := HO.out.len; omega) Hc0.out Ht.out
      rw [← HL0.out] at hR
      have hRs := HS.out
      rw [← hRs] at hR
      rw [← HD.out] at hR
      obtain ⟨RL, hRL⟩ : ∃ v, v = E.length + 2 := ⟨_, rfl⟩
      rw [← hRL] at hR
      have HRL : Hid (RL = E.length + 2) := hRL
      clear hRL
      have hpz := M.parse (S0 ++ (D ++ ⟨#[32, 43, 32, 49, 32, 48, 10]⟩)) z1 (by
        have h1 := HSz.out
        have h2 := HDz.out
        simp only [ByteArray.size_append]
        show S0.size + (D.size + 7) ≤ 100000
        omega) (M.keep (M.keep HK.out Hf3.out) Z1.out)
      rw [hR] at hpz
      unfold histV placeR at hpz
      dsimp only at hpz
      have ov : ¬ 9223372036854775807 < S0.size + (D.size + 7) := by have h1 := HSz.out; have h2 := HDz.out; omega
      clear hR hRs
      go_wp2_with fail
      refine hpz.mono ?_
      clear hpz ov
      rintro r z7 ⟨⟨v7, rfl, hr7⟩, g⟩
      obtain ⟨a7, c7, rfl, -⟩ : ∃ a c, v7 = .slice a 0 c ∧ 0 ≤ c := hr7.form
      have Z7 : Hid (Fr w3 z7 (fun _ => False)) := Z1.out.none g
      clear g hr7
      go_upto_region 24 with fail
      obtain ⟨p1, hp1⟩ : ∃ p, p = z7.heap.size := ⟨_, rfl⟩
      obtain ⟨p2, hp2⟩ : ∃ p, p = p1 + 1 := ⟨_, rfl⟩
      obtain ⟨z8, hz8⟩ : ∃ x, x = (z7.alloc (.cells #[.int .u64 0, .slice a7 0 c7] 25)).alloc (.cells #[.int .i64 (RL : Int), .int .i64 1] 38) := ⟨_, rfl⟩
      rw [← hz8, ← hp1, ← hp2]
      have q2 : z8.heap[p2]? = some (.cells #[.int .i64 (RL : Int), .int .i64 1] 38 (0, 0)) := by
        have h0 := heap_alloc_new (z7.alloc (.cells #[.int .u64 0, .slice a7 0 c7] 25)) (.cells #[.int .i64 (RL : Int), .int .i64 1] 38)
        rw [hz8, hp2, hp1]
        simpa using h0
      have Z8 : Hid (Fr w3 z8 (fun _ => False)) := by show Fr _ _ _; rw [hz8]; exact (Z7.out.alloc _).alloc _
      have h40 := HO.out.len
      have hme := Hm.out
      have e1 : ((N : Int) == (m : Int) + 1) = true := by rw [beq_iff_eq]; have := HN.out; omega
      have e2 : ((RL : Int) == (N : Int) + 1) = true := by rw [beq_iff_eq]; have := HN.out; have := HRL.out; omega
      have e3 : N ≤ 41 := by have := HN.out; omega
      have e4 : m ≤ 40 := by omega
      obtain ⟨kc, kd⟩ : z8.cell? ⟨p2, 0, none⟩ = some (.int .i64 (RL : Int)) ∧ z8.cell? ⟨p2, 1, none⟩ = some (.int .i64 1) := ⟨two_cell0 q2, two_cell1 q2⟩
      obtain ⟨ka, kb⟩ : z8.cell? ⟨ph, 0, none⟩ = some (.int .u64 (n : Int)) ∧ z8.cell? ⟨ph, 1, none⟩ = some (.slice a2' m c2') := ⟨two_cell0 (Qh.out z8 Z8.out), two_cell1 (Qh.out z8 Z8.out)⟩
      have Hfo : Hid (Fr w z8 (fun _ => False)) := Hf3.out.none Z8.out
      clear hz8 hp1 hp2 q2 hme h40
      go_wp2
      go_ret
      exact ⟨rfl, ebelow Hfo.out⟩
    · -- 2
      go_upto_region 17 with fail
      obtain ⟨z1, hz1⟩ : ∃ z, z = ((wc.alloc (.cells #[.string ⟨#[48, 32, 43, 32, 49, 32, 49, 10]⟩, .string (D ++ ⟨#[32, 43, 32, 49, 32, 48, 10]⟩), .string (D ++ ⟨#[32, 43, 32, 48, 32, 52, 50, 57, 52, 57, 54, 55, 50, 57, 53, 10]⟩), .string ⟨#[52, 54, 49, 49, 54, 56, 54, 48, 49, 56, 52, 50, 55, 51, 56, 55, 57, 48, 51, 32, 45, 32, 48, 32, 49, 10]⟩, .string ⟨#[120, 10]⟩, .string ⟨#[52, 54, 49, 49, 54, 56, 54, 48, 49, 56, 52, 50, 55, 51, 56, 55, 57, 48, 52, 32, 43, 32, 48, 32, 49, 10]⟩, .string ⟨#[32, 53, 32, 43, 32, 48, 32, 49, 10]⟩, .string ⟨#[53, 32, 43, 32, 48, 32, 49, 32, 10]⟩] 9)).alloc (.cells #[.int .i64 24, .int .i64 24, .int .i64 24, .int .i64 25, .int .i64 21, .int .i64 22, .int .i64 21, .int .i64 21] 3)).alloc (.cells #[.int .i64 1, .int .i64 1, .int .i64 1, .int .i64 1, .int .i64 1, .int .i64 1, .int .i64 1, .int .i64 8] 3) := ⟨_, rfl⟩
      rw [← hz1]
      have Z1 : Hid (Fr w3 z1 (fun _ => False)) := by show Fr _ _ _; rw [hz1]; exact ((Hwc.out.alloc _).alloc _).alloc _
      clear hz1
      obtain ⟨ka, kb⟩ : z1.cell? ⟨ph, 0, none⟩ = some (.int .u64 (n : Int)) ∧ z1.cell? ⟨ph, 1, none⟩ = some (.slice a2' m c2') := ⟨two_cell0 (Qh.out z1 Z1.out), two_cell1 (Qh.out z1 Z1.out)⟩
      by_cases hn32 : n = 4294967296
      · have e0 : ((n : Int) == 4294967296) = true := by rw [beq_iff_eq]; omega
        have Hfo : Hid (Fr w z1 (fun _ => False)) := Hf3.out.none Z1.out
        go_wp2
        go_ret
        exact ⟨rfl, ebelow Hfo.out⟩
      have e0 : ((n : Int) == 4294967296) = false := by rw [beq_eq_false_iff_ne]; omega
      go_upto_region 23 with fail
      clear ka kb e0
      have hR := bad2 (n := n) (E := E) (by have := HO.out.len; omega) Hc0.out Ht.out hn32
      rw [← HL0.out] at hR
      have hRs := HS.out
      rw [← hRs] at hR
      rw [← HD.out] at hR
      obtain ⟨RL, hRL⟩ : ∃ v, v = E.length + 2 := ⟨_, rfl⟩
      rw [← hRL] at hR
      have HRL : Hid (RL = E.length + 2) := hRL
      clear hRL
      have hpz := M.parse (S0 ++ (D ++ ⟨#[32, 43, 32, 48, 32, 52, 50, 57, 52, 57, 54, 55, 50, 57, 53, 10]⟩)) z1 (by
        have h1 := HSz.out
        have h2 := HDz.out
        simp only [ByteArray.size_append]
        show S0.size + (D.size + 16) ≤ 100000
        omega) (M.keep (M.keep HK.out Hf3.out) Z1.out)
      rw [hR] at hpz
      unfold histV placeR at hpz
      dsimp only at hpz
      have ov : ¬ 9223372036854775807 < S0.size + (D.size + 16) := by have h1 := HSz.out; have h2 := HDz.out; omega
      clear hR hRs
      go_wp2_with fail
      refine hpz.mono ?_
      clear hpz ov
      rintro r z7 ⟨⟨v7, rfl, hr7⟩, g⟩
      obtain ⟨a7, c7, rfl, -⟩ : ∃ a c, v7 = .slice a 0 c ∧ 0 ≤ c := hr7.form
      have Z7 : Hid (Fr w3 z7 (fun _ => False)) := Z1.out.none g
      clear g hr7
      go_upto_region 24 with fail
      obtain ⟨p1, hp1⟩ : ∃ p, p = z7.heap.size := ⟨_, rfl⟩
      obtain ⟨p2, hp2⟩ : ∃ p, p = p1 + 1 := ⟨_, rfl⟩
      obtain ⟨z8, hz8⟩ : ∃ x, x = (z7.alloc (.cells #[.int .u64 0, .slice a7 0 c7] 25)).alloc (.cells #[.int .i64 (RL : Int), .int .i64 1] 38) := ⟨_, rfl⟩
      rw [← hz8, ← hp1, ← hp2]
      have q2 : z8.heap[p2]? = some (.cells #[.int .i64 (RL : Int), .int .i64 1] 38 (0, 0)) := by
        have h0 := heap_alloc_new (z7.alloc (.cells #[.int .u64 0, .slice a7 0 c7] 25)) (.cells #[.int .i64 (RL : Int), .int .i64 1] 38)
        rw [hz8, hp2, hp1]
        simpa using h0
      have Z8 : Hid (Fr w3 z8 (fun _ => False)) := by show Fr _ _ _; rw [hz8]; exact (Z7.out.alloc _).alloc _
      have h40 := HO.out.len
      have hme := Hm.out
      have e1 : ((N : Int) == (m : Int) + 1) = true := by rw [beq_iff_eq]; have := HN.out; omega
      have e2 : ((RL : Int) == (N : Int) + 1) = true := by rw [beq_iff_eq]; have := HN.out; have := HRL.out; omega
      have e3 : N ≤ 41 := by have := HN.out; omega
      have e4 : m ≤ 40 := by omega
      obtain ⟨kc, kd⟩ : z8.cell? ⟨p2, 0, none⟩ = some (.int .i64 (RL : Int)) ∧ z8.cell? ⟨p2, 1, none⟩ = some (.int .i64 1) := ⟨two_cell0 q2, two_cell1 q2⟩
      obtain ⟨ka, kb⟩ : z8.cell? ⟨ph, 0, none⟩ = some (.int .u64 (n : Int)) ∧ z8.cell? ⟨ph, 1, none⟩ = some (.slice a2' m c2') := ⟨two_cell0 (Qh.out z8 Z8.out), two_cell1 (Qh.out z8 Z8.out)⟩
      have Hfo : Hid (Fr w z8 (fun _ => False)) := Hf3.out.none Z8.out
      clear hz8 hp1 hp2 q2 hme h40
      go_wp2
      go_ret
      exact ⟨rfl, ebelow Hfo.out⟩
    · -- 3
      go_upto_region 17 with fail
      obtain ⟨z1, hz1⟩ : ∃ z, z = ((wc.alloc (.cells #[.string ⟨#[48, 32, 43, 32, 49, 32, 49, 10]⟩, .string (D ++ ⟨#[32, 43, 32, 49, 32, 48, 10]⟩), .string (D ++ ⟨#[32, 43, 32, 48, 32, 52, 50, 57, 52, 57, 54, 55, 50, 57, 53, 10]⟩), .string ⟨#[52, 54, 49, 49, 54, 56, 54, 48, 49, 56, 52, 50, 55, 51, 56, 55, 57, 48, 51, 32, 45, 32, 48, 32, 49, 10]⟩, .string ⟨#[120, 10]⟩, .string ⟨#[52, 54, 49, 49, 54, 56, 54, 48, 49, 56, 52, 50, 55, 51, 56, 55, 57, 48, 52, 32, 43, 32, 48, 32, 49, 10]⟩, .string ⟨#[32, 53, 32, 43, 32, 48, 32, 49, 10]⟩, .string ⟨#[53, 32, 43, 32, 48, 32, 49, 32, 10]⟩] 9)).alloc (.cells #[.int .i64 24, .int .i64 24, .int .i64 24, .int .i64 25, .int .i64 21, .int .i64 22, .int .i64 21, .int .i64 21] 3)).alloc (.cells #[.int .i64 1, .int .i64 1, .int .i64 1, .int .i64 1, .int .i64 1, .int .i64 1, .int .i64 1, .int .i64 8] 3) := ⟨_, rfl⟩
      rw [← hz1]
      have Z1 : Hid (Fr w3 z1 (fun _ => False)) := by show Fr _ _ _; rw [hz1]; exact ((Hwc.out.alloc _).alloc _).alloc _
      clear hz1
      obtain ⟨ka, kb⟩ : z1.cell? ⟨ph, 0, none⟩ = some (.int .u64 (n : Int)) ∧ z1.cell? ⟨ph, 1, none⟩ = some (.slice a2' m c2') := ⟨two_cell0 (Qh.out z1 Z1.out), two_cell1 (Qh.out z1 Z1.out)⟩
      have hth := there13_any n _ E (0, 1) z1 (Hr3.out _ Z1.out) (by have := HO.out.len; omega) HO.out.fit Hc0.out
      unfold histV edgeV at hth
      dsimp only at hth
      go_wp2_with fail
      refine hth.mono ?_
      clear hth ka kb
      by_cases hno : (0, 1) ∈ aftF [] E
      · rw [decide_eq_true hno]
        rintro r z2 ⟨rfl, g⟩
        have Hfo : Hid (Fr w z2 (fun _ => False)) := Hf3.out.none (Z1.out.none g)
        clear g
        go_wp2
        go_ret
        exact ⟨rfl, ebelow Hfo.out⟩
      rw [decide_eq_false hno]
      rintro r z2 ⟨rfl, g⟩
      have Z2 : Hid (Fr w3 z2 (fun _ => False)) := Z1.out.none g
      clear g
      go_upto_region 23 with fail
      have hR := bad3 (n := n) (E := E) (by have := HO.out.len; omega) Hc0.out Hn2.out Hlast.out hno
      rw [← HL0.out] at hR
      have hRs := HS.out
      rw [← hRs] at hR
      skip
      obtain ⟨RL, hRL⟩ : ∃ v, v = E.length + 2 := ⟨_, rfl⟩
      rw [← hRL] at hR
      have HRL : Hid (RL = E.length + 2) := hRL
      clear hRL
      have hpz := M.parse (S0 ++ ⟨#[52, 54, 49, 49, 54, 56, 54, 48, 49, 56, 52, 50, 55, 51, 56, 55, 57, 48, 51, 32, 45, 32, 48, 32, 49, 10]⟩) z2 (by
        have h1 := HSz.out
        have h2 := HDz.out
        simp only [ByteArray.size_append]
        show S0.size + 26 ≤ 100000
        omega) (M.keep (M.keep HK.out Hf3.out) Z2.out)
      rw [hR] at hpz
      unfold histV placeR at hpz
      dsimp only at hpz
      have ov : ¬ 9223372036854775807 < S0.size + 26 := by have h1 := HSz.out; have h2 := HDz.out; omega
      clear hR hRs
      go_wp2_with fail
      refine hpz.mono ?_
      clear hpz ov
      rintro r z7 ⟨⟨v7, rfl, hr7⟩, g⟩
      obtain ⟨a7, c7, rfl, -⟩ : ∃ a c, v7 = .slice a 0 c ∧ 0 ≤ c := hr7.form
      have Z7 : Hid (Fr w3 z7 (fun _ => False)) := Z2.out.none g
      clear g hr7
      go_upto_region 24 with fail
      obtain ⟨p1, hp1⟩ : ∃ p, p = z7.heap.size := ⟨_, rfl⟩
      obtain ⟨p2, hp2⟩ : ∃ p, p = p1 + 1 := ⟨_, rfl⟩
      obtain ⟨z8, hz8⟩ : ∃ x, x = (z7.alloc (.cells #[.int .u64 0, .slice a7 0 c7] 25)).alloc (.cells #[.int .i64 (RL : Int), .int .i64 1] 38) := ⟨_, rfl⟩
      rw [← hz8, ← hp1, ← hp2]
      have q2 : z8.heap[p2]? = some (.cells #[.int .i64 (RL : Int), .int .i64 1] 38 (0, 0)) := by
        have h0 := heap_alloc_new (z7.alloc (.cells #[.int .u64 0, .slice a7 0 c7] 25)) (.cells #[.int .i64 (RL : Int), .int .i64 1] 38)
        rw [hz8, hp2, hp1]
        simpa using h0
      have Z8 : Hid (Fr w3 z8 (fun _ => False)) := by show Fr _ _ _; rw [hz8]; exact (Z7.out.alloc _).alloc _
      have h40 := HO.out.len
      have hme := Hm.out
      have e1 : ((N : Int) == (m : Int) + 1) = true := by rw [beq_iff_eq]; have := HN.out; omega
      have e2 : ((RL : Int) == (N : Int) + 1) = true := by rw [beq_iff_eq]; have := HN.out; have := HRL.out; omega
      have e3 : N ≤ 41 := by have := HN.out; omega
      have e4 : m ≤ 40 := by omega
      obtain ⟨kc, kd⟩ : z8.cell? ⟨p2, 0, none⟩ = some (.int .i64 (RL : Int)) ∧ z8.cell? ⟨p2, 1, none⟩ = some (.int .i64 1) := ⟨two_cell0 q2, two_cell1 q2⟩
      obtain ⟨ka, kb⟩ : z8.cell? ⟨ph, 0, none⟩ = some (.int .u64 (n : Int)) ∧ z8.cell? ⟨ph, 1, none⟩ = some (.slice a2' m c2') := ⟨two_cell0 (Qh.out z8 Z8.out), two_cell1 (Qh.out z8 Z8.out)⟩
      have Hfo : Hid (Fr w z8 (fun _ => False)) := Hf3.out.none Z8.out
      clear hz8 hp1 hp2 q2 hme h40
      go_wp2
      go_ret
      exact ⟨rfl, ebelow Hfo.out⟩
    · -- 4
      go_upto_region 17 with fail
      obtain ⟨z1, hz1⟩ : ∃ z, z = ((wc.alloc (.cells #[.string ⟨#[48, 32, 43, 32, 49, 32, 49, 10]⟩, .string (D ++ ⟨#[32, 43, 32, 49, 32, 48, 10]⟩), .string (D ++ ⟨#[32, 43, 32, 48, 32, 52, 50, 57, 52, 57, 54, 55, 50, 57, 53, 10]⟩), .string ⟨#[52, 54, 49, 49, 54, 56, 54, 48, 49, 56, 52, 50, 55, 51, 56, 55, 57, 48, 51, 32, 45, 32, 48, 32, 49, 10]⟩, .string ⟨#[120, 10]⟩, .string ⟨#[52, 54, 49, 49, 54, 56, 54, 48, 49, 56, 52, 50, 55, 51, 56, 55, 57, 48, 52, 32, 43, 32, 48, 32, 49, 10]⟩, .string ⟨#[32, 53, 32, 43, 32, 48, 32, 49, 10]⟩, .string ⟨#[53, 32, 43, 32, 48, 32, 49, 32, 10]⟩] 9)).alloc (.cells #[.int .i64 24, .int .i64 24, .int .i64 24, .int .i64 25, .int .i64 21, .int .i64 22, .int .i64 21, .int .i64 21] 3)).alloc (.cells #[.int .i64 1, .int .i64 1, .int .i64 1, .int .i64 1, .int .i64 1, .int .i64 1, .int .i64 1, .int .i64 8] 3) := ⟨_, rfl⟩
      rw [← hz1]
      have Z1 : Hid (Fr w3 z1 (fun _ => False)) := by show Fr _ _ _; rw [hz1]; exact ((Hwc.out.alloc _).alloc _).alloc _
      clear hz1
      obtain ⟨ka, kb⟩ : z1.cell? ⟨ph, 0, none⟩ = some (.int .u64 (n : Int)) ∧ z1.cell? ⟨ph, 1, none⟩ = some (.slice a2' m c2') := ⟨two_cell0 (Qh.out z1 Z1.out), two_cell1 (Qh.out z1 Z1.out)⟩
      go_upto_region 23 with fail
      clear ka kb
      have hR := bad4 (n := n) (E := E) (by have := HO.out.len; omega) Hc0.out
      rw [← HL0.out] at hR
      have hRs := HS.out
      rw [← hRs] at hR
      skip
      obtain ⟨RL, hRL⟩ : ∃ v, v = E.length + 2 := ⟨_, rfl⟩
      rw [← hRL] at hR
      have HRL : Hid (RL = E.length + 2) := hRL
      clear hRL
      have hpz := M.parse (S0 ++ ⟨#[120, 10]⟩) z1 (by
        have h1 := HSz.out
        have h2 := HDz.out
        simp only [ByteArray.size_append]
        show S0.size + 2 ≤ 100000
        omega) (M.keep (M.keep HK.out Hf3.out) Z1.out)
      rw [hR] at hpz
      unfold histV placeR at hpz
      dsimp only at hpz
      have ov : ¬ 9223372036854775807 < S0.size + 2 := by have h1 := HSz.out; have h2 := HDz.out; omega
      clear hR hRs
      go_wp2_with fail
      refine hpz.mono ?_
      clear hpz ov
      rintro r z7 ⟨⟨v7, rfl, hr7⟩, g⟩
      obtain ⟨a7, c7, rfl, -⟩ : ∃ a c, v7 = .slice a 0 c ∧ 0 ≤ c := hr7.form
      have Z7 : Hid (Fr w3 z7 (fun _ => False)) := Z1.out.none g
      clear g hr7
      go_upto_region 24 with fail
      obtain ⟨p1, hp1⟩ : ∃ p, p = z7.heap.size := ⟨_, rfl⟩
      obtain ⟨p2, hp2⟩ : ∃ p, p = p1 + 1 := ⟨_, rfl⟩
      obtain ⟨z8, hz8⟩ : ∃ x, x = (z7.alloc (.cells #[.int .u64 0, .slice a7 0 c7] 25)).alloc (.cells #[.int .i64 (RL : Int), .int .i64 1] 38) := ⟨_, rfl⟩
      rw [← hz8, ← hp1, ← hp2]
      have q2 : z8.heap[p2]? = some (.cells #[.int .i64 (RL : Int), .int .i64 1] 38 (0, 0)) := by
        have h0 := heap_alloc_new (z7.alloc (.cells #[.int .u64 0, .slice a7 0 c7] 25)) (.cells #[.int .i64 (RL : Int), .int .i64 1] 38)
        rw [hz8, hp2, hp1]
        simpa using h0
      have Z8 : Hid (Fr w3 z8 (fun _ => False)) := by show Fr _ _ _; rw [hz8]; exact (Z7.out.alloc _).alloc _
      have h40 := HO.out.len
      have hme := Hm.out
      have e1 : ((N : Int) == (m : Int) + 1) = true := by rw [beq_iff_eq]; have := HN.out; omega
      have e2 : ((RL : Int) == (N : Int) + 1) = true := by rw [beq_iff_eq]; have := HN.out; have := HRL.out; omega
      have e3 : N ≤ 41 := by have := HN.out; omega
      have e4 : m ≤ 40 := by omega
      obtain ⟨kc, kd⟩ : z8.cell? ⟨p2, 0, none⟩ = some (.int .i64 (RL : Int)) ∧ z8.cell? ⟨p2, 1, none⟩ = some (.int .i64 1) := ⟨two_cell0 q2, two_cell1 q2⟩
      obtain ⟨ka, kb⟩ : z8.cell? ⟨ph, 0, none⟩ = some (.int .u64 (n : Int)) ∧ z8.cell? ⟨ph, 1, none⟩ = some (.slice a2' m c2') := ⟨two_cell0 (Qh.out z8 Z8.out), two_cell1 (Qh.out z8 Z8.out)⟩
      have Hfo : Hid (Fr w z8 (fun _ => False)) := Hf3.out.none Z8.out
      clear hz8 hp1 hp2 q2 hme h40
      go_wp2
      go_ret
      exact ⟨rfl, ebelow Hfo.out⟩
    · -- 5
      go_upto_region 17 with fail
      obtain ⟨z1, hz1⟩ : ∃ z, z = ((wc.alloc (.cells #[.string ⟨#[48, 32, 43, 32, 49, 32, 49, 10]⟩, .string (D ++ ⟨#[32, 43, 32, 49, 32, 48, 10]⟩), .string (D ++ ⟨#[32, 43, 32, 48, 32, 52, 50, 57, 52, 57, 54, 55, 50, 57, 53, 10]⟩), .string ⟨#[52, 54, 49, 49, 54, 56, 54, 48, 49, 56, 52, 50, 55, 51, 56, 55, 57, 48, 51, 32, 45, 32, 48, 32, 49, 10]⟩, .string ⟨#[120, 10]⟩, .string ⟨#[52, 54, 49, 49, 54, 56, 54, 48, 49, 56, 52, 50, 55, 51, 56, 55, 57, 48, 52, 32, 43, 32, 48, 32, 49, 10]⟩, .string ⟨#[32, 53, 32, 43, 32, 48, 32, 49, 10]⟩, .string ⟨#[53, 32, 43, 32, 48, 32, 49, 32, 10]⟩] 9)).alloc (.cells #[.int .i64 24, .int .i64 24, .int .i64 24, .int .i64 25, .int .i64 21, .int .i64 22, .int .i64 21, .int .i64 21] 3)).alloc (.cells #[.int .i64 1, .int .i64 1, .int .i64 1, .int .i64 1, .int .i64 1, .int .i64 1, .int .i64 1, .int .i64 8] 3) := ⟨_, rfl⟩
      rw [← hz1]
      have Z1 : Hid (Fr w3 z1 (fun _ => False)) := by show Fr _ _ _; rw [hz1]; exact ((Hwc.out.alloc _).alloc _).alloc _
      clear hz1
      obtain ⟨ka, kb⟩ : z1.cell? ⟨ph, 0, none⟩ = some (.int .u64 (n : Int)) ∧ z1.cell? ⟨ph, 1, none⟩ = some (.slice a2' m c2') := ⟨two_cell0 (Qh.out z1 Z1.out), two_cell1 (Qh.out z1 Z1.out)⟩
      go_upto_region 23 with fail
      clear ka kb
      have hR := bad5 (n := n) (E := E) (by have := HO.out.len; omega) Hc0.out
      rw [← HL0.out] at hR
      have hRs := HS.out
      rw [← hRs] at hR
      skip
      obtain ⟨RL, hRL⟩ : ∃ v, v = E.length + 2 := ⟨_, rfl⟩
      rw [← hRL] at hR
      have HRL : Hid (RL = E.length + 2) := hRL
      clear hRL
      have hpz := M.parse (S0 ++ ⟨#[52, 54, 49, 49, 54, 56, 54, 48, 49, 56, 52, 50, 55, 51, 56, 55, 57, 48, 52, 32, 43, 32, 48, 32, 49, 10]⟩) z1 (by
        have h1 := HSz.out
        have h2 := HDz.out
        simp only [ByteArray.size_append]
        show S0.size + 26 ≤ 100000
        omega) (M.keep (M.keep HK.out Hf3.out) Z1.out)
      rw [hR] at hpz
      unfold histV placeR at hpz
      dsimp only at hpz
      have ov : ¬ 9223372036854775807 < S0.size + 26 := by have h1 := HSz.out; have h2 := HDz.out; omega
      clear hR hRs
      go_wp2_with fail
      refine hpz.mono ?_
      clear hpz ov
      rintro r z7 ⟨⟨v7, rfl, hr7⟩, g⟩
      obtain ⟨a7, c7, rfl, -⟩ : ∃ a c, v7 = .slice a 0 c ∧ 0 ≤ c := hr7.form
      have Z7 : Hid (Fr w3 z7 (fun _ => False)) := Z1.out.none g
      clear g hr7
      go_upto_region 24 with fail
      obtain ⟨p1, hp1⟩ : ∃ p, p = z7.heap.size := ⟨_, rfl⟩
      obtain ⟨p2, hp2⟩ : ∃ p, p = p1 + 1 := ⟨_, rfl⟩
      obtain ⟨z8, hz8⟩ : ∃ x, x = (z7.alloc (.cells #[.int .u64 0, .slice a7 0 c7] 25)).alloc (.cells #[.int .i64 (RL : Int), .int .i64 1] 38) := ⟨_, rfl⟩
      rw [← hz8, ← hp1, ← hp2]
      have q2 : z8.heap[p2]? = some (.cells #[.int .i64 (RL : Int), .int .i64 1] 38 (0, 0)) := by
        have h0 := heap_alloc_new (z7.alloc (.cells #[.int .u64 0, .slice a7 0 c7] 25)) (.cells #[.int .i64 (RL : Int), .int .i64 1] 38)
        rw [hz8, hp2, hp1]
        simpa using h0
      have Z8 : Hid (Fr w3 z8 (fun _ => False)) := by show Fr _ _ _; rw [hz8]; exact (Z7.out.alloc _).alloc _
      have h40 := HO.out.len
      have hme := Hm.out
      have e1 : ((N : Int) == (m : Int) + 1) = true := by rw [beq_iff_eq]; have := HN.out; omega
      have e2 : ((RL : Int) == (N : Int) + 1) = true := by rw [beq_iff_eq]; have := HN.out; have := HRL.out; omega
      have e3 : N ≤ 41 := by have := HN.out; omega
      have e4 : m ≤ 40 := by omega
      obtain ⟨kc, kd⟩ : z8.cell? ⟨p2, 0, none⟩ = some (.int .i64 (RL : Int)) ∧ z8.cell? ⟨p2, 1, none⟩ = some (.int .i64 1) := ⟨two_cell0 q2, two_cell1 q2⟩
      obtain ⟨ka, kb⟩ : z8.cell? ⟨ph, 0, none⟩ = some (.int .u64 (n : Int)) ∧ z8.cell? ⟨ph, 1, none⟩ = some (.slice a2' m c2') := ⟨two_cell0 (Qh.out z8 Z8.out), two_cell1 (Qh.out z8 Z8.out)⟩
      have Hfo : Hid (Fr w z8 (fun _ => False)) := Hf3.out.none Z8.out
      clear hz8 hp1 hp2 q2 hme h40
      go_wp2
      go_ret
      exact ⟨rfl, ebelow Hfo.out⟩
    · -- 6
      go_upto_region 17 with fail
      obtain ⟨z1, hz1⟩ : ∃ z, z = ((wc.alloc (.cells #[.string ⟨#[48, 32, 43, 32, 49, 32, 49, 10]⟩, .string (D ++ ⟨#[32, 43, 32, 49, 32, 48, 10]⟩), .string (D ++ ⟨#[32, 43, 32, 48, 32, 52, 50, 57, 52, 57, 54, 55, 50, 57, 53, 10]⟩), .string ⟨#[52, 54, 49, 49, 54, 56, 54, 48, 49, 56, 52, 50, 55, 51, 56, 55, 57, 48, 51, 32, 45, 32, 48, 32, 49, 10]⟩, .string ⟨#[120, 10]⟩, .string ⟨#[52, 54, 49, 49, 54, 56, 54, 48, 49, 56, 52, 50, 55, 51, 56, 55, 57, 48, 52, 32, 43, 32, 48, 32, 49, 10]⟩, .string ⟨#[32, 53, 32, 43, 32, 48, 32, 49, 10]⟩, .string ⟨#[53, 32, 43, 32, 48, 32, 49, 32, 10]⟩] 9)).alloc (.cells #[.int .i64 24, .int .i64 24, .int .i64 24, .int .i64 25, .int .i64 21, .int .i64 22, .int .i64 21, .int .i64 21] 3)).alloc (.cells #[.int .i64 1, .int .i64 1, .int .i64 1, .int .i64 1, .int .i64 1, .int .i64 1, .int .i64 1, .int .i64 8] 3) := ⟨_, rfl⟩
      rw [← hz1]
      have Z1 : Hid (Fr w3 z1 (fun _ => False)) := by show Fr _ _ _; rw [hz1]; exact ((Hwc.out.alloc _).alloc _).alloc _
      clear hz1
      obtain ⟨ka, kb⟩ : z1.cell? ⟨ph, 0, none⟩ = some (.int .u64 (n : Int)) ∧ z1.cell? ⟨ph, 1, none⟩ = some (.slice a2' m c2') := ⟨two_cell0 (Qh.out z1 Z1.out), two_cell1 (Qh.out z1 Z1.out)⟩
      go_upto_region 23 with fail
      clear ka kb
      have hR := bad6 (n := n) (E := E) (by have := HO.out.len; omega) Hc0.out
      rw [← HL0.out] at hR
      have hRs := HS.out
      rw [← hRs] at hR
      skip
      obtain ⟨RL, hRL⟩ : ∃ v, v = E.length + 2 := ⟨_, rfl⟩
      rw [← hRL] at hR
      have HRL : Hid (RL = E.length + 2) := hRL
      clear hRL
      have hpz := M.parse (S0 ++ ⟨#[32, 53, 32, 43, 32, 48, 32, 49, 10]⟩) z1 (by
        have h1 := HSz.out
        have h2 := HDz.out
        simp only [ByteArray.size_append]
        show S0.size + 9 ≤ 100000
        omega) (M.keep (M.keep HK.out Hf3.out) Z1.out)
      rw [hR] at hpz
      unfold histV placeR at hpz
      dsimp only at hpz
      have ov : ¬ 9223372036854775807 < S0.size + 9 := by have h1 := HSz.out; have h2 := HDz.out; omega
      clear hR hRs
      go_wp2_with fail
      refine hpz.mono ?_
      clear hpz ov
      rintro r z7 ⟨⟨v7, rfl, hr7⟩, g⟩
      obtain ⟨a7, c7, rfl, -⟩ : ∃ a c, v7 = .slice a 0 c ∧ 0 ≤ c := hr7.form
      have Z7 : Hid (Fr w3 z7 (fun _ => False)) := Z1.out.none g
      clear g hr7
      go_upto_region 24 with fail
      obtain ⟨p1, hp1⟩ : ∃ p, p = z7.heap.size := ⟨_, rfl⟩
      obtain ⟨p2, hp2⟩ : ∃ p, p = p1 + 1 := ⟨_, rfl⟩
      obtain ⟨z8, hz8⟩ : ∃ x, x = (z7.alloc (.cells #[.int .u64 0, .slice a7 0 c7] 25)).alloc (.cells #[.int .i64 (RL : Int), .int .i64 1] 38) := ⟨_, rfl⟩
      rw [← hz8, ← hp1, ← hp2]
      have q2 : z8.heap[p2]? = some (.cells #[.int .i64 (RL : Int), .int .i64 1] 38 (0, 0)) := by
        have h0 := heap_alloc_new (z7.alloc (.cells #[.int .u64 0, .slice a7 0 c7] 25)) (.cells #[.int .i64 (RL : Int), .int .i64 1] 38)
        rw [hz8, hp2, hp1]
        simpa using h0
      have Z8 : Hid (Fr w3 z8 (fun _ => False)) := by show Fr _ _ _; rw [hz8]; exact (Z7.out.alloc _).alloc _
      have h40 := HO.out.len
      have hme := Hm.out
      have e1 : ((N : Int) == (m : Int) + 1) = true := by rw [beq_iff_eq]; have := HN.out; omega
      have e2 : ((RL : Int) == (N : Int) + 1) = true := by rw [beq_iff_eq]; have := HN.out; have := HRL.out; omega
      have e3 : N ≤ 41 := by have := HN.out; omega
      have e4 : m ≤ 40 := by omega
      obtain ⟨kc, kd⟩ : z8.cell? ⟨p2, 0, none⟩ = some (.int .i64 (RL : Int)) ∧ z8.cell? ⟨p2, 1, none⟩ = some (.int .i64 1) := ⟨two_cell0 q2, two_cell1 q2⟩
      obtain ⟨ka, kb⟩ : z8.cell? ⟨ph, 0, none⟩ = some (.int .u64 (n : Int)) ∧ z8.cell? ⟨ph, 1, none⟩ = some (.slice a2' m c2') := ⟨two_cell0 (Qh.out z8 Z8.out), two_cell1 (Qh.out z8 Z8.out)⟩
      have Hfo : Hid (Fr w z8 (fun _ => False)) := Hf3.out.none Z8.out
      clear hz8 hp1 hp2 q2 hme h40
      go_wp2
      go_ret
      exact ⟨rfl, ebelow Hfo.out⟩
    · -- 7
      go_upto_region 17 with fail
      obtain ⟨z1, hz1⟩ : ∃ z, z = ((wc.alloc (.cells #[.string ⟨#[48, 32, 43, 32, 49, 32, 49, 10]⟩, .string (D ++ ⟨#[32, 43, 32, 49, 32, 48, 10]⟩), .string (D ++ ⟨#[32, 43, 32, 48, 32, 52, 50, 57, 52, 57, 54, 55, 50, 57, 53, 10]⟩), .string ⟨#[52, 54, 49, 49, 54, 56, 54, 48, 49, 56, 52, 50, 55, 51, 56, 55, 57, 48, 51, 32, 45, 32, 48, 32, 49, 10]⟩, .string ⟨#[120, 10]⟩, .string ⟨#[52, 54, 49, 49, 54, 56, 54, 48, 49, 56, 52, 50, 55, 51, 56, 55, 57, 48, 52, 32, 43, 32, 48, 32, 49, 10]⟩, .string ⟨#[32, 53, 32, 43, 32, 48, 32, 49, 10]⟩, .string ⟨#[53, 32, 43, 32, 48, 32, 49, 32, 10]⟩] 9)).alloc (.cells #[.int .i64 24, .int .i64 24, .int .i64 24, .int .i64 25, .int .i64 21, .int .i64 22, .int .i64 21, .int .i64 21] 3)).alloc (.cells #[.int .i64 1, .int .i64 1, .int .i64 1, .int .i64 1, .int .i64 1, .int .i64 1, .int .i64 1, .int .i64 8] 3) := ⟨_, rfl⟩
      rw [← hz1]
      have Z1 : Hid (Fr w3 z1 (fun _ => False)) := by show Fr _ _ _; rw [hz1]; exact ((Hwc.out.alloc _).alloc _).alloc _
      clear hz1
      obtain ⟨ka, kb⟩ : z1.cell? ⟨ph, 0, none⟩ = some (.int .u64 (n : Int)) ∧ z1.cell? ⟨ph, 1, none⟩ = some (.slice a2' m c2') := ⟨two_cell0 (Qh.out z1 Z1.out), two_cell1 (Qh.out z1 Z1.out)⟩
      go_upto_region 23 with fail
      clear ka kb
      have hR := bad7 (n := n) (E := E) (by have := HO.out.len; omega) Hc0.out
      rw [← HL0.out] at hR
      have hRs := HS.out
      rw [← hRs] at hR
      skip
      obtain ⟨RL, hRL⟩ : ∃ v, v = E.length + 2 := ⟨_, rfl⟩
      rw [← hRL] at hR
      have HRL : Hid (RL = E.length + 2) := hRL
      clear hRL
      have hpz := M.parse (S0 ++ ⟨#[53, 32, 43, 32, 48, 32, 49, 32, 10]⟩) z1 (by
        have h1 := HSz.out
        have h2 := HDz.out
        simp only [ByteArray.size_append]
        show S0.size + 9 ≤ 100000
        omega) (M.keep (M.keep HK.out Hf3.out) Z1.out)
      rw [hR] at hpz
      unfold histV placeR at hpz
      dsimp only at hpz
      have ov : ¬ 9223372036854775807 < S0.size + 9 := by have h1 := HSz.out; have h2 := HDz.out; omega
      clear hR hRs
      go_wp2_with fail
      refine hpz.mono ?_
      clear hpz ov
      rintro r z7 ⟨⟨v7, rfl, hr7⟩, g⟩
      obtain ⟨a7, c7, rfl, -⟩ : ∃ a c, v7 = .slice a 0 c ∧ 0 ≤ c := hr7.form
      have Z7 : Hid (Fr w3 z7 (fun _ => False)) := Z1.out.none g
      clear g hr7
      go_upto_region 24 with fail
      obtain ⟨p1, hp1⟩ : ∃ p, p = z7.heap.size := ⟨_, rfl⟩
      obtain ⟨p2, hp2⟩ : ∃ p, p = p1 + 1 := ⟨_, rfl⟩
      obtain ⟨z8, hz8⟩ : ∃ x, x = (z7.alloc (.cells #[.int .u64 0, .slice a7 0 c7] 25)).alloc (.cells #[.int .i64 (RL : Int), .int .i64 8] 38) := ⟨_, rfl⟩
      rw [← hz8, ← hp1, ← hp2]
      have q2 : z8.heap[p2]? = some (.cells #[.int .i64 (RL : Int), .int .i64 8] 38 (0, 0)) := by
        have h0 := heap_alloc_new (z7.alloc (.cells #[.int .u64 0, .slice a7 0 c7] 25)) (.cells #[.int .i64 (RL : Int), .int .i64 8] 38)
        rw [hz8, hp2, hp1]
        simpa using h0
      have Z8 : Hid (Fr w3 z8 (fun _ => False)) := by show Fr _ _ _; rw [hz8]; exact (Z7.out.alloc _).alloc _
      have h40 := HO.out.len
      have hme := Hm.out
      have e1 : ((N : Int) == (m : Int) + 1) = true := by rw [beq_iff_eq]; have := HN.out; omega
      have e2 : ((RL : Int) == (N : Int) + 1) = true := by rw [beq_iff_eq]; have := HN.out; have := HRL.out; omega
      have e3 : N ≤ 41 := by have := HN.out; omega
      have e4 : m ≤ 40 := by omega
      obtain ⟨kc, kd⟩ : z8.cell? ⟨p2, 0, none⟩ = some (.int .i64 (RL : Int)) ∧ z8.cell? ⟨p2, 1, none⟩ = some (.int .i64 8) := ⟨two_cell0 q2, two_cell1 q2⟩
      obtain ⟨ka, kb⟩ : z8.cell? ⟨ph, 0, none⟩ = some (.int .u64 (n : Int)) ∧ z8.cell? ⟨ph, 1, none⟩ = some (.slice a2' m c2') := ⟨two_cell0 (Qh.out z8 Z8.out), two_cell1 (Qh.out z8 Z8.out)⟩
      have Hfo : Hid (Fr w z8 (fun _ => False)) := Hf3.out.none Z8.out
      clear hz8 hp1 hp2 q2 hme h40
      go_wp2
      go_ret
      exact ⟨rfl, ebelow Hfo.out⟩

end Go.Proofs.YtpeibameegjefaaDoor.logLines

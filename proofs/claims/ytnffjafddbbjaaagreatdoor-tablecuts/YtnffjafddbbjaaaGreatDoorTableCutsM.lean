/-
  The walk of the law TableCuts, under the condition that the package's functions answer as their contracts say.
-/
import Derived.Test.YtnffjafddbbjaaaGreatDoorRows
import Derived.Test.YtnffjafddbbjaaaGreatDoorPTabE
import Derived.Test.YtnffjafddbbjaaaGreatDoorTHelp
namespace Go.Proofs.YtnffjafddbbjaaaGreatDoor.tableCuts
open Go.ChangeShapes Go.WideShapes Go.ChangeAt Go.RowKit

set_option maxRecDepth 4000 in
set_option maxHeartbeats 6400000 in
theorem walkM {K : World → Prop} (M : TI K) (a0 : Int) (a1 : Option Addr) (len1 cap1 : Nat) (z1 : List Int) (a2 : Int) (w : World) (w0 : (Lit.int .u8 a0).wf = true) (w1 : IsRow .u8 w a1 len1 cap1 z1) (w2 : (Lit.int .u16 a2).wf = true) (hK : K w) :
    Calls Tryz.prog 5 #[.int .u8 a0, .slice a1 len1 cap1, .int .u16 a2] w fun e w' => e = .returned (.bool true) ∧ Below w.heap.size w w' := by
  have HK : Hid (K w) := hK
  clear hK
  obtain ⟨bs, hbl, hbb, hbr⟩ := bytes_arg w1
  have Hbs : Hid (Reads .u8 w (.slice a1 len1 cap1) bs) := hbr
  have Hbb : Hid (∀ x ∈ bs, x < 256) := hbb
  have Hbl : Hid (bs.length = len1) := hbl
  obtain ⟨k, rfl, hk⟩ := eu8_nat w0
  have Hk : Hid (k < 256) := hk
  obtain ⟨at_, rfl, hat⟩ : ∃ n : Nat, a2 = (n : Int) ∧ n < 65536 := ⟨a2.toNat, by have := bounds_u16 w2; omega⟩
  clear w0 w1 w2 hbl hbb hbr hk
  go_enter Tryz.func5, Tryz.ntmps5
  go_wp2_with fail
  refine (tknown_any M w HK.out).mono ?_
  rintro e w1 ⟨rfl, hf1⟩
  have Hf1 : Hid (Fr w w1 (fun _ => False)) := hf1
  clear hf1
  by_cases hb45 : 45 < len1
  · have d1 : decide ((45 : Int) < (len1 : Int)) = true := decide_eq_true (by omega)
    have d1' : decide (45 < len1) = true := decide_eq_true hb45
    go_wp2
    go_ret
    exact ⟨rfl, ebelow Hf1.out⟩
  have db45 : decide ((45 : Int) < (len1 : Int)) = false := decide_eq_false (by omega)
  have db45' : decide (45 < len1) = false := decide_eq_false hb45
  have Hl : Hid (bs.length ≤ 45) := by have := Hbl.out; show _ ≤ _; omega
  clear hb45
  go_wp2_with fail
  refine (seatH_any k _ bs _ (Hbs.out.keep Hf1.out) Hbb.out (by have := Hl.out; omega) Hk.out).mono ?_
  rintro r w2 ⟨n, E, a2', m, c2', rfl, hm, -, -, hok, hr2, hmc, g⟩
  have Hf2 : Hid (Fr w w2 (fun _ => False)) := Hf1.out.none g
  have HO : Hid (HOk n E) := hok
  have Hr2 : Hid (RdV w2 (.slice a2' m c2') E) := hr2
  clear g hok hm hr2 hmc
  go_upto_region 6 with fail
  obtain ⟨ph, hph⟩ : ∃ p, p = w2.heap.size := ⟨_, rfl⟩
  obtain ⟨w3, hw3⟩ : ∃ x, x = w2.alloc (.cells #[.int .u64 (n : Int), .slice a2' m c2'] 25) := ⟨_, rfl⟩
  rw [← hw3, ← hph]
  have Qh : Hid (w3.heap[ph]? = some (.cells #[.int .u64 (n : Int), .slice a2' m c2'] 25 (0, 0))) := by show _ = _; rw [hw3, hph]; exact heap_alloc_new _ _
  have H23 : Hid (Fr w2 w3 (fun _ => False)) := by show Fr _ _ _; rw [hw3]; exact (Fr.refl _ _).alloc _
  have Hf3 : Hid (Fr w w3 (fun _ => False)) := Hf2.out.none H23.out
  clear hph hw3
  obtain ⟨ka, kb⟩ : w3.cell? ⟨ph, 0, none⟩ = some (.int .u64 (n : Int)) ∧ w3.cell? ⟨ph, 1, none⟩ = some (.slice a2' m c2') := ⟨two_cell0 Qh.out, two_cell1 Qh.out⟩
  have H40 := HO.out.len
  have hc0 : (checkF n E).2 = 0 := by rw [HO.out.chk]
  have hpr := M.print n _ E w3 (Hr2.out.keep H23.out) HO.out.n64 (by omega) HO.out.fit (M.keep HK.out Hf3.out)
  obtain ⟨L0, hL0⟩ : ∃ L, L = tabE n E := ⟨_, rfl⟩
  have hS : prTab n E = strOf L0 := by rw [hL0]; exact prTabE_ok hc0
  have hLl : L0.length ≤ 6000 := by have h1 := tabE_len (n := n) hc0; rw [hL0]; omega
  have hLp : 0 < L0.length := by rw [hL0]; exact tabE_pos n E
  have hL6 : ∀ x ∈ L0, x < 256 := by rw [hL0]; exact tabE_lt hc0
  rw [hS, hc0] at hpr
  unfold histV at hpr
  have HL0 : Hid _ := hL0
  have HL6 : Hid _ := hL6
  have Hc0 : Hid _ := hc0
  clear hS hL0 hL6 hc0 H40
  go_wp2_with fail
  refine hpr.mono ?_
  clear hpr ka kb
  rintro r w4 ⟨rfl, g⟩
  have Hf4 : Hid (Fr w w4 (fun _ => False)) := Hf3.out.none g
  clear g
  obtain ⟨cut, hcut⟩ : ∃ c, c = at_ % L0.length := ⟨_, rfl⟩
  have hcl : cut < L0.length := by rw [hcut]; exact Nat.mod_lt _ hLp
  have hsz : (strOf L0).size = L0.length := strOf_length L0
  have hse : (((strOf L0).size : Int) == 0) = false := by rw [beq_eq_false_iff_ne, hsz]; omega
  have hse' : ((strOf L0).size == 0) = false := by rw [beq_eq_false_iff_ne, hsz]; omega
  have hct : (at_ : Int).tmod ((strOf L0).size : Int) = (cut : Int) := by rw [hsz, Int.tmod_eq_emod_of_nonneg (by omega), hcut]; simp
  have hct2 : (at_ : Int) % ((strOf L0).size : Int) = (cut : Int) := by rw [hsz, hcut]; simp
  have hwa : IntKind.i64.wrap (at_ : Int) = (at_ : Int) := IntWalk.i64_in _ (by omega)
  have hwc : IntKind.i64.wrap (cut : Int) = (cut : Int) := IntWalk.i64_in _ (by omega)
  have hc1 : (cut : Int) ≤ ((strOf L0).size : Int) := by rw [hsz]; omega
  have hc2 : cut ≤ (strOf L0).size := by rw [hsz]; omega
  obtain ⟨L, hLe⟩ : ∃ L, L = L0.take cut := ⟨_, rfl⟩
  have hX : (strOf L0).extract 0 cut = strOf L := by rw [hLe]; exact strOf_take L0 cut (by omega)
  have hLn : L.length = cut := by rw [hLe, List.length_take, Nat.min_eq_left (by omega)]
  have HL2 : Hid (∀ x ∈ L, x < 256) := fun x hx => HL6.out x (by rw [hLe] at hx; exact List.mem_of_mem_take hx)
  have hpp := M.parse (strOf L) w4 (by rw [strOf_length, hLn]; omega) (M.keep HK.out Hf4.out)
  have hkc := tabE_cut (n := n) (evs := E) (m := cut) (s := strOf L) (c := adv L ⟨0, 1, 1, 0⟩) (by have := HO.out.len; omega) Hc0.out (by rw [← HL0.out]; exact hcl) (by rw [← HL0.out, ← hLe]) (by rw [← HL0.out, ← hLe])
  obtain ⟨⟨Rn, Rv, Rl, Rc, Re⟩, hR⟩ : ∃ R, R = parseTab (strOf L) := ⟨_, rfl⟩
  rw [← hR] at hpp hkc
  unfold histV placeR at hpp
  dsimp only at hpp hkc
  have Hkc : Hid _ := hkc
  have Hle : Hid (cut ≤ 6000) := by show _ ≤ _; omega
  have HLn : Hid _ := hLn
  have hno : ¬ (cut : Int) < 0 := by omega
  have hne : ¬ strOf L0 = ByteArray.empty := fun h => by rw [h] at hsz; have h0 : (0 : Nat) = L0.length := hsz; omega
  have hne0 : ¬ (strOf L0).size = 0 := by omega
  generalize strOf L0 = S0 at *
  clear hcut hcl hsz hLe hLn hR hkc hLp hLl
  have hnc : (0 : Int) ≤ (cut : Int) := by omega
  go_upto_region 10 with fail
  clear hX hse hse' hct hct2 hwa hwc hc1 hc2
  go_wp2_with fail
  refine hpp.mono ?_
  clear hpp
  rintro r w5 ⟨⟨v5, rfl, hr5⟩, g⟩
  obtain ⟨a5, c5, rfl, -⟩ : ∃ a c, v5 = .slice a Rv.length c ∧ Rv.length ≤ c := hr5.form
  have Hf5 : Hid (Fr w w5 (fun _ => False)) := Hf4.out.none g
  clear g hr5
  go_upto_region 11 with fail
  obtain ⟨p1, hp1⟩ : ∃ p, p = w5.heap.size := ⟨_, rfl⟩
  obtain ⟨p2, hp2⟩ : ∃ p, p = p1 + 1 := ⟨_, rfl⟩
  obtain ⟨x, hx⟩ : ∃ x, x = (w5.alloc (.cells #[.int .u64 (Rn : Int), .slice a5 Rv.length c5] 25)).alloc (.cells #[.int .i64 (Rl : Int), .int .i64 (Rc : Int)] 38) := ⟨_, rfl⟩
  rw [← hx, ← hp1, ← hp2]
  have Qp2 : Hid (x.heap[p2]? = some (.cells #[.int .i64 (Rl : Int), .int .i64 (Rc : Int)] 38 (0, 0))) := by
    have h0 := heap_alloc_new (w5.alloc (.cells #[.int .u64 (Rn : Int), .slice a5 Rv.length c5] 25)) (.cells #[.int .i64 (Rl : Int), .int .i64 (Rc : Int)] 38)
    show _ = _
    rw [hx, hp2, hp1]
    simpa using h0
  have Hfx : Hid (Fr w x (fun _ => False)) := by show Fr _ _ _; rw [hx]; exact (Hf5.out.alloc _).alloc _
  clear hp1 hp2 hx
  have HSz : Hid ((strOf L).size = cut) := by show _ = _; rw [strOf_length]; exact HLn.out
  have HIx : Hid (∀ i, i < cut → chAt (strOf L) i = L.getD i 0) := fun i hi => chAt_strOf L i (by rw [HLn.out]; exact hi) HL2.out
  generalize strOf L = X at HSz HIx ⊢
  have hXe : (X.size : Int) = (cut : Int) := by rw [HSz.out]
  go_wp2_with fail
  go_loopg [14, 15, 16] cut (fun g A B I wr => ∃ i : Nat, g = cut - i ∧ i ≤ cut ∧ I = .int .i64 (i : Int) ∧ A = .int .i64 ((adv (L.take i) ⟨0, 1, 1, 0⟩).line : Int) ∧ B = .int .i64 ((adv (L.take i) ⟨0, 1, 1, 0⟩).col : Int) ∧ Fr x wr (fun _ => False))
  case atStart => exact ⟨0, by omega, by omega, rfl, rfl, rfl, Fr.refl _ _⟩
  case round =>
    obtain ⟨i, hg, hi, rfl, rfl, rfl, hf⟩ := hrel
    have Hg : Hid _ := hg
    have Hf : Hid (Fr x wr (fun _ => False)) := hf
    have hbd := adv_le (L.take i) ⟨0, 1, 1, 0⟩ (Nat.le_refl 1)
    rw [List.length_take, HLn.out, Nat.min_eq_left hi] at hbd
    dsimp only at hbd
    have hle := Hle.out
    clear hg hf
    by_cases hlt : i < cut
    · have hin : (i : Int) < (cut : Int) := by omega
      have hin' : decide (i < cut) = true := decide_eq_true hlt
      have hin2 : (i : Int) < (X.size : Int) := by rw [hXe]; exact hin
      have hin3 : i < X.size := by rw [HSz.out]; exact hlt
      obtain ⟨y, hy⟩ : ∃ y, y = L.getD i 0 := ⟨_, rfl⟩
      have hst : L.take (i + 1) = L.take i ++ [y] := by rw [hy]; exact take_step (by rw [HLn.out]; exact hlt)
      have hix : ∀ z, (Instr.index 9 (.string X) (.int .i64 (i : Int))).run Tryz.prog z = .ok (.int .u8 (y : Int)) z := fun z => by rw [hy, ← HIx.out i hlt]; exact index_any X i hin3 z
      have Hnx : Hid (adv (L.take (i + 1)) ⟨0, 1, 1, 0⟩ = adv [y] (adv (L.take i) ⟨0, 1, 1, 0⟩)) := by show _ = _; rw [hst, adv_append]
      obtain ⟨C, hC⟩ : ∃ C, C = adv (L.take i) ⟨0, 1, 1, 0⟩ := ⟨_, rfl⟩
      rw [← hC] at hbd Hnx
      try rw [← hC]
      have Hy : Hid (y = L.getD i 0) := hy
      clear hst hC hy
      obtain ⟨cl, hcl⟩ : ∃ v, v = C.line := ⟨_, rfl⟩
      obtain ⟨cc, hcc⟩ : ∃ v, v = C.col := ⟨_, rfl⟩
      try rw [← hcl, ← hcc]
      rw [← hcl, ← hcc] at hbd
      have Hcl : Hid (cl = C.line) := hcl
      have Hcc : Hid (cc = C.col) := hcc
      clear hcl hcc
      by_cases hnl : y = 10
      · have h10 : ((y : Int) == 10) = true := by rw [beq_iff_eq]; omega
        have Hn1 : Hid ((adv (L.take (i + 1)) ⟨0, 1, 1, 0⟩).line = cl + 1 ∧ (adv (L.take (i + 1)) ⟨0, 1, 1, 0⟩).col = 1) := by
          show _ ∧ _
          rw [Hnx.out, hnl, Hcl.out]
          exact ⟨rfl, rfl⟩
        clear hnl
        go_wp2_with fail
        go_roundg (cut - (i + 1))
        case rel => exact ⟨i + 1, rfl, by omega, by go_num, by rw [Hn1.out.1]; go_num, by rw [Hn1.out.2]; rfl, Hf.out⟩
        case measure => rw [Hg.out]; omega
      · have h10 : ((y : Int) == 10) = false := by rw [beq_eq_false_iff_ne]; omega
        have Hn1 : Hid ((adv (L.take (i + 1)) ⟨0, 1, 1, 0⟩).line = cl ∧ (adv (L.take (i + 1)) ⟨0, 1, 1, 0⟩).col = cc + 1) := by
          show _ ∧ _
          rw [Hnx.out, Hcl.out, Hcc.out]
          unfold adv adv
          rw [if_neg hnl]
          exact ⟨rfl, rfl⟩
        clear hnl
        go_wp2_with fail
        go_roundg (cut - (i + 1))
        case rel => exact ⟨i + 1, rfl, by omega, by go_num, by rw [Hn1.out.1], by rw [Hn1.out.2]; go_num, Hf.out⟩
        case measure => rw [Hg.out]; omega
    · obtain rfl : i = cut := by omega
      have hin : ¬ (i : Int) < (i : Int) := by omega
      have hin' : decide (i < i) = false := decide_eq_false hlt
      have hta : L.take i = L := List.take_of_length_le (by rw [HLn.out]; exact Nat.le_refl _)
      rw [hta] at hbd ⊢
      have hk := Hkc.out
      obtain ⟨C, hC⟩ : ∃ C, C = adv L ⟨0, 1, 1, 0⟩ := ⟨_, rfl⟩
      rw [← hC] at hk hbd
      try rw [← hC]
      clear hta hC
      obtain ⟨cl, hcl⟩ : ∃ v, v = C.line := ⟨_, rfl⟩
      obtain ⟨cc, hcc⟩ : ∃ v, v = C.col := ⟨_, rfl⟩
      rw [← hcl, ← hcc] at hk hbd
      try rw [← hcl, ← hcc]
      clear hcl hcc
      have Hfo : Hid (Fr w wr (fun _ => False)) := Hfx.out.none Hf.out
      obtain ⟨ka, kb⟩ : wr.cell? ⟨p2, 0, none⟩ = some (.int .i64 (Rl : Int)) ∧ wr.cell? ⟨p2, 1, none⟩ = some (.int .i64 (Rc : Int)) := ⟨two_cell0 (Hf.out.kept Qp2.out (fun h => h)), two_cell1 (Hf.out.kept Qp2.out (fun h => h))⟩
      by_cases hb1 : 1 < cl
      · have d1 : decide ((1 : Int) < (cl : Int)) = true := decide_eq_true (by omega)
        have d1' : decide (1 < cl) = true := decide_eq_true hb1
        by_cases hb2 : cc = 1
        · have d2 : ((cc : Int) == 1) = true := by rw [beq_iff_eq]; omega
          have hre := hk.1 ⟨hb1, hb2⟩
          have e0 : ((Re : Int) == 0) = true := by rw [beq_iff_eq]; omega
          clear hk
          go_wp2
          go_ret
          exact ⟨rfl, ebelow Hfo.out⟩
        · have d2 : ((cc : Int) == 1) = false := by rw [beq_eq_false_iff_ne]; omega
          obtain ⟨h1, h2, h3⟩ := hk.2 (fun h => hb2 h.2)
          have e0 : ((Re : Int) == 20) = true := by rw [beq_iff_eq]; omega
          have e1 : ((Rl : Int) == (cl : Int)) = true := by rw [beq_iff_eq]; omega
          have e2 : decide ((Rc : Int) ≤ (cc : Int)) = true := decide_eq_true (by omega)
          have e2' : decide (Rc ≤ cc) = true := decide_eq_true h3
          clear hk
          go_wp2
          go_ret
          exact ⟨rfl, ebelow Hfo.out⟩
      · have d1 : decide ((1 : Int) < (cl : Int)) = false := decide_eq_false (by omega)
        have d1' : decide (1 < cl) = false := decide_eq_false hb1
        obtain ⟨h1, h2, h3⟩ := hk.2 (fun h => hb1 h.1)
        have e0 : ((Re : Int) == 20) = true := by rw [beq_iff_eq]; omega
        have e1 : ((Rl : Int) == (cl : Int)) = true := by rw [beq_iff_eq]; omega
        have e2 : decide ((Rc : Int) ≤ (cc : Int)) = true := decide_eq_true (by omega)
        have e2' : decide (Rc ≤ cc) = true := decide_eq_true h3
        clear hk
        go_wp2
        go_ret
        exact ⟨rfl, ebelow Hfo.out⟩

end Go.Proofs.YtnffjafddbbjaaaGreatDoor.tableCuts

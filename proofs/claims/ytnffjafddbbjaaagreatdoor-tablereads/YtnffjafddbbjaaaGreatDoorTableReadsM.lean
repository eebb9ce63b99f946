/-
  The walk of the law TableReads, under the condition that the package's functions answer as their contracts say.
-/
import Derived.Test.YtnffjafddbbjaaaGreatDoorRows
import Derived.Test.YtnffjafddbbjaaaGreatDoorTHelp
import Derived.Test.YtnffjafddbbjaaaGreatDoorStrB
import Derived.Test.YtnffjafddbbjaaaGreatDoorXChange
import Derived.Test.YtnffjafddbbjaaaGreatDoorTbSome
namespace Go.Proofs.YtnffjafddbbjaaaGreatDoor.tableReads
open Go.ChangeShapes Go.WideShapes Go.ChangeAt Go.RowKit

set_option maxRecDepth 4000 in
set_option maxHeartbeats 6400000 in
theorem walkM {K : World → Prop} (M : TI K) (m0 : ByteArray) (a1 : Option Addr) (len1 cap1 : Nat) (z1 : List Int) (a2 : Int) (a3 : Option Addr) (len3 cap3 : Nat) (z3 : List Int) (a4 a5 a6 : Int) (m7 : ByteArray) (w : World) (w1 : IsRow .u8 w a1 len1 cap1 z1) (w2 : (Lit.int .u8 a2).wf = true) (w3 : IsRow .u8 w a3 len3 cap3 z3) (w4 : (Lit.int .u8 a4).wf = true) (w5 : (Lit.int .u16 a5).wf = true) (w6 : (Lit.int .u8 a6).wf = true) (hK : K w) :
    Calls Tryz.prog 4 #[.string m0, .slice a1 len1 cap1, .int .u8 a2, .slice a3 len3 cap3, .int .u8 a4, .int .u16 a5, .int .u8 a6, .string m7] w fun e w' => e = .returned (.bool true) ∧ Below w.heap.size w w' := by
  have HK : Hid (K w) := hK
  clear hK
  obtain ⟨ms, hml, hmb, hmr⟩ := bytes_arg w1
  have Hms : Hid (Reads .u8 w (.slice a1 len1 cap1) ms) := hmr
  have Hmb : Hid (∀ x ∈ ms, x < 256) := hmb
  have Hml : Hid (ms.length = len1) := hml
  obtain ⟨bs, hbl, hbb, hbr⟩ := bytes_arg w3
  have Hbs : Hid (Reads .u8 w (.slice a3 len3 cap3) bs) := hbr
  have Hbb : Hid (∀ x ∈ bs, x < 256) := hbb
  have Hbl : Hid (bs.length = len3) := hbl
  obtain ⟨k, rfl, hk⟩ := eu8_nat w2
  have Hk : Hid (k < 256) := hk
  obtain ⟨how, rfl, hhow⟩ := eu8_nat w4
  have Hhow : Hid (how < 256) := hhow
  obtain ⟨at_, rfl, hat⟩ : ∃ n : Nat, a5 = (n : Int) ∧ n < 65536 := ⟨a5.toNat, by have := bounds_u16 w5; omega⟩
  have Hat : Hid (at_ < 65536) := hat
  obtain ⟨c, rfl, hc⟩ := eu8_nat w6
  have Hc : Hid (c < 256) := hc
  clear w1 w2 w3 w4 w5 w6 hml hmb hmr hbl hbb hbr hk hhow hat hc
  go_enter Tryz.func4, Tryz.ntmps4
  go_wp2_with fail
  refine (tknown_any M w HK.out).mono ?_
  rintro e w1 ⟨rfl, hf1⟩
  have Hf1 : Hid (Fr w w1 (fun _ => False)) := hf1
  clear hf1
  by_cases hb0 : 80 < m0.size
  · have d1 : decide ((80 : Int) < (m0.size : Int)) = true := decide_eq_true (by omega)
    have d1' : decide (80 < m0.size) = true := decide_eq_true hb0
    go_wp2
    go_ret
    exact ⟨rfl, ebelow Hf1.out⟩
  have db0 : decide ((80 : Int) < (m0.size : Int)) = false := decide_eq_false (by omega)
  have db0' : decide (80 < m0.size) = false := decide_eq_false hb0
  by_cases hb1 : 12 < len1
  · have d1 : decide ((12 : Int) < (len1 : Int)) = true := decide_eq_true (by omega)
    have d1' : decide (12 < len1) = true := decide_eq_true hb1
    go_wp2
    go_ret
    exact ⟨rfl, ebelow Hf1.out⟩
  have db1 : decide ((12 : Int) < (len1 : Int)) = false := decide_eq_false (by omega)
  have db1' : decide (12 < len1) = false := decide_eq_false hb1
  by_cases hb2 : 45 < len3
  · have d1 : decide ((45 : Int) < (len3 : Int)) = true := decide_eq_true (by omega)
    have d1' : decide (45 < len3) = true := decide_eq_true hb2
    go_wp2
    go_ret
    exact ⟨rfl, ebelow Hf1.out⟩
  have db2 : decide ((45 : Int) < (len3 : Int)) = false := decide_eq_false (by omega)
  have db2' : decide (45 < len3) = false := decide_eq_false hb2
  by_cases hb3 : 20 < m7.size
  · have d1 : decide ((20 : Int) < (m7.size : Int)) = true := decide_eq_true (by omega)
    have d1' : decide (20 < m7.size) = true := decide_eq_true hb3
    go_wp2
    go_ret
    exact ⟨rfl, ebelow Hf1.out⟩
  have db3 : decide ((20 : Int) < (m7.size : Int)) = false := decide_eq_false (by omega)
  have db3' : decide (20 < m7.size) = false := decide_eq_false hb3
  have Hm0 : Hid (m0.size ≤ 80) := by show _ ≤ _; omega
  have Hl1 : Hid (len1 ≤ 12) := by show _ ≤ _; omega
  have Hl3 : Hid (bs.length ≤ 45) := by have := Hbl.out; show _ ≤ _; omega
  have Hm7 : Hid (m7.size ≤ 20) := by show _ ≤ _; omega
  clear hb0 hb1 hb2 hb3
  go_wp2_with fail
  refine (seatH_any k _ bs _ (Hbs.out.keep Hf1.out) Hbb.out (by have := Hl3.out; omega) Hk.out).mono ?_
  rintro r w2 ⟨n, E, a2', m, c2', rfl, hm, -, -, hok, hr2, hmc, g⟩
  have Hf2 : Hid (Fr w w2 (fun _ => False)) := Hf1.out.none g
  have H40 := hok.len
  have hpr := refPrintTable_any n _ E w2 hr2 hok.n64 (by omega) hok.fit
  have hsz := prTab_size n E
  obtain ⟨S, hS⟩ : ∃ S, S = prTab n E := ⟨_, rfl⟩
  rw [← hS] at hpr hsz
  have hsz' : S.size ≤ 6000 := by omega
  have HSz : Hid (S.size ≤ 6000) := hsz'
  clear g hok hm hr2 H40 hsz hsz' hS hmc
  go_wp2_with fail
  refine hpr.mono ?_
  clear hpr
  rintro r w3 ⟨rfl, g⟩
  have Hf3 : Hid (Fr w w3 (fun _ => False)) := Hf2.out.none g
  clear g
  obtain ⟨v1, x1, hcv1, hrv1, g1⟩ := str_bytes S w3
  obtain ⟨v2, x2, hcv2, hrv2, g2⟩ := str_bytes m7 x1
  have Hrv1 : Hid (Reads .u8 x2 v1 (bytesL S)) := hrv1.keep g2
  have Hrv2 : Hid (Reads .u8 x2 v2 (bytesL m7)) := hrv2
  have Hx2 : Hid (Fr w x2 (fun _ => False)) := Hf3.out.none (g1.none g2)
  clear hrv1 hrv2 g1 g2
  go_wp2_with fail
  refine (seatChange_any v1 v2 (bytesL S) (bytesL m7) how at_ c x2 Hrv1.out Hrv2.out (bytesL_lt S) (bytesL_lt m7) (by have := HSz.out; rw [bytesL_len]; omega) (by have := Hm7.out; rw [bytesL_len]; omega) Hhow.out Hat.out Hc.out).mono ?_
  rintro r x3 ⟨⟨v3, ds, rfl, hr3, -, hl3⟩, g⟩
  have Hx3 : Hid (Fr w x3 (fun _ => False)) := Hx2.out.none g
  have hcv3 := conv_reads hr3
  obtain ⟨D, hD⟩ : ∃ D, D = strOf ds := ⟨_, rfl⟩
  have hDz : D.size ≤ 7000 := by have := HSz.out; have := Hm7.out; rw [bytesL_len, bytesL_len] at hl3; rw [hD, strOf_length]; omega
  have HDz : Hid (D.size ≤ 7000) := hDz
  rw [← hD] at hcv3
  clear g hr3 hl3 hD hDz
  go_wp2_with fail
  refine (some14_any a1 ms len1 cap1 x3 Hml.out Hmb.out (Hms.out.keep Hx3.out) (by have := Hl1.out; omega)).mono ?_
  rintro r x4 ⟨⟨s1, rfl, hs1⟩, g⟩
  have Hs1 : Hid (s1.size ≤ 7000) := by have := Hl1.out; show _ ≤ _; omega
  have Hx4 : Hid (Fr w x4 (fun _ => False)) := Hx3.out.none g
  have n1 : ¬ 9223372036854775807 < S.size + m7.size := by have := HSz.out; have := Hm7.out; omega
  clear g hs1
  go_wp2_with fail
  refine (some14_any a1 ms len1 cap1 x4 Hml.out Hmb.out (Hms.out.keep Hx4.out) (by have := Hl1.out; omega)).mono ?_
  rintro r x5 ⟨⟨s2, rfl, hs2⟩, g⟩
  have Hx5 : Hid (Fr w x5 (fun _ => False)) := Hx4.out.none g
  have n2 : ¬ 9223372036854775807 < S.size + s2.size := by have := HSz.out; have := Hl1.out; omega
  have hXS := strs_lit x5 [m0, s1, S, D, S ++ m7, S ++ s2] 7000 (fun s hs => by
    have q1 := Hm0.out
    have q2 := Hs1.out
    have q3 := HSz.out
    have q4 := HDz.out
    have q5 := Hm7.out
    have q6 := Hl1.out
    simp only [List.mem_cons, List.not_mem_nil, or_false] at hs
    rcases hs with rfl | rfl | rfl | rfl | rfl | rfl
    · omega
    · omega
    · omega
    · omega
    · rw [ByteArray.size_append]; omega
    · rw [ByteArray.size_append]; omega) #[.string m0, .string s1, .string S, .string D, .string (S ++ m7), .string (S ++ s2)] rfl
  clear g hs2
  go_wp2_with fail
  obtain ⟨pT, hpT⟩ : ∃ p, p = x5.heap.size := ⟨_, rfl⟩
  obtain ⟨x6, hx6⟩ : ∃ x, x = x5.alloc (.cells #[.string m0, .string s1, .string S, .string D, .string (S ++ m7), .string (S ++ s2)] 9) := ⟨_, rfl⟩
  rw [← hx6, ← hpT] at hXS ⊢
  have Hx6 : Hid (Fr w x6 (fun _ => False)) := by show Fr _ _ _; rw [hx6]; exact Hx5.out.alloc _
  have HXS : Hid (∀ i, i < 6 → ∃ s : ByteArray, s.size ≤ 7000 ∧ ∀ z, Fr x6 z (fun _ => False) → z.cell? ⟨pT, i, none⟩ = some (.string s)) := fun i hi => by
    obtain ⟨s, -, h1, h2⟩ := hXS i hi
    exact ⟨s, h1, h2⟩
  clear hpT hx6 hXS n1 n2 hcv1 hcv2 hcv3
  go_loopg [80] 6 (fun g I wr => ∃ i : Nat, g = 6 - i ∧ i ≤ 6 ∧ I = .int .i64 (i : Int) ∧ Fr x6 wr (fun _ => False))
  case atStart => exact ⟨0, by omega, by omega, rfl, Fr.refl _ _⟩
  case round =>
    obtain ⟨i, hg, hi, rfl, hf⟩ := hrel
    have Hg : Hid _ := hg
    have Hf : Hid (Fr x6 wr (fun _ => False)) := hf
    clear hg hf
    by_cases hlt : i < 6
    · have hin : (i : Int) < 6 := by omega
      have hin' : decide (i < 6) = true := decide_eq_true hlt
      have hi0 : (0 : Int) ≤ (i : Int) := by omega
      obtain ⟨X, hXz, hXc⟩ := HXS.out i hlt
      have kx := hXc wr Hf.out
      have HXz : Hid (X.size ≤ 7000) := hXz
      clear hXz hXc
      have hp1 := M.parse X wr (by have := HXz.out; omega) (M.keep (M.keep HK.out Hx6.out) Hf.out)
      have hp2 := fun z => refParseTable_any X z (by have := HXz.out; omega)
      have hbk := tparse_back X (by have := HXz.out; omega)
      obtain ⟨⟨Rn, Rv, Rl, Rc, Re⟩, hR⟩ : ∃ R, R = parseTab X := ⟨_, rfl⟩
      rw [← hR] at hp1 hp2 hbk
      dsimp only at hbk
      have Hbk : Hid _ := hbk
      unfold histV placeR at hp1 hp2
      dsimp only at hp1 hp2
      clear hR hbk
      go_wp2_with fail
      refine hp1.mono ?_
      clear hp1 kx
      rintro r z1 ⟨⟨v5, rfl, hr5⟩, g⟩
      obtain ⟨a5, c5, rfl, hc5⟩ : ∃ a c, v5 = .slice a Rv.length c ∧ Rv.length ≤ c := hr5.form
      have Hr5 : Hid (RdV z1 (.slice a5 Rv.length c5) Rv) := hr5
      have Z1 : Hid (Fr x6 z1 (fun _ => False)) := Hf.out.none g
      clear g hr5
      go_upto_region 11 with fail
      (
        obtain ⟨p1, hp1⟩ : ∃ p, p = z1.heap.size := ⟨_, rfl⟩
        obtain ⟨p2, hp2⟩ : ∃ p, p = p1 + 1 := ⟨_, rfl⟩
        obtain ⟨z2, hz2⟩ : ∃ x, x = (z1.alloc (.cells #[.int .u64 (Rn : Int), .slice a5 Rv.length c5] 25)).alloc (.cells #[.int .i64 (Rl : Int), .int .i64 (Rc : Int)] 38) := ⟨_, rfl⟩
        rw [← hz2, ← hp1, ← hp2]
        have Qp1 : Hid (∀ z, Fr z2 z (fun _ => False) → z.heap[p1]? = some (.cells #[.int .u64 (Rn : Int), .slice a5 Rv.length c5] 25 (0, 0))) := fun z hz => hz.kept (by rw [hz2, hp1]; exact blk_alloc _ (heap_alloc_new _ _)) (fun h => h)
        have Qp2 : Hid (∀ z, Fr z2 z (fun _ => False) → z.heap[p2]? = some (.cells #[.int .i64 (Rl : Int), .int .i64 (Rc : Int)] 38 (0, 0))) := fun z hz => hz.kept (by
          have h0 := heap_alloc_new (z1.alloc (.cells #[.int .u64 (Rn : Int), .slice a5 Rv.length c5] 25)) (.cells #[.int .i64 (Rl : Int), .int .i64 (Rc : Int)] 38)
          rw [hz2, hp2, hp1]
          simpa using h0) (fun h => h)
        have gz2 : Fr z1 z2 (fun _ => False) := by rw [hz2]; exact ((Fr.refl _ _).alloc _).alloc _
        have Gz2 : Hid (Fr z1 z2 (fun _ => False)) := gz2
        clear hp1 hp2 hz2 gz2
        have Z2 : Hid (Fr x6 z2 (fun _ => False)) := Z1.out.none Gz2.out
        have hp3 := hp2 z2
        clear hp2
        go_wp2_with fail
        refine hp3.mono ?_
        clear hp3
        rintro r z3 ⟨⟨v6, rfl, hr6⟩, g⟩
        obtain ⟨a6, c6, rfl, hc6⟩ : ∃ a c, v6 = .slice a Rv.length c ∧ Rv.length ≤ c := hr6.form
        have Hr6 : Hid (RdV z3 (.slice a6 Rv.length c6) Rv) := hr6
        have G23 : Hid (Fr z2 z3 (fun _ => False)) := g
        have Z3 : Hid (Fr x6 z3 (fun _ => False)) := Z2.out.none g
        clear g hr6
        go_upto_region 12 with fail
        obtain ⟨p3, hp3⟩ : ∃ p, p = z3.heap.size := ⟨_, rfl⟩
        obtain ⟨p4, hp4⟩ : ∃ p, p = p3 + 1 := ⟨_, rfl⟩
        obtain ⟨z4, hz4⟩ : ∃ x, x = (z3.alloc (.cells #[.int .u64 (Rn : Int), .slice a6 Rv.length c6] 25)).alloc (.cells #[.int .i64 (Rl : Int), .int .i64 (Rc : Int)] 38) := ⟨_, rfl⟩
        rw [← hz4, ← hp3, ← hp4]
        have Qp3 : Hid (∀ z, Fr z4 z (fun _ => False) → z.heap[p3]? = some (.cells #[.int .u64 (Rn : Int), .slice a6 Rv.length c6] 25 (0, 0))) := fun z hz => hz.kept (by rw [hz4, hp3]; exact blk_alloc _ (heap_alloc_new _ _)) (fun h => h)
        have Qp4 : Hid (∀ z, Fr z4 z (fun _ => False) → z.heap[p4]? = some (.cells #[.int .i64 (Rl : Int), .int .i64 (Rc : Int)] 38 (0, 0))) := fun z hz => hz.kept (by
          have h0 := heap_alloc_new (z3.alloc (.cells #[.int .u64 (Rn : Int), .slice a6 Rv.length c6] 25)) (.cells #[.int .i64 (Rl : Int), .int .i64 (Rc : Int)] 38)
          rw [hz4, hp4, hp3]
          simpa using h0) (fun h => h)
        have gz4 : Fr z3 z4 (fun _ => False) := by rw [hz4]; exact ((Fr.refl _ _).alloc _).alloc _
        have Gz4 : Hid (Fr z3 z4 (fun _ => False)) := gz4
        clear hp3 hp4 hz4 gz4
        have G24 : Hid (Fr z2 z4 (fun _ => False)) := G23.out.none Gz4.out
        have Z4 : Hid (Fr x6 z4 (fun _ => False)) := Z3.out.none Gz4.out
        have R5 : Hid (∀ z, Fr z4 z (fun _ => False) → RdV z (.slice a5 Rv.length c5) Rv) := fun z hz => Hr5.out.keep ((Gz2.out.none G24.out).none hz)
        have R6 : Hid (RdV z4 (.slice a6 Rv.length c6) Rv) := Hr6.out.keep Gz4.out
        obtain ⟨ka, kb⟩ : z4.cell? ⟨p1, 0, none⟩ = some (.int .u64 (Rn : Int)) ∧ z4.cell? ⟨p1, 1, none⟩ = some (.slice a5 Rv.length c5) := ⟨two_cell0 (Qp1.out _ G24.out), two_cell1 (Qp1.out _ G24.out)⟩
        obtain ⟨kc, kd⟩ : z4.cell? ⟨p2, 0, none⟩ = some (.int .i64 (Rl : Int)) ∧ z4.cell? ⟨p2, 1, none⟩ = some (.int .i64 (Rc : Int)) := ⟨two_cell0 (Qp2.out _ G24.out), two_cell1 (Qp2.out _ G24.out)⟩
        obtain ⟨ke, kf⟩ : z4.cell? ⟨p3, 0, none⟩ = some (.int .u64 (Rn : Int)) ∧ z4.cell? ⟨p3, 1, none⟩ = some (.slice a6 Rv.length c6) := ⟨two_cell0 (Qp3.out _ (Fr.refl _ _)), two_cell1 (Qp3.out _ (Fr.refl _ _))⟩
        obtain ⟨kg, kh⟩ : z4.cell? ⟨p4, 0, none⟩ = some (.int .i64 (Rl : Int)) ∧ z4.cell? ⟨p4, 1, none⟩ = some (.int .i64 (Rc : Int)) := ⟨two_cell0 (Qp4.out _ (Fr.refl _ _)), two_cell1 (Qp4.out _ (Fr.refl _ _))⟩
        have e1 : ((Re : Int) != (Re : Int)) = false := by simp
        go_wp2_with fail
        refine (refSame_any Rn Rn _ _ Rv Rv _ (R5.out _ (Fr.refl _ _)) R6.out (by have := Hbk.out.2.1; have := HXz.out; omega) (by have := Hbk.out.2.1; have := HXz.out; omega)).mono ?_
        rw [decide_eq_true (show Rn = Rn ∧ Rv = Rv from ⟨rfl, rfl⟩)]
        rintro r z5 ⟨rfl, g⟩
        have G45 : Hid (Fr z4 z5 (fun _ => False)) := g
        have Z5 : Hid (Fr x6 z5 (fun _ => False)) := Z4.out.none g
        clear g ka kb kc kd ke kf kg kh
        by_cases hce : Re = 0
        · have hre : (((Re : Int) != 0) = false) := by simp [hce]
          obtain ⟨hb1, hb2, hb3, hb4⟩ := Hbk.out
          obtain ⟨hq1, hq2⟩ := hb4 hce
          have hpn := M.print Rn _ Rv _ (R5.out z5 G45.out) hb1 (by have := HXz.out; omega) hb3 (M.keep (M.keep HK.out Hx6.out) Z5.out)
          rw [hq1, hq2] at hpn
          unfold histV at hpn
          clear hb1 hb2 hb3 hb4 hq1 hq2
          obtain ⟨ka, kb⟩ : z5.cell? ⟨p1, 0, none⟩ = some (.int .u64 (Rn : Int)) ∧ z5.cell? ⟨p1, 1, none⟩ = some (.slice a5 Rv.length c5) := ⟨two_cell0 (Qp1.out _ (G24.out.none G45.out)), two_cell1 (Qp1.out _ (G24.out.none G45.out))⟩
          go_wp2_with fail
          refine hpn.mono ?_
          clear hpn
          rintro r z6 ⟨rfl, g⟩
          have Z6 : Hid (Fr x6 z6 (fun _ => False)) := Z5.out.none g
          clear g
          go_wp2_with fail
          go_roundg (6 - (i + 1))
          case rel => exact ⟨i + 1, rfl, by omega, by go_num, Z6.out⟩
          case measure => rw [Hg.out]; omega
        · have e3 : ((Re : Int) != 0) = true := by simp; omega
          go_wp2_with fail
          go_roundg (6 - (i + 1))
          case rel => exact ⟨i + 1, rfl, by omega, by go_num, Z5.out⟩
          case measure => rw [Hg.out]; omega)
    · have hin : ¬ (i : Int) < 6 := by omega
      have hin' : decide (i < 6) = false := decide_eq_false hlt
      have Hfo : Hid (Fr w wr (fun _ => False)) := Hx6.out.none Hf.out
      go_wp2
      go_ret
      exact ⟨rfl, ebelow Hfo.out⟩

end Go.Proofs.YtnffjafddbbjaaaGreatDoor.tableReads

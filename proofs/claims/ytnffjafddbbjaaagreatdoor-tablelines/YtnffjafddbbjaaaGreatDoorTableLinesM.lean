/-
  The walk of the law TableLines, under the condition that table's functions answer as their contracts say.
-/
import Derived.Test.YtnffjafddbbjaaaGreatDoorRows
import Derived.Test.YtnffjafddbbjaaaGreatDoorTLin
import Derived.Test.YtnffjafddbbjaaaGreatDoorOStr
import Derived.Test.YtnffjafddbbjaaaGreatDoorTHelp
import Derived.Test.YtnffjafddbbjaaaGreatDoorLLives
namespace Go.Proofs.YtnffjafddbbjaaaGreatDoor.tableLines
open Go.ChangeShapes Go.WideShapes Go.ChangeAt Go.RowKit

set_option maxRecDepth 4000 in
set_option maxHeartbeats 6400000 in
theorem walkM {K : World → Prop} (M : TI K) (a0 : Int) (a1 : Option Addr) (len1 cap1 : Nat) (z1 : List Int) (a2 a3 : Int) (w : World) (w0 : (Lit.int .u8 a0).wf = true) (w1 : IsRow .u8 w a1 len1 cap1 z1) (w2 : (Lit.int .u8 a2).wf = true) (w3 : (Lit.int .u8 a3).wf = true) (hK : K w) :
    Calls Tryz.prog 6 #[.int .u8 a0, .slice a1 len1 cap1, .int .u8 a2, .int .u8 a3] w fun e w' => e = .returned (.bool true) ∧ Below w.heap.size w w' := by
  have HK : Hid (K w) := hK
  clear hK
  obtain ⟨bs, hbl, hbb, hbr⟩ := bytes_arg w1
  have Hbs : Hid (Reads .u8 w (.slice a1 len1 cap1) bs) := hbr
  have Hbb : Hid (∀ x ∈ bs, x < 256) := hbb
  have Hbl : Hid (bs.length = len1) := hbl
  obtain ⟨k, rfl, hk⟩ := eu8_nat w0
  have Hk : Hid (k < 256) := hk
  obtain ⟨i0, rfl, hi0⟩ := eu8_nat w2
  obtain ⟨j0, rfl, hj0⟩ := eu8_nat w3
  have Hi0 : Hid (i0 < 256 ∧ j0 < 256) := ⟨hi0, hj0⟩
  clear w0 w1 w2 w3 z1 hbl hbb hbr hk hi0 hj0
  go_enter Tryz.func6, Tryz.ntmps6
  go_wp2_with fail
  refine (tknown_any M w HK.out).mono ?_
  rintro e w1 ⟨rfl, hf1⟩
  have Hf1 : Hid (Fr w w1 (fun _ => False)) := hf1
  clear hf1
  by_cases hb60 : 60 < len1
  · have d1 : decide ((60 : Int) < (len1 : Int)) = true := decide_eq_true (by omega)
    have d1' : decide (60 < len1) = true := decide_eq_true hb60
    go_wp2
    go_ret
    exact ⟨rfl, ebelow Hf1.out⟩
  have db60 : decide ((60 : Int) < (len1 : Int)) = false := decide_eq_false (by omega)
  have db60' : decide (60 < len1) = false := decide_eq_false hb60
  have Hl : Hid (bs.length ≤ 60) := by have := Hbl.out; show _ ≤ _; omega
  clear hb60
  go_wp2_with fail
  refine (seatH_any k _ bs _ (Hbs.out.keep Hf1.out) Hbb.out (by have := Hl.out; omega) Hk.out).mono ?_
  rintro r w2 ⟨n, E, a2', m, c2', rfl, hm, hnv, hEv, hok, hr2, hmc, g⟩
  have Hf2 : Hid (Fr w w2 (fun _ => False)) := Hf1.out.none g
  have HO : Hid (HOk n E) := hok
  have Hr2 : Hid (RdV w2 (.slice a2' m c2') E) := hr2
  clear g hok hm hr2 hmc hnv hEv
  go_upto_region 6 with fail
  obtain ⟨ph, hph⟩ : ∃ p, p = w2.heap.size := ⟨_, rfl⟩
  obtain ⟨w3, hw3⟩ : ∃ x, x = w2.alloc (.cells #[.int .u64 (n : Int), .slice a2' m c2'] 25) := ⟨_, rfl⟩
  rw [← hw3, ← hph]
  have Qh : Hid (∀ z, Fr w3 z (fun _ => False) → z.heap[ph]? = some (.cells #[.int .u64 (n : Int), .slice a2' m c2'] 25 (0, 0))) := fun z hz => hz.kept (by rw [hw3, hph]; exact heap_alloc_new _ _) (fun h => h)
  have H23 : Hid (Fr w2 w3 (fun _ => False)) := by show Fr _ _ _; rw [hw3]; exact (Fr.refl _ _).alloc _
  have Hf3 : Hid (Fr w w3 (fun _ => False)) := Hf2.out.none H23.out
  have Hr3 : Hid (∀ z, Fr w3 z (fun _ => False) → RdV z (.slice a2' m c2') E) := fun z hz => Hr2.out.keep (H23.out.none hz)
  clear hph hw3
  obtain ⟨ka, kb⟩ : w3.cell? ⟨ph, 0, none⟩ = some (.int .u64 (n : Int)) ∧ w3.cell? ⟨ph, 1, none⟩ = some (.slice a2' m c2') := ⟨two_cell0 (Qh.out w3 (Fr.refl _ _)), two_cell1 (Qh.out w3 (Fr.refl _ _))⟩
  have H40 := HO.out.len
  have hc0 : (checkF n E).2 = 0 := by rw [HO.out.chk]
  have hpr := M.print n _ E w3 (Hr3.out _ (Fr.refl _ _)) HO.out.n64 (by omega) HO.out.fit (M.keep HK.out Hf3.out)
  obtain ⟨LS, hLS⟩ : ∃ L, L = livesE [] E := ⟨_, rfl⟩
  obtain ⟨L0, hL0⟩ : ∃ L, L = tabL n LS := ⟨_, rfl⟩
  obtain ⟨S0, hS0⟩ : ∃ S, S = strOf L0 := ⟨_, rfl⟩
  have hS : prTab n E = S0 := by rw [hS0, hL0, hLS]; exact prTab_ok hc0
  have hlf : livesF n E = (LS, 0) := by unfold livesF; rw [if_pos hc0, hLS]
  have hLSl : LS.length ≤ E.length := by rw [hLS]; exact lives_length E (good_check hc0).2.2.2
  have hlv := fun z hz => refLives_any n (.slice a2' m c2') E z hz (by omega) HO.out.fit
  rw [hlf] at hlv
  have Hin : Hid (∀ x ∈ LS, LfIn x) := by show ∀ x, _; rw [hLS]; exact lives_in hc0
  have HnN : Hid (n ≤ maxN) := (check_in hc0).1
  have Hchk : Hid ((lifeCheckF n LS).2 = 0) := by show _ = _; rw [hLS, lives_check hc0]
  have HeT : Hid (endT n LS = ⟨n, E, 0, 0, 0⟩) := by show _ = _; rw [hLS]; exact endT_lives hc0
  have hLl : L0.length ≤ 6000 := by have h1 := tabL_len HnN.out Hin.out; rw [hL0]; omega
  rw [hS, hc0] at hpr
  unfold histV at hpr hlv
  dsimp only at hlv
  have HL0 : Hid (L0 = tabL n LS) := hL0
  have HS : Hid (S0 = strOf L0) := hS0
  have HSn : Hid (S0.size = L0.length) := by show _ = _; rw [hS0, strOf_length]
  have HSz : Hid (S0.size ≤ 6000) := by show _ ≤ _; rw [hS0, strOf_length]; exact hLl
  have HL6 : Hid (∀ x ∈ L0, x < 256) := by show ∀ x, _; rw [hL0]; exact tabL_lt HnN.out Hin.out
  have HIx : Hid (∀ i, i < L0.length → chAt S0 i = L0.getD i 0) := fun i hi => by rw [HS.out]; exact chAt_strOf L0 i hi HL6.out
  have HLn : Hid (LS.length ≤ 40) := by show _ ≤ _; omega
  clear hS hL0 hS0 hc0 H40 hLl hLS hlf hLSl
  go_wp2_with fail
  refine hpr.mono ?_
  clear hpr ka kb
  rintro r w4 ⟨rfl, g⟩
  have H34 : Hid (Fr w3 w4 (fun _ => False)) := g
  clear g
  obtain ⟨ka, kb⟩ : w4.cell? ⟨ph, 0, none⟩ = some (.int .u64 (n : Int)) ∧ w4.cell? ⟨ph, 1, none⟩ = some (.slice a2' m c2') := ⟨two_cell0 (Qh.out w4 H34.out), two_cell1 (Qh.out w4 H34.out)⟩
  have hlv4 := hlv w4 (Hr3.out _ H34.out)
  clear hlv
  go_wp2_with fail
  refine hlv4.mono ?_
  clear hlv4 ka kb
  rintro r w5 ⟨⟨vl, rfl, hrl⟩, g⟩
  obtain ⟨al, cl, hvl, -⟩ := hrl.form
  obtain ⟨ml, hml⟩ : ∃ m, m = LS.length := ⟨_, rfl⟩
  rw [← hml] at hvl
  subst hvl
  have Hml : Hid (ml = LS.length) := hml
  have H35 : Hid (Fr w3 w5 (fun _ => False)) := H34.out.none g
  have Hf5 : Hid (Fr w w5 (fun _ => False)) := Hf3.out.none H35.out
  clear g hrl hml
  obtain ⟨Z, hZ⟩ : ∃ Z, Z = L0.length := ⟨_, rfl⟩
  have HZ : Hid _ := hZ
  clear hZ
  have hXe : (S0.size : Int) = (Z : Int) := by rw [HSn.out, HZ.out]
  go_wp2_with fail
  go_loopg [14, 15, 16] Z (fun g V A I wr => ∃ i : Nat, g = Z - i ∧ i ≤ Z ∧ I = .int .i64 (i : Int) ∧ A = .int .i64 ((segL (L0.take i)).1.flatten.length : Int) ∧ OwnT wr V ((segL (L0.take i)).1.map strOf) ∧ (∀ k, V.ownBlock = some k → w5.heap.size ≤ k) ∧ Fr w5 wr (fun _ => False))
  case atStart => exact ⟨0, by omega, by omega, rfl, rfl, OwnT.nil _, fun k hk => (by simp [Value.ownBlock] at hk), Fr.refl _ _⟩
  case round =>
    obtain ⟨i, hg, hi, rfl, rfl, ho, hn, hf⟩ := hrel
    have Hg : Hid _ := hg
    have Hf : Hid (Fr w5 wr (fun _ => False)) := hf
    have Ho : Hid _ := ho
    have Hn : Hid _ := hn
    have hz6 := HSz.out
    rw [HSn.out, ← HZ.out] at hz6
    clear hg hf ho hn
    by_cases hlt : i < Z
    · have hin : (i : Int) < (Z : Int) := by omega
      have hin' : decide (i < Z) = true := decide_eq_true hlt
      have hin2 : (i : Int) < (S0.size : Int) := by rw [hXe]; exact hin
      have hin3 : i < S0.size := by rw [HSn.out, ← HZ.out]; exact hlt
      have hin4 : i < L0.length := by rw [← HZ.out]; exact hlt
      obtain ⟨y, hy⟩ : ∃ y, y = L0.getD i 0 := ⟨_, rfl⟩
      have hix : ∀ z, (Instr.index 9 (.string S0) (.int .i64 (i : Int))).run Tryz.prog z = .ok (.int .u8 (y : Int)) z := fun z => by rw [hy, ← HIx.out i hin4]; exact index_any S0 i hin3 z
      by_cases hnl : y = 10
      · have h10 : ((y : Int) == 10) = true := by rw [beq_iff_eq]; omega
        obtain ⟨c1, c2, c3, c4⟩ := seg_cut hin4 (by rw [← hy]; exact hnl)
        obtain ⟨ss, hss⟩ : ∃ s, s = (segL (L0.take i)).1.map strOf := ⟨_, rfl⟩
        have hsl : ss.length ≤ 6000 := by have h1 := seg_few (L0.take i); rw [hss, List.length_map]; rw [List.length_take] at h1; omega
        have ho : OwnT wr u14 ss := by rw [hss]; exact Ho.out
        obtain ⟨fr, hfr⟩ : ∃ f, f = (segL (L0.take i)).1.flatten.length := ⟨_, rfl⟩
        rw [← hfr] at c1 c4 ⊢
        obtain ⟨v', w', hrun, ho', hfr', hmv⟩ := app_str wr _ ss (S0.extract fr (i + 1)) ho (by omega)
        obtain ⟨av, cv, hv⟩ := OwnT.form ho
        obtain ⟨ns, hns⟩ : ∃ q, q = ss.length := ⟨_, rfl⟩
        rw [← hns] at hv
        subst hv
        have Ho' : Hid (OwnT w' v' ((segL (L0.take (i + 1))).1.map strOf)) := by
          show OwnT _ _ _
          rw [c2, List.map_append, ← hss, List.map_cons, List.map_nil, ← c1, ← HS.out]
          exact ho'
        have Hn' : Hid (∀ k, v'.ownBlock = some k → w5.heap.size ≤ k) := fun k hk => by
          rcases hmv k hk with h1 | h1
          · exact Hn.out k h1
          · exact Nat.le_trans Hf.out.size h1
        have Hf' : Hid (Fr w5 w' (fun _ => False)) := Hf.out.newer hfr' (fun k hk => Hn.out k hk)
        have Hl' : Hid ((segL (L0.take (i + 1))).1.flatten.length = i + 1) := c3
        have g1 : (fr : Int) ≤ (i : Int) + 1 := by omega
        have g2 : (i : Int) + 1 ≤ (S0.size : Int) := by omega
        have g3 : (0 : Int) ≤ (fr : Int) := by omega
        clear hnl hy c1 c2 c3 c4 hss hsl ho hfr ho' hfr' hmv hns
        go_wp2_with (at_builtin; refine wpList_append_run rfl (.tmp 52) (.tmp 58) 46 rfl rfl rfl hrun ?_)
        go_roundg (Z - (i + 1))
        case rel => exact ⟨i + 1, rfl, by omega, by go_num, by rw [Hl'.out]; go_num, Ho'.out, Hn'.out, Hf'.out⟩
        case measure => rw [Hg.out]; omega
      · have h10 : ((y : Int) == 10) = false := by rw [beq_eq_false_iff_ne]; omega
        have hsame := seg_no hin4 (by rw [← hy]; exact hnl)
        have Hsame : Hid _ := hsame
        clear hsame hnl hy
        go_wp2_with fail
        go_roundg (Z - (i + 1))
        case rel => exact ⟨i + 1, rfl, by omega, by go_num, by rw [Hsame.out], by rw [Hsame.out]; exact Ho.out, Hn.out, Hf.out⟩
        case measure => rw [Hg.out]; omega
    obtain rfl : i = Z := by omega
    have hin : ¬ (i : Int) < (i : Int) := by omega
    have hin' : decide (i < i) = false := decide_eq_false hlt
    have hin2 : decide ((i : Int) < (S0.size : Int)) = false := by rw [hXe]; exact decide_eq_false hin
    have hseg : segL (L0.take i) = (headT n :: LS.map lineT, []) := by rw [List.take_of_length_le (by rw [HZ.out]; exact Nat.le_refl _), HL0.out, seg_tab]
    have hfl : (headT n :: LS.map lineT).flatten.length = i := by rw [tab_flat, ← HL0.out, ← HZ.out]
    have ho : OwnT wr u14 ((headT n :: LS.map lineT).map strOf) := by have h := Ho.out; rw [hseg] at h; exact h
    rw [hseg]
    dsimp only
    rw [hfl]
    obtain ⟨gb, cv, hv⟩ := OwnT.form1 ho (by simp)
    obtain ⟨N, hN⟩ : ∃ v, v = ml + 1 := ⟨_, rfl⟩
    have hNl : ((headT n :: LS.map lineT).map strOf).length = N := by rw [List.length_map, List.length_cons, List.length_map, hN, Hml.out]
    rw [hNl] at hv
    subst hv
    have HN : Hid (N = ml + 1) := hN
    have Hos : Hid (OwnT wr (.slice (some ⟨gb, 0, none⟩) N cv) ((headT n :: LS.map lineT).map strOf)) := ho
    have Hgn : Hid (w5.heap.size ≤ gb) := Hn.out gb rfl
    have q1 : ((N : Int) != (ml : Int) + 1) = false := by rw [bne_eq_false_iff_eq]; omega
    have q2 : ((i : Int) != (S0.size : Int)) = false := by rw [hXe, bne_eq_false_iff_eq]
    have q1' : ((N : Int) == (ml : Int) + 1) = true := by rw [beq_iff_eq]; omega
    have q2' : ((i : Int) == (S0.size : Int)) = true := by rw [hXe, beq_iff_eq]
    have hm40 : ml ≤ 40 := by have := Hml.out; have := HLn.out; omega
    clear hseg hfl ho hNl hN hin2 hlt hXe
    by_cases hm2 : ml < 2
    · have e1 : decide ((ml : Int) < 2) = true := decide_eq_true (by omega)
      have e1' : decide (ml < 2) = true := decide_eq_true hm2
      have Hfo : Hid (Fr w wr (fun _ => False)) := Hf5.out.none Hf.out
      go_wp2
      go_ret
      exact ⟨rfl, ebelow Hfo.out⟩
    have e1 : decide ((ml : Int) < 2) = false := decide_eq_false (by omega)
    have e1' : decide (ml < 2) = false := decide_eq_false hm2
    go_upto_region 19 with fail
    obtain ⟨p, hp⟩ : ∃ v, v = i0 % ml := ⟨_, rfl⟩
    obtain ⟨q, hq⟩ : ∃ v, v = j0 % ml := ⟨_, rfl⟩
    have tp : (i0 : Int).tmod (ml : Int) = (p : Int) := by rw [Int.tmod_eq_emod_of_nonneg (by omega), hp]; omega
    have tq : (j0 : Int).tmod (ml : Int) = (q : Int) := by rw [Int.tmod_eq_emod_of_nonneg (by omega), hq]; omega
    have hpb : p < ml := by rw [hp]; exact Nat.mod_lt _ (by omega)
    have hqb : q < ml := by rw [hq]; exact Nat.mod_lt _ (by omega)
    have ui : IntKind.i64.wrap (i0 : Int) = (i0 : Int) := by have := Hi0.out; exact IntWalk.i64_in _ (by omega)
    have uj : IntKind.i64.wrap (j0 : Int) = (j0 : Int) := by have := Hi0.out; exact IntWalk.i64_in _ (by omega)
    have up : IntKind.i64.wrap (p : Int) = (p : Int) := IntWalk.i64_in _ (by omega)
    have uq : IntKind.i64.wrap (q : Int) = (q : Int) := IntWalk.i64_in _ (by omega)
    have up1 : IntKind.i64.wrap ((p : Int) + 1) = (p : Int) + 1 := IntWalk.i64_in _ (by omega)
    have uq1 : IntKind.i64.wrap ((q : Int) + 1) = (q : Int) + 1 := IntWalk.i64_in _ (by omega)
    have m0 : ((ml : Int) == 0) = false := by rw [beq_eq_false_iff_ne]; omega
    have m0' : ¬ ml = 0 := by omega
    clear hp hq
    have Hos2 : Hid (OwnT wr.drew (.slice (some ⟨gb, 0, none⟩) N cv) ((headT n :: LS.map lineT).map strOf)) := OwnT.frame Hos.out ((Fr.refl _ (fun _ => False)).drew) (fun _ _ h => h)
    have Hfs : Hid (Fr w5 wr.drew (fun _ => False)) := Hf.out.drew
    refine wp_region_tree (fun _ => False) (.take 0 (.take 1 (.take 2 (.take 3 (.take 4 (.take 5 (.take 6 (.take 7 (.take 8 (.take 9 (.take 10 (.take 11 (.take 12 (.take 13 .nil)))))))))))))) (by kernel_rfl) (by kernel_rfl) (by decide) (by kernel_rfl) ?_
    iterate 14 (refine wpT_take (v := ?_) rfl rfl (fun x hx => ?_) ?_; rotate_left; (focus (go_simp; with_reducible rfl)); simp only [Act.put, List.setIfInBounds_toArray, List.set_cons_zero, List.set_cons_succ])
    unfold wpT
    generalize wr.drew = ws at Hos2 Hfs ⊢
    clear Hos tp tq ui uj m0 m0' e1 e1' hm2 q1 q2 q1' q2'
    by_cases hpq : q < p
    · have d1 : decide ((q : Int) + 1 < (p : Int) + 1) = true := decide_eq_true (by omega)
      have d1' : (q : Int) + 1 < (p : Int) + 1 := by omega
      have hpq : q ≤ p := Nat.le_of_lt hpq
      have Hpq : Hid (q ≤ p) := hpq
      have Hpm : Hid (q < ml) := by show _ < _; omega
      have Hqm : Hid (p < ml) := by show _ < _; omega
      clear hpq
      obtain ⟨x, hx⟩ : ∃ x, LS[q]? = some x := ⟨_, List.getElem?_eq_getElem (by have := Hml.out; have := Hpm.out; omega)⟩
      obtain ⟨y, hy⟩ : ∃ y, LS[p]? = some y := ⟨_, List.getElem?_eq_getElem (by have := Hml.out; have := Hqm.out; omega)⟩
      have Hx : Hid _ := hx
      have Hy : Hid _ := hy
      obtain ⟨X, hX⟩ : ∃ X, X = strOf (lineT x) := ⟨_, rfl⟩
      obtain ⟨Y, hY⟩ : ∃ Y, Y = strOf (lineT y) := ⟨_, rfl⟩
      have hcx : ((headT n :: LS.map lineT).map strOf)[q + 1]? = some X := by rw [List.map_cons, List.getElem?_cons_succ, List.getElem?_map, List.getElem?_map, hx, hX]; rfl
      have hcy : ((headT n :: LS.map lineT).map strOf)[p + 1]? = some Y := by rw [List.map_cons, List.getElem?_cons_succ, List.getElem?_map, List.getElem?_map, hy, hY]; rfl
      have HX : Hid (X = strOf (lineT x)) := hX
      have HY : Hid (Y = strOf (lineT y)) := hY
      clear hx hy hX hY
      have hNl : ((headT n :: LS.map lineT).map strOf).length = N := by rw [List.length_map, List.length_cons, List.length_map, HN.out, Hml.out]
      have jp : (q : Int) + 1 < (N : Int) := by have := HN.out; have := Hpm.out; omega
      have jq : (p : Int) + 1 < (N : Int) := by have := HN.out; have := Hqm.out; omega
      have jp0 : (0 : Int) ≤ (q : Int) + 1 := by omega
      have jq0 : (0 : Int) ≤ (p : Int) + 1 := by omega
      go_upto_region 22 with fail
      obtain ⟨yd, hyd⟩ : ∃ z, z = ws.drew := ⟨_, rfl⟩
      have fd : Fr ws yd (fun _ => False) := by rw [hyd]; exact (Fr.refl _ _).drew
      have hod : OwnT yd (.slice (some ⟨gb, 0, none⟩) N cv) ((headT n :: LS.map lineT).map strOf) := OwnT.frame Hos2.out fd (fun _ _ h => h)
      have Hfd : Hid (Fr w5 yd (fun _ => False)) := Hfs.out.none fd
      have kx0 : yd.cell? ⟨gb, q + 1, none⟩ = some (.string X) := OwnT.cell hod hNl hcx
      have ky0 : yd.cell? ⟨gb, p + 1, none⟩ = some (.string Y) := OwnT.cell hod hNl hcy
      have Hod : Hid (OwnT yd (.slice (some ⟨gb, 0, none⟩) N cv) ((headT n :: LS.map lineT).map strOf)) := hod
      rw [hyd] at kx0 ky0
      refine wp_region_tree (fun k => k = gb) (.take 0 (.take 1 (.take 2 (.take 3 (.take 4 (.take 5 (.take 6 (.take 8 (.take 9 (.take 10 (.two 7 (.one 11 (.take 12 (.one 13 (.take 14 (.one 15 .nil))))) 11 (.one 7 (.take 12 (.one 13 (.take 14 (.one 15 .nil)))))))))))))))) (by kernel_rfl) (by kernel_rfl) (by decide) (by kernel_rfl) ?_
      rw [← hyd] at kx0 ky0 ⊢
      clear fd hyd hod
      iterate 10 (refine wpT_take (v := ?_) rfl rfl (fun x hx => ?_) ?_; rotate_left; (focus (go_simp; with_reducible rfl)); simp only [Act.put, List.setIfInBounds_toArray, List.set_cons_zero, List.set_cons_succ])
      refine wpT_two rfl rfl rfl rfl (fun K hK => ?_) (fun K hK => ?_)
      all_goals
        go_simp
        refine hK _ _ (Fr.refl _ _) ?_
        clear hK K
        refine wpT_one rfl rfl (fun K hK => ?_)
        go_simp
        refine hK _ _ (Fr.refl _ _) ?_
        clear hK K
        have kf := fun j => OwnT.free Hod.out hNl j
        have ho1 : OwnT (yd.setCell ⟨gb, q + 1, none⟩ (.string Y)) (.slice (some ⟨gb, 0, none⟩) N cv) (((headT n :: LS.map lineT).map strOf).set (q + 1) Y) := OwnT.put Hod.out hNl (q + 1) Y
        have hNl1 : (((headT n :: LS.map lineT).map strOf).set (q + 1) Y).length = N := by rw [List.length_set]; exact hNl
        have ho2 := OwnT.put ho1 hNl1 (p + 1) X
        rw [HX.out, HY.out, lines_swap, ← HX.out, ← HY.out] at ho2
        have Ho2 : Hid (OwnT ((yd.setCell ⟨gb, q + 1, none⟩ (.string Y)).setCell ⟨gb, p + 1, none⟩ (.string X)) (.slice (some ⟨gb, 0, none⟩) N cv) ((headT n :: ((LS.set q y).set p x).map lineT).map strOf)) := ho2
        obtain ⟨s1, hs1⟩ : ∃ s, (((headT n :: LS.map lineT).map strOf).set (q + 1) Y)[p + 1]? = some s := ⟨_, List.getElem?_eq_getElem (by rw [hNl1]; have := Hqm.out; have := HN.out; omega)⟩
        have kz1 := OwnT.cell ho1 hNl1 hs1
        have kf1 := fun j => OwnT.free ho1 hNl1 j
        clear ho1 ho2 hs1 hNl1
        iterate 1 (refine wpT_take (v := ?_) rfl rfl (fun x hx => ?_) ?_; rotate_left; (focus (go_simp; with_reducible rfl)); simp only [Act.put, List.setIfInBounds_toArray, List.set_cons_zero, List.set_cons_succ])
        refine wpT_one rfl rfl (fun K hK => ?_)
        go_simp
        refine hK _ _ (fr_put yd gb _ _) ?_
        clear hK K
        obtain ⟨y1, hy1⟩ : ∃ z, z = yd.setCell ⟨gb, q + 1, none⟩ (.string Y) := ⟨_, rfl⟩
        have f1 : Fr yd y1 (fun k => k = gb) := by rw [hy1]; exact fr_put _ _ _ _
        rw [← hy1] at kz1 kf1 Ho2 ⊢
        have F1 : Hid (Fr yd y1 (fun k => k = gb)) := f1
        clear hy1 f1 kx0 ky0 kf
        iterate 1 (refine wpT_take (v := ?_) rfl rfl (fun x hx => ?_) ?_; rotate_left; (focus (go_simp; with_reducible rfl)); simp only [Act.put, List.setIfInBounds_toArray, List.set_cons_zero, List.set_cons_succ])
        refine wpT_one rfl rfl (fun K hK => ?_)
        go_simp
        refine hK _ _ (fr_put y1 gb _ _) ?_
        clear hK K
        obtain ⟨z2, hz2⟩ : ∃ z, z = y1.setCell ⟨gb, p + 1, none⟩ (.string X) := ⟨_, rfl⟩
        have f2 : Fr y1 z2 (fun k => k = gb) := by rw [hz2]; exact fr_put _ _ _ _
        rw [← hz2] at Ho2 ⊢
        have Hz2f : Hid (Fr w z2 (fun _ => False)) := by
          refine (Hf5.out.none Hfd.out).newer (F1.out.trans f2 (fun _ _ h => h)) (fun k hk => ?_)
          have h1 := Hgn.out
          have h2 := Hf5.out.size
          omega
        clear hz2 f2 kz1 kf1
        unfold wpT
        obtain ⟨SW, hSW⟩ : ∃ L, L = ((LS.set q y).set p x) := ⟨_, rfl⟩
        rw [← hSW] at Ho2
        have HSW : Hid (SW = ((LS.set q y).set p x)) := hSW
        have HSl : Hid (SW.length = LS.length) := by show _ = _; rw [hSW, List.length_set, List.length_set]
        have HSin : Hid (∀ z ∈ SW, LfIn z) := by
          show ∀ z, _
          intro z hz
          rw [hSW] at hz
          rcases List.mem_or_eq_of_mem_set hz with h1 | h1
          · rcases List.mem_or_eq_of_mem_set h1 with h2 | h2
            · exact Hin.out z h2
            · rw [h2]; exact Hin.out y (List.mem_of_getElem? Hy.out)
          · rw [h1]; exact Hin.out x (List.mem_of_getElem? Hx.out)
        obtain ⟨QQ, hQQ⟩ : ∃ Q, Q = headT n :: SW.map lineT := ⟨_, rfl⟩
        rw [← hQQ] at Ho2
        have HQf : Hid (QQ.flatten = tabL n SW) := by show _ = _; rw [hQQ]; exact tab_flat n SW
        have HQl : Hid (QQ.length = N) := by show _ = _; rw [hQQ, List.length_cons, List.length_map, HSl.out, HN.out, Hml.out]
        have HQz : Hid (QQ.flatten.length ≤ 6000) := by
          show _ ≤ _
          have h1 := tabL_len HnN.out HSin.out
          have h2 := HSl.out
          have h3 := HLn.out
          rw [HQf.out]
          omega
        clear hSW hQQ
        go_wp2_with fail
        go_loopg [19, 20] N (fun g A I wx => ∃ (i : Nat) (B : ByteArray), g = N - i ∧ i ≤ N ∧ I = .int .i64 (i : Int) ∧ A = .string B ∧ B = strOf (QQ.take i).flatten ∧ Fr z2 wx (fun _ => False))
        case atStart => exact ⟨0, _, by omega, by omega, rfl, rfl, rfl, Fr.refl _ _⟩
        case round =>
          obtain ⟨c, B, hg2, hc, rfl, rfl, hB, hf2⟩ := hrel
          have Hg2 : Hid _ := hg2
          have HB : Hid _ := hB
          have Hf2 : Hid (Fr z2 wr (fun _ => False)) := hf2
          clear hg2 hB hf2
          by_cases hlt2 : c < N
          · have hin3 : (c : Int) < (N : Int) := by omega
            have hin3' : decide (c < N) = true := decide_eq_true hlt2
            have hc41 : c ≤ 41 := by have := HN.out; omega
            have hcq : c < QQ.length := by rw [HQl.out]; exact hlt2
            obtain ⟨q0, hq0⟩ : ∃ q, QQ[c]? = some q := ⟨_, List.getElem?_eq_getElem hcq⟩
            have kc := OwnT.cell (OwnT.frame Ho2.out Hf2.out (fun _ _ h => h)) (by rw [List.length_map]; exact HQl.out) (i := c) (s := strOf q0) (by rw [List.getElem?_map, hq0]; rfl)
            have hstep : (QQ.take (c + 1)).flatten = (QQ.take c).flatten ++ q0 := by rw [List.take_add_one, hq0, List.flatten_append]; simp
            have hle : (QQ.take (c + 1)).flatten.length ≤ 6000 := by
              have h1 := HQz.out
              have h2 : QQ.flatten = (QQ.take (c + 1)).flatten ++ (QQ.drop (c + 1)).flatten := by rw [← List.flatten_append, List.take_append_drop]
              rw [h2, List.length_append] at h1
              omega
            obtain ⟨D, hD⟩ : ∃ D, D = strOf q0 := ⟨_, rfl⟩
            have hsz : B.size + D.size ≤ 6000 := by rw [HB.out, hD, strOf_length, strOf_length, ← List.length_append, ← hstep]; exact hle
            have hBD : B ++ D = strOf (QQ.take (c + 1)).flatten := by rw [HB.out, hD, strOf_append, hstep]
            have HBD : Hid _ := hBD
            rw [← hD] at kc
            have ov : ¬ 9223372036854775807 < B.size + D.size := by omega
            clear hq0 hstep hle hD hsz hBD hcq
            go_wp2_with fail
            go_roundg (N - (c + 1))
            case rel => exact ⟨c + 1, _, rfl, by omega, by go_num, rfl, HBD.out, Hf2.out⟩
            case measure => rw [Hg2.out]; omega
          obtain rfl : c = N := by omega
          have hin3 : ¬ (c : Int) < (c : Int) := by omega
          have hin3' : decide (c < c) = false := decide_eq_false hlt2
          have hBt : B = strOf (tabL n SW) := by rw [HB.out, List.take_of_length_le (by rw [HQl.out]; exact Nat.le_refl _), HQf.out]
          have HBt : Hid _ := hBt
          have hpp := M.parse B wr (by rw [hBt, strOf_length, ← HQf.out]; have := HQz.out; omega) (M.keep HK.out (Hz2f.out.none Hf2.out))
          clear hlt2 hBt
          by_cases heq : q = p
          · exact absurd heq (by omega)
          · have e2 : (((q : Int) + 1) == ((p : Int) + 1)) = false := by rw [beq_eq_false_iff_ne]; omega
            have e2' : ((q : Int) == (p : Int)) = false := by rw [beq_eq_false_iff_ne]; omega
            have e2'' : (q == p) = false := by rw [beq_eq_false_iff_ne]; exact heq
            have hlt3 : q < p := by have := Hpq.out; omega
            have hres : parseTab B = ⟨0, [], q + 1 + 2, 1, 23⟩ := by
              obtain ⟨z, hz1, hz2, hz3⟩ := swap_bad Hchk.out hlt3 Hy.out Hx.out
              rw [← HSW.out] at hz1 hz2 hz3
              rw [tparse_bad_at HnN.out HSin.out hz1 hz2 (by rw [hz3]; decide) HBt.out, hz3]
            rw [hres] at hpp
            unfold histV placeR at hpp
            dsimp only at hpp
            obtain ⟨pl, hpl⟩ : ∃ v, v = q + 1 + 2 := ⟨_, rfl⟩
            rw [← hpl] at hpp
            have g5 : decide ((q : Int) + 1 + 1 < (pl : Int)) = true := decide_eq_true (by omega)
            have g6 : decide ((pl : Int) ≤ (p : Int) + 1 + 1) = true := decide_eq_true (by omega)
            have g5' : (q : Int) + 1 + 1 < (pl : Int) := by omega
            have g6' : (pl : Int) ≤ (p : Int) + 1 + 1 := by omega
            have g7 : q ≤ 40 ∧ p ≤ 40 := by have := Hpm.out; have := Hqm.out; omega
            clear hres hpl hlt3
            go_wp2_with fail
            refine hpp.mono ?_
            clear hpp
            rintro r z1 ⟨⟨v5, rfl, hr5⟩, g⟩
            obtain ⟨a5, c5, rfl, -⟩ : ∃ a c, v5 = .slice a 0 c ∧ 0 ≤ c := hr5.form
            clear hr5
            have Zf : Hid (Fr w z1 (fun _ => False)) := (Hz2f.out.none Hf2.out).none g
            clear g
            go_upto_region 29 with fail
            obtain ⟨p1, hp1⟩ : ∃ p, p = z1.heap.size := ⟨_, rfl⟩
            obtain ⟨p2, hp2⟩ : ∃ p, p = p1 + 1 := ⟨_, rfl⟩
            obtain ⟨z3, hz3⟩ : ∃ x, x = (z1.alloc (.cells #[.int .u64 0, .slice a5 0 c5] 25)).alloc (.cells #[.int .i64 (pl : Int), .int .i64 1] 38) := ⟨_, rfl⟩
            rw [← hz3, ← hp1, ← hp2]
            have Q2 : z3.heap[p2]? = some (.cells #[.int .i64 (pl : Int), .int .i64 1] 38 (0, 0)) := by
              have h0 := heap_alloc_new (z1.alloc (.cells #[.int .u64 0, .slice a5 0 c5] 25)) (.cells #[.int .i64 (pl : Int), .int .i64 1] 38)
              rw [hz3, hp2, hp1]
              simpa using h0
            have Hx0 : Hid (Fr w z3 (fun _ => False)) := by show Fr _ _ _; rw [hz3]; exact (Zf.out.alloc _).alloc _
            obtain ⟨kc, kd⟩ : z3.cell? ⟨p2, 0, none⟩ = some (.int .i64 (pl : Int)) ∧ z3.cell? ⟨p2, 1, none⟩ = some (.int .i64 1) := ⟨two_cell0 Q2, two_cell1 Q2⟩
            clear hz3 hp1 hp2 Q2
            go_wp2
            go_ret
            exact ⟨rfl, ebelow Hx0.out⟩
    · have d1 : decide ((q : Int) + 1 < (p : Int) + 1) = false := decide_eq_false (by omega)
      have d1' : ¬ (q : Int) + 1 < (p : Int) + 1 := by omega
      have hpq : p ≤ q := Nat.le_of_not_lt hpq
      have Hpq : Hid (p ≤ q) := hpq
      have Hpm : Hid (p < ml) := by show _ < _; omega
      have Hqm : Hid (q < ml) := by show _ < _; omega
      clear hpq
      obtain ⟨x, hx⟩ : ∃ x, LS[p]? = some x := ⟨_, List.getElem?_eq_getElem (by have := Hml.out; have := Hpm.out; omega)⟩
      obtain ⟨y, hy⟩ : ∃ y, LS[q]? = some y := ⟨_, List.getElem?_eq_getElem (by have := Hml.out; have := Hqm.out; omega)⟩
      have Hx : Hid _ := hx
      have Hy : Hid _ := hy
      obtain ⟨X, hX⟩ : ∃ X, X = strOf (lineT x) := ⟨_, rfl⟩
      obtain ⟨Y, hY⟩ : ∃ Y, Y = strOf (lineT y) := ⟨_, rfl⟩
      have hcx : ((headT n :: LS.map lineT).map strOf)[p + 1]? = some X := by rw [List.map_cons, List.getElem?_cons_succ, List.getElem?_map, List.getElem?_map, hx, hX]; rfl
      have hcy : ((headT n :: LS.map lineT).map strOf)[q + 1]? = some Y := by rw [List.map_cons, List.getElem?_cons_succ, List.getElem?_map, List.getElem?_map, hy, hY]; rfl
      have HX : Hid (X = strOf (lineT x)) := hX
      have HY : Hid (Y = strOf (lineT y)) := hY
      clear hx hy hX hY
      have hNl : ((headT n :: LS.map lineT).map strOf).length = N := by rw [List.length_map, List.length_cons, List.length_map, HN.out, Hml.out]
      have jp : (p : Int) + 1 < (N : Int) := by have := HN.out; have := Hpm.out; omega
      have jq : (q : Int) + 1 < (N : Int) := by have := HN.out; have := Hqm.out; omega
      have jp0 : (0 : Int) ≤ (p : Int) + 1 := by omega
      have jq0 : (0 : Int) ≤ (q : Int) + 1 := by omega
      go_upto_region 22 with fail
      obtain ⟨yd, hyd⟩ : ∃ z, z = ws.drew := ⟨_, rfl⟩
      have fd : Fr ws yd (fun _ => False) := by rw [hyd]; exact (Fr.refl _ _).drew
      have hod : OwnT yd (.slice (some ⟨gb, 0, none⟩) N cv) ((headT n :: LS.map lineT).map strOf) := OwnT.frame Hos2.out fd (fun _ _ h => h)
      have Hfd : Hid (Fr w5 yd (fun _ => False)) := Hfs.out.none fd
      have kx0 : yd.cell? ⟨gb, p + 1, none⟩ = some (.string X) := OwnT.cell hod hNl hcx
      have ky0 : yd.cell? ⟨gb, q + 1, none⟩ = some (.string Y) := OwnT.cell hod hNl hcy
      have Hod : Hid (OwnT yd (.slice (some ⟨gb, 0, none⟩) N cv) ((headT n :: LS.map lineT).map strOf)) := hod
      rw [hyd] at kx0 ky0
      refine wp_region_tree (fun k => k = gb) (.take 0 (.take 1 (.take 2 (.take 3 (.take 4 (.take 5 (.take 6 (.take 8 (.take 9 (.take 10 (.two 7 (.one 11 (.take 12 (.one 13 (.take 14 (.one 15 .nil))))) 11 (.one 7 (.take 12 (.one 13 (.take 14 (.one 15 .nil)))))))))))))))) (by kernel_rfl) (by kernel_rfl) (by decide) (by kernel_rfl) ?_
      rw [← hyd] at kx0 ky0 ⊢
      clear fd hyd hod
      iterate 10 (refine wpT_take (v := ?_) rfl rfl (fun x hx => ?_) ?_; rotate_left; (focus (go_simp; with_reducible rfl)); simp only [Act.put, List.setIfInBounds_toArray, List.set_cons_zero, List.set_cons_succ])
      refine wpT_two rfl rfl rfl rfl (fun K hK => ?_) (fun K hK => ?_)
      all_goals
        go_simp
        refine hK _ _ (Fr.refl _ _) ?_
        clear hK K
        refine wpT_one rfl rfl (fun K hK => ?_)
        go_simp
        refine hK _ _ (Fr.refl _ _) ?_
        clear hK K
        have kf := fun j => OwnT.free Hod.out hNl j
        have ho1 : OwnT (yd.setCell ⟨gb, p + 1, none⟩ (.string Y)) (.slice (some ⟨gb, 0, none⟩) N cv) (((headT n :: LS.map lineT).map strOf).set (p + 1) Y) := OwnT.put Hod.out hNl (p + 1) Y
        have hNl1 : (((headT n :: LS.map lineT).map strOf).set (p + 1) Y).length = N := by rw [List.length_set]; exact hNl
        have ho2 := OwnT.put ho1 hNl1 (q + 1) X
        rw [HX.out, HY.out, lines_swap, ← HX.out, ← HY.out] at ho2
        have Ho2 : Hid (OwnT ((yd.setCell ⟨gb, p + 1, none⟩ (.string Y)).setCell ⟨gb, q + 1, none⟩ (.string X)) (.slice (some ⟨gb, 0, none⟩) N cv) ((headT n :: ((LS.set p y).set q x).map lineT).map strOf)) := ho2
        obtain ⟨s1, hs1⟩ : ∃ s, (((headT n :: LS.map lineT).map strOf).set (p + 1) Y)[q + 1]? = some s := ⟨_, List.getElem?_eq_getElem (by rw [hNl1]; have := Hqm.out; have := HN.out; omega)⟩
        have kz1 := OwnT.cell ho1 hNl1 hs1
        have kf1 := fun j => OwnT.free ho1 hNl1 j
        clear ho1 ho2 hs1 hNl1
        iterate 1 (refine wpT_take (v := ?_) rfl rfl (fun x hx => ?_) ?_; rotate_left; (focus (go_simp; with_reducible rfl)); simp only [Act.put, List.setIfInBounds_toArray, List.set_cons_zero, List.set_cons_succ])
        refine wpT_one rfl rfl (fun K hK => ?_)
        go_simp
        refine hK _ _ (fr_put yd gb _ _) ?_
        clear hK K
        obtain ⟨y1, hy1⟩ : ∃ z, z = yd.setCell ⟨gb, p + 1, none⟩ (.string Y) := ⟨_, rfl⟩
        have f1 : Fr yd y1 (fun k => k = gb) := by rw [hy1]; exact fr_put _ _ _ _
        rw [← hy1] at kz1 kf1 Ho2 ⊢
        have F1 : Hid (Fr yd y1 (fun k => k = gb)) := f1
        clear hy1 f1 kx0 ky0 kf
        iterate 1 (refine wpT_take (v := ?_) rfl rfl (fun x hx => ?_) ?_; rotate_left; (focus (go_simp; with_reducible rfl)); simp only [Act.put, List.setIfInBounds_toArray, List.set_cons_zero, List.set_cons_succ])
        refine wpT_one rfl rfl (fun K hK => ?_)
        go_simp
        refine hK _ _ (fr_put y1 gb _ _) ?_
        clear hK K
        obtain ⟨z2, hz2⟩ : ∃ z, z = y1.setCell ⟨gb, q + 1, none⟩ (.string X) := ⟨_, rfl⟩
        have f2 : Fr y1 z2 (fun k => k = gb) := by rw [hz2]; exact fr_put _ _ _ _
        rw [← hz2] at Ho2 ⊢
        have Hz2f : Hid (Fr w z2 (fun _ => False)) := by
          refine (Hf5.out.none Hfd.out).newer (F1.out.trans f2 (fun _ _ h => h)) (fun k hk => ?_)
          have h1 := Hgn.out
          have h2 := Hf5.out.size
          omega
        clear hz2 f2 kz1 kf1
        unfold wpT
        obtain ⟨SW, hSW⟩ : ∃ L, L = ((LS.set p y).set q x) := ⟨_, rfl⟩
        rw [← hSW] at Ho2
        have HSW : Hid (SW = ((LS.set p y).set q x)) := hSW
        have HSl : Hid (SW.length = LS.length) := by show _ = _; rw [hSW, List.length_set, List.length_set]
        have HSin : Hid (∀ z ∈ SW, LfIn z) := by
          show ∀ z, _
          intro z hz
          rw [hSW] at hz
          rcases List.mem_or_eq_of_mem_set hz with h1 | h1
          · rcases List.mem_or_eq_of_mem_set h1 with h2 | h2
            · exact Hin.out z h2
            · rw [h2]; exact Hin.out y (List.mem_of_getElem? Hy.out)
          · rw [h1]; exact Hin.out x (List.mem_of_getElem? Hx.out)
        obtain ⟨QQ, hQQ⟩ : ∃ Q, Q = headT n :: SW.map lineT := ⟨_, rfl⟩
        rw [← hQQ] at Ho2
        have HQf : Hid (QQ.flatten = tabL n SW) := by show _ = _; rw [hQQ]; exact tab_flat n SW
        have HQl : Hid (QQ.length = N) := by show _ = _; rw [hQQ, List.length_cons, List.length_map, HSl.out, HN.out, Hml.out]
        have HQz : Hid (QQ.flatten.length ≤ 6000) := by
          show _ ≤ _
          have h1 := tabL_len HnN.out HSin.out
          have h2 := HSl.out
          have h3 := HLn.out
          rw [HQf.out]
          omega
        clear hSW hQQ
        go_wp2_with fail
        go_loopg [19, 20] N (fun g A I wx => ∃ (i : Nat) (B : ByteArray), g = N - i ∧ i ≤ N ∧ I = .int .i64 (i : Int) ∧ A = .string B ∧ B = strOf (QQ.take i).flatten ∧ Fr z2 wx (fun _ => False))
        case atStart => exact ⟨0, _, by omega, by omega, rfl, rfl, rfl, Fr.refl _ _⟩
        case round =>
          obtain ⟨c, B, hg2, hc, rfl, rfl, hB, hf2⟩ := hrel
          have Hg2 : Hid _ := hg2
          have HB : Hid _ := hB
          have Hf2 : Hid (Fr z2 wr (fun _ => False)) := hf2
          clear hg2 hB hf2
          by_cases hlt2 : c < N
          · have hin3 : (c : Int) < (N : Int) := by omega
            have hin3' : decide (c < N) = true := decide_eq_true hlt2
            have hc41 : c ≤ 41 := by have := HN.out; omega
            have hcq : c < QQ.length := by rw [HQl.out]; exact hlt2
            obtain ⟨q0, hq0⟩ : ∃ q, QQ[c]? = some q := ⟨_, List.getElem?_eq_getElem hcq⟩
            have kc := OwnT.cell (OwnT.frame Ho2.out Hf2.out (fun _ _ h => h)) (by rw [List.length_map]; exact HQl.out) (i := c) (s := strOf q0) (by rw [List.getElem?_map, hq0]; rfl)
            have hstep : (QQ.take (c + 1)).flatten = (QQ.take c).flatten ++ q0 := by rw [List.take_add_one, hq0, List.flatten_append]; simp
            have hle : (QQ.take (c + 1)).flatten.length ≤ 6000 := by
              have h1 := HQz.out
              have h2 : QQ.flatten = (QQ.take (c + 1)).flatten ++ (QQ.drop (c + 1)).flatten := by rw [← List.flatten_append, List.take_append_drop]
              rw [h2, List.length_append] at h1
              omega
            obtain ⟨D, hD⟩ : ∃ D, D = strOf q0 := ⟨_, rfl⟩
            have hsz : B.size + D.size ≤ 6000 := by rw [HB.out, hD, strOf_length, strOf_length, ← List.length_append, ← hstep]; exact hle
            have hBD : B ++ D = strOf (QQ.take (c + 1)).flatten := by rw [HB.out, hD, strOf_append, hstep]
            have HBD : Hid _ := hBD
            rw [← hD] at kc
            have ov : ¬ 9223372036854775807 < B.size + D.size := by omega
            clear hq0 hstep hle hD hsz hBD hcq
            go_wp2_with fail
            go_roundg (N - (c + 1))
            case rel => exact ⟨c + 1, _, rfl, by omega, by go_num, rfl, HBD.out, Hf2.out⟩
            case measure => rw [Hg2.out]; omega
          obtain rfl : c = N := by omega
          have hin3 : ¬ (c : Int) < (c : Int) := by omega
          have hin3' : decide (c < c) = false := decide_eq_false hlt2
          have hBt : B = strOf (tabL n SW) := by rw [HB.out, List.take_of_length_le (by rw [HQl.out]; exact Nat.le_refl _), HQf.out]
          have HBt : Hid _ := hBt
          have hpp := M.parse B wr (by rw [hBt, strOf_length, ← HQf.out]; have := HQz.out; omega) (M.keep HK.out (Hz2f.out.none Hf2.out))
          clear hlt2 hBt
          by_cases heq : p = q
          · have e2 : (((p : Int) + 1) == ((q : Int) + 1)) = true := by rw [beq_iff_eq]; omega
            have e2' : ((p : Int) == (q : Int)) = true := by rw [beq_iff_eq]; omega
            have e2'' : (p == q) = true := by rw [beq_iff_eq]; exact heq
            have hres : parseTab B = ⟨n, E, 0, 0, 0⟩ := by
              have hxy : x = y := by have h1 := Hx.out; have h2 := Hy.out; rw [heq] at h1; exact Option.some.inj (h1.symm.trans h2)
              have hsame : SW = LS := by
                have h1 := Hx.out
                have h2 := Hy.out
                have hl := (List.getElem?_eq_some_iff.1 h1).1
                rw [HSW.out, ← heq, List.set_set, hxy]
                refine List.ext_getElem? (fun t => ?_)
                by_cases ht : t = p
                · rw [ht, List.getElem?_set_self hl, ← hxy, h1]
                · rw [List.getElem?_set_ne (fun h => ht h.symm)]
              rw [tparse_print HnN.out Hin.out Hchk.out (by rw [HBt.out, hsame]), HeT.out]
            rw [hres] at hpp
            unfold histV placeR at hpp
            dsimp only at hpp
            clear hres
            go_wp2_with fail
            refine hpp.mono ?_
            clear hpp
            rintro r z1 ⟨⟨v5, rfl, hr5⟩, g⟩
            obtain ⟨a5, c5, hv5, -⟩ := hr5.form
            obtain ⟨m5, hm5⟩ : ∃ m, m = E.length := ⟨_, rfl⟩
            rw [← hm5] at hv5
            subst hv5
            clear hr5 hm5
            have Zf : Hid (Fr w z1 (fun _ => False)) := (Hz2f.out.none Hf2.out).none g
            clear g
            go_upto_region 29 with fail
            obtain ⟨p1, hp1⟩ : ∃ p, p = z1.heap.size := ⟨_, rfl⟩
            obtain ⟨p2, hp2⟩ : ∃ p, p = p1 + 1 := ⟨_, rfl⟩
            obtain ⟨z3, hz3⟩ : ∃ x, x = (z1.alloc (.cells #[.int .u64 (n : Int), .slice a5 m5 c5] 25)).alloc (.cells #[.int .i64 0, .int .i64 0] 38) := ⟨_, rfl⟩
            rw [← hz3, ← hp1, ← hp2]
            have Q2 : z3.heap[p2]? = some (.cells #[.int .i64 0, .int .i64 0] 38 (0, 0)) := by
              have h0 := heap_alloc_new (z1.alloc (.cells #[.int .u64 (n : Int), .slice a5 m5 c5] 25)) (.cells #[.int .i64 0, .int .i64 0] 38)
              rw [hz3, hp2, hp1]
              simpa using h0
            have Hx0 : Hid (Fr w z3 (fun _ => False)) := by show Fr _ _ _; rw [hz3]; exact (Zf.out.alloc _).alloc _
            obtain ⟨kc, kd⟩ : z3.cell? ⟨p2, 0, none⟩ = some (.int .i64 0) ∧ z3.cell? ⟨p2, 1, none⟩ = some (.int .i64 0) := ⟨two_cell0 Q2, two_cell1 Q2⟩
            clear hz3 hp1 hp2 Q2
            go_wp2
            go_ret
            exact ⟨rfl, ebelow Hx0.out⟩
          · have e2 : (((p : Int) + 1) == ((q : Int) + 1)) = false := by rw [beq_eq_false_iff_ne]; omega
            have e2' : ((p : Int) == (q : Int)) = false := by rw [beq_eq_false_iff_ne]; omega
            have e2'' : (p == q) = false := by rw [beq_eq_false_iff_ne]; exact heq
            have hlt3 : p < q := by have := Hpq.out; omega
            have hres : parseTab B = ⟨0, [], p + 1 + 2, 1, 23⟩ := by
              obtain ⟨z, hz1, hz2, hz3⟩ := swap_bad Hchk.out hlt3 Hy.out Hx.out
              rw [← HSW.out] at hz1 hz2 hz3
              rw [tparse_bad_at HnN.out HSin.out hz1 hz2 (by rw [hz3]; decide) HBt.out, hz3]
            rw [hres] at hpp
            unfold histV placeR at hpp
            dsimp only at hpp
            obtain ⟨pl, hpl⟩ : ∃ v, v = p + 1 + 2 := ⟨_, rfl⟩
            rw [← hpl] at hpp
            have g5 : decide ((p : Int) + 1 + 1 < (pl : Int)) = true := decide_eq_true (by omega)
            have g6 : decide ((pl : Int) ≤ (q : Int) + 1 + 1) = true := decide_eq_true (by omega)
            have g5' : (p : Int) + 1 + 1 < (pl : Int) := by omega
            have g6' : (pl : Int) ≤ (q : Int) + 1 + 1 := by omega
            have g7 : p ≤ 40 ∧ q ≤ 40 := by have := Hpm.out; have := Hqm.out; omega
            clear hres hpl hlt3
            go_wp2_with fail
            refine hpp.mono ?_
            clear hpp
            rintro r z1 ⟨⟨v5, rfl, hr5⟩, g⟩
            obtain ⟨a5, c5, rfl, -⟩ : ∃ a c, v5 = .slice a 0 c ∧ 0 ≤ c := hr5.form
            clear hr5
            have Zf : Hid (Fr w z1 (fun _ => False)) := (Hz2f.out.none Hf2.out).none g
            clear g
            go_upto_region 29 with fail
            obtain ⟨p1, hp1⟩ : ∃ p, p = z1.heap.size := ⟨_, rfl⟩
            obtain ⟨p2, hp2⟩ : ∃ p, p = p1 + 1 := ⟨_, rfl⟩
            obtain ⟨z3, hz3⟩ : ∃ x, x = (z1.alloc (.cells #[.int .u64 0, .slice a5 0 c5] 25)).alloc (.cells #[.int .i64 (pl : Int), .int .i64 1] 38) := ⟨_, rfl⟩
            rw [← hz3, ← hp1, ← hp2]
            have Q2 : z3.heap[p2]? = some (.cells #[.int .i64 (pl : Int), .int .i64 1] 38 (0, 0)) := by
              have h0 := heap_alloc_new (z1.alloc (.cells #[.int .u64 0, .slice a5 0 c5] 25)) (.cells #[.int .i64 (pl : Int), .int .i64 1] 38)
              rw [hz3, hp2, hp1]
              simpa using h0
            have Hx0 : Hid (Fr w z3 (fun _ => False)) := by show Fr _ _ _; rw [hz3]; exact (Zf.out.alloc _).alloc _
            obtain ⟨kc, kd⟩ : z3.cell? ⟨p2, 0, none⟩ = some (.int .i64 (pl : Int)) ∧ z3.cell? ⟨p2, 1, none⟩ = some (.int .i64 1) := ⟨two_cell0 Q2, two_cell1 Q2⟩
            clear hz3 hp1 hp2 Q2
            go_wp2
            go_ret
            exact ⟨rfl, ebelow Hx0.out⟩


end Go.Proofs.YtnffjafddbbjaaaGreatDoor.tableLines

/-
  The contract of the reference's PrintTable.
-/
import Derived.Test.YtnffjafddbbjaaaGreatDoorJ3
import Derived.Test.YtnffjafddbbjaaaGreatDoorLLives
import Derived.Test.YtnffjafddbbjaaaGreatDoorJ1
import Derived.Test.YtnffjafddbbjaaaGreatDoorJ11
namespace Go.Proofs.YtnffjafddbbjaaaGreatDoor
open Go.RowKit

set_option maxRecDepth 4000 in
set_option maxHeartbeats 6400000 in
theorem refPrintTable_any (n : Nat) (v : Value) (evs : List Ev) (w : World) (h : RdV w v evs) (hn : n < 18446744073709551616) (hl : evs.length ≤ 100000) (hfit : ∀ x ∈ evs, EvFit x) : Calls Tryz.prog 13 #[histV n v] w fun r w' => r = .returned (.tuple #[.string (prTab n evs), .int .i64 ((checkF n evs).2 : Int)]) ∧ Fr w w' (fun _ => False) := by
  have hck := fun z hz => refLives_any n v evs z hz hl hfit
  obtain ⟨a0, c0, rfl, hc0⟩ := h.form
  obtain ⟨m0, hm⟩ : ∃ m, m = evs.length := ⟨_, rfl⟩
  rw [← hm] at h hl hc0 hck ⊢
  obtain ⟨P, hP⟩ : ∃ P, P = prTab n evs := ⟨_, rfl⟩
  rw [← hP]
  obtain ⟨⟨LS, C2⟩, hC⟩ : ∃ C, C = livesF n evs := ⟨_, rfl⟩
  have hce : (checkF n evs).2 = C2 := by
    have : (livesF n evs).2 = C2 := by rw [← hC]
    rw [← this]
    unfold livesF
    split
    · assumption
    · rfl
  rw [hce]
  rw [← hC] at hck
  have HC : Hid _ := hC
  have HCE : Hid _ := hce
  have HP : Hid _ := hP
  have Hr : Hid (RdV w (.slice a0 m0 c0) evs) := h
  have Hm : Hid _ := hm
  have Hl : Hid _ := hl
  unfold histV at hck ⊢
  dsimp only at hck ⊢
  clear h hm hC hP hfit hce
  go_enter Tryz.func13, Tryz.ntmps13
  go_upto_region 1 with fail
  obtain ⟨p, hp⟩ : ∃ p, p = w.heap.size := ⟨_, rfl⟩
  obtain ⟨w1, hw1⟩ : ∃ x, x = w.alloc (.cells #[.int .u64 (n : Int), .slice a0 m0 c0] 25) := ⟨_, rfl⟩
  rw [← hw1, ← hp]
  have Hp : Hid (w1.heap[p]? = some (.cells #[.int .u64 (n : Int), .slice a0 m0 c0] 25 (0, 0))) := by show _ = _; rw [hw1, hp]; exact heap_alloc_new _ _
  have Hf1 : Hid (Fr w w1 (fun _ => False)) := by show Fr _ _ _; rw [hw1]; exact (Fr.refl _ _).alloc _
  clear hw1 hp
  obtain ⟨ca, cb⟩ : w1.cell? ⟨p, 0, none⟩ = some (.int .u64 (n : Int)) ∧ w1.cell? ⟨p, 1, none⟩ = some (.slice a0 m0 c0) := ⟨two_cell0 Hp.out, two_cell1 Hp.out⟩
  have hck1 := hck w1 (Hr.out.keep Hf1.out)
  clear hck
  go_wp2_with fail
  refine hck1.mono ?_
  rintro r x1 ⟨⟨vl, rfl, hrl⟩, g⟩
  obtain ⟨al, cl, hvl, hcl⟩ := hrl.form
  obtain ⟨m, hml⟩ : ∃ m, m = LS.length := ⟨_, rfl⟩
  rw [← hml] at hvl hcl
  subst hvl
  have Hml : Hid (m = LS.length) := hml
  have Hrl : Hid (RdL x1 (.slice al m cl) LS) := hrl
  have Hp1 : Hid (∀ z, Fr x1 z (fun _ => False) → z.heap[p]? = some (.cells #[.int .u64 (n : Int), .slice a0 m0 c0] 25 (0, 0))) := fun z hz => hz.kept (g.kept Hp.out (fun h => h)) (fun h => h)
  have Hx1 : Hid (Fr w x1 (fun _ => False)) := Hf1.out.none g
  clear g hck1 ca cb hrl hml
  by_cases h0 : C2 = 0
  case neg =>
    have hC0 : ((C2 : Int) == 0) = false := by rw [beq_eq_false_iff_ne]; omega
    have hC1 : ((C2 : Int) != 0) = true := by rw [bne_iff_ne]; omega
    have HPP : Hid (P = ⟨#[]⟩) := by show _ = _; rw [HP.out]; exact if_neg (by rw [HCE.out]; exact h0)
    obtain rfl := HPP.out
    clear h0
    go_wp2
    go_ret2
    exact ⟨rfl, Hx1.out⟩
  subst h0
  have hLS : LS = livesE [] evs := by
    have h1 := HC.out
    unfold livesF at h1
    rw [if_pos HCE.out] at h1
    exact (Prod.mk.inj h1).1
  have HPP : Hid (P = strOf (tabL n LS)) := by show _ = _; rw [HP.out, hLS]; exact if_pos HCE.out
  have HnN : Hid (n ≤ maxN) := (check_in HCE.out).1
  have Hin : Hid (∀ x ∈ LS, LfIn x) := by show ∀ x, _; rw [hLS]; exact lives_in HCE.out
  have Hlm : Hid (m ≤ 100000) := by
    have h1 := lives_length evs (good_check HCE.out).2.2.2
    have h2 := Hml.out
    have h3 := Hm.out
    rw [hLS] at h2
    show _ ≤ _
    omega
  clear hLS
  obtain ⟨ca, cb⟩ : x1.cell? ⟨p, 0, none⟩ = some (.int .u64 (n : Int)) ∧ x1.cell? ⟨p, 1, none⟩ = some (.slice a0 m0 c0) := ⟨two_cell0 (Hp1.out x1 (Fr.refl _ _)), two_cell1 (Hp1.out x1 (Fr.refl _ _))⟩
  have hd := refDecimal_any n x1 hn
  have hdl : (strOf (decL n)).size ≤ 20 := by rw [strOf_length]; exact decL_len20 n hn
  obtain ⟨D, hD⟩ : ∃ D, D = strOf (decL n) := ⟨_, rfl⟩
  rw [← hD] at hd hdl
  have HD : Hid _ := hD
  have n1 : ¬ 9223372036854775807 < 6 + D.size := by omega
  have n2 : ¬ 9223372036854775807 < 6 + D.size + 1 := by omega
  clear hD
  go_wp2_with fail
  refine hd.mono ?_
  rintro r x2 ⟨rfl, g⟩
  have Hx12 : Hid (Fr x1 x2 (fun _ => False)) := g
  clear g hd ca cb
  go_wp2_with fail
  have HS0 : Hid ((⟨#[116, 97, 98, 108, 101, 32]⟩ : ByteArray) ++ D ++ ⟨#[10]⟩ = strOf (tabL n (LS.take 0))) := by show _ = _; rw [HD.out, tabL_head]; rfl
  have HL0 : Hid ((strOf (tabL n (LS.take 0))).size ≤ 30) := by show _ ≤ _; rw [strOf_length]; exact tabL_len0 n (by have : n ≤ 4294967296 := HnN.out; omega)
  clear n1 n2 hdl
  go_loopg [6, 7] m (fun g S I wr => ∃ (i : Nat) (B : ByteArray), g = m - i ∧ i ≤ m ∧ I = .int .i64 (i : Int) ∧ S = .string B ∧ B = strOf (tabL n (LS.take i)) ∧ B.size ≤ 30 + 90 * i ∧ Fr x1 wr (fun _ => False))
  case atStart => exact ⟨0, _, by omega, by omega, rfl, rfl, HS0.out, by rw [HS0.out]; exact HL0.out, Hx12.out⟩
  case round =>
    obtain ⟨i, B, hg, hi, rfl, rfl, hB, hBs, hf⟩ := hrel
    have Hg : Hid _ := hg
    have HB : Hid _ := hB
    have Hf : Hid (Fr x1 wr (fun _ => False)) := hf
    clear hg hB hf
    by_cases hlt : i < m
    · have hin : (i : Int) < (m : Int) := by omega
      have hin' : decide (i < m) = true := decide_eq_true hlt
      have hi0 : (0 : Int) ≤ (i : Int) := by omega
      obtain ⟨X, hX⟩ : ∃ a, LS[i]? = some a := ⟨_, List.getElem?_eq_getElem (by rw [← Hml.out]; omega)⟩
      have hXin := Hin.out X (List.mem_of_getElem? hX)
      have hstep := tabL_step (n := n) hX
      have hlen := lineT_len hXin
      have hline := tline_str (tabL n (LS.take i)) X
      rw [← hstep, ← HB.out] at hline
      obtain ⟨bk, off, cap, e3, hbk, hca⟩ := Hrl.out.get i _ hX
      rw [← Hml.out] at e3
      simp only [Value.slice.injEq] at e3
      obtain ⟨rfl, -, rfl⟩ := e3
      obtain ⟨⟨u, vv⟩, fr, tt⟩ := X
      obtain ⟨h3, h4, h1, h2, h5, h6⟩ := hXin
      have h3' : u ≤ 4294967295 := h3
      have h4' : vv ≤ 4294967295 := h4
      dsimp only at hca h1 h2 h5 h6 hline
      have Hca : Hid (∀ z, Fr x1 z (fun _ => False) → z.cell? ⟨bk, off + i * 4, none⟩ = some (.int .u32 (u : Int)) ∧ z.cell? ⟨bk, off + i * 4 + 1, none⟩ = some (.int .u32 (vv : Int)) ∧ z.cell? ⟨bk, off + i * 4 + 2, none⟩ = some (.int .i64 fr) ∧ z.cell? ⟨bk, off + i * 4 + 3, none⟩ = some (.int .i64 tt)) := fun z hz => hca z (hz.mono (fun _ _ h => h.elim))
      obtain ⟨fn, rfl⟩ : ∃ k : Nat, fr = (k : Int) := ⟨fr.toNat, by omega⟩
      rw [Int.toNat_natCast] at hline
      have w1 : IntKind.u64.wrap (fn : Int) = (fn : Int) := by rw [IntKind.wrap_u64]; omega
      have w2 : IntKind.u64.wrap (u : Int) = (u : Int) := by rw [IntKind.wrap_u64]; omega
      have w3 : IntKind.u64.wrap (vv : Int) = (vv : Int) := by rw [IntKind.wrap_u64]; omega
      have d1 := fun z => refDecimal_any u z (by omega)
      have d2 := fun z => refDecimal_any vv z (by omega)
      have d3 := fun z => refDecimal_any fn z (by omega)
      have l1 : (strOf (decL u)).size ≤ 20 := by rw [strOf_length]; exact decL_len20 u (by omega)
      have l2 : (strOf (decL vv)).size ≤ 20 := by rw [strOf_length]; exact decL_len20 vv (by omega)
      have l3 : (strOf (decL fn)).size ≤ 20 := by rw [strOf_length]; exact decL_len20 fn (by omega)
      have l4 : (strOf (toB tt)).size ≤ 20 := by
        rw [strOf_length]
        by_cases h0 : 0 ≤ tt
        · rw [toB_yes h0]; exact decL_len20 _ (by omega)
        · rw [toB_no h0]; decide
      have Hlast : Hid (B.size + (lineT ((u, vv), (fn : Int), tt)).length ≤ 30 + 90 * (i + 1)) := by show _ ≤ _; omega
      have Hz : Hid ((strOf (tabL n (LS.take (i + 1)))).size = B.size + (lineT ((u, vv), (fn : Int), tt)).length) := by show _ = _; rw [strOf_length, hstep, List.length_append, HB.out, strOf_length]
      obtain ⟨D1, hD1⟩ : ∃ D, D = strOf (decL u) := ⟨_, rfl⟩
      obtain ⟨D2, hD2⟩ : ∃ D, D = strOf (decL vv) := ⟨_, rfl⟩
      obtain ⟨D3, hD3⟩ : ∃ D, D = strOf (decL fn) := ⟨_, rfl⟩
      obtain ⟨D4, hD4⟩ : ∃ D, D = strOf (toB tt) := ⟨_, rfl⟩
      have HD4 : Hid (D4 = strOf (toB tt)) := hD4
      rw [← hD1] at d1 l1 hline
      rw [← hD2] at d2 l2 hline
      rw [← hD3] at d3 l3 hline
      rw [← hD4] at l4 hline
      have hi5 : i ≤ 100000 := by have := Hlm.out; omega
      have s1 : ¬ 9223372036854775807 < B.size + D1.size := by omega
      have s2 : ¬ 9223372036854775807 < B.size + D1.size + 1 := by omega
      have s3 : ¬ 9223372036854775807 < B.size + D1.size + 1 + D2.size := by omega
      have s4 : ¬ 9223372036854775807 < B.size + D1.size + 1 + D2.size + 1 := by omega
      have s5 : ¬ 9223372036854775807 < B.size + D1.size + 1 + D2.size + 1 + D3.size := by omega
      have s6 : ¬ 9223372036854775807 < B.size + D1.size + 1 + D2.size + 1 + D3.size + 1 := by omega
      have s7 : ¬ 9223372036854775807 < B.size + D1.size + 1 + D2.size + 1 + D3.size + 1 + D4.size := by omega
      have s8 : ¬ 9223372036854775807 < B.size + D1.size + 1 + D2.size + 1 + D3.size + 1 + D4.size + 1 := by omega
      have Hline : Hid _ := hline
      have Hs4 : Hid (tt ≤ 4611686018427387903) := h6
      clear hca hX hbk hstep hlen hline hD1 hD2 hD3 hD4 h1 h2 h3 h4 h5 h6 h3' h4'
      obtain ⟨-, -, -, k3⟩ := Hca.out wr Hf.out
      by_cases hto : 0 ≤ tt
      · have g1 : decide ((0 : Int) ≤ tt) = true := decide_eq_true hto
        obtain ⟨tn, rfl⟩ : ∃ k : Nat, tt = (k : Int) := ⟨tt.toNat, by omega⟩
        have w4 : IntKind.u64.wrap (tn : Int) = (tn : Int) := by have := Hs4.out; rw [IntKind.wrap_u64]; omega
        have d4 := refDecimal_any tn wr (by have := Hs4.out; omega)
        have HD5 : Hid (strOf (decL tn) = D4) := by show _ = _; rw [HD4.out, toB_yes hto, Int.toNat_natCast]
        rw [HD5.out] at d4
        go_wp2_with fail
        refine d4.mono ?_
        rintro r y0 ⟨rfl, g⟩
        have HfE : Hid (Fr x1 y0 (fun _ => False)) := Hf.out.none g
        clear g d4 k3
        go_upto_region 11 with fail
        have fd : Fr y0 y0.drew (fun _ => False) := (Fr.refl _ _).drew
        have HfD : Hid (Fr x1 y0.drew (fun _ => False)) := HfE.out.none fd
        have c0' : ∀ z, Fr y0.drew z (fun _ => False) → z.cell? ⟨bk, off + i * 4, none⟩ = some (.int .u32 (u : Int)) := fun z hz => (Hca.out z (HfD.out.none hz)).1
        have c1' : ∀ z, Fr y0.drew z (fun _ => False) → z.cell? ⟨bk, off + i * 4 + 1, none⟩ = some (.int .u32 (vv : Int)) := fun z hz => (Hca.out z (HfD.out.none hz)).2.1
        have c2' : ∀ z, Fr y0.drew z (fun _ => False) → z.cell? ⟨bk, off + i * 4 + 2, none⟩ = some (.int .i64 (fn : Int)) := fun z hz => (Hca.out z (HfD.out.none hz)).2.2.1
        clear fd
        refine wp_region_tree (fun _ => False) (.take 0 (.take 1 (.take 2 (.take 3 (.take 4 (.take 5 (.take 6 (.take 7 (.take 11 (.take 12 (.take 13 (.take 14 (.take 15 (.take 16 (.take 17 (.take 21 (.take 22 (.take 23 (.take 24 (.take 25 (.take 26 (.take 30 (.one 8 (.take 9 (.take 10 (.one 18 (.take 19 (.take 20 (.one 27 (.take 28 (.take 29 (.take 31 (.take 32 (.take 33 .nil)))))))))))))))))))))))))))))))))) (by kernel_rfl) (by kernel_rfl) (by decide) (by kernel_rfl) ?_
        iterate 22 (refine wpT_take (v := ?_) rfl rfl (fun x hx => ?_) ?_; rotate_left; (focus (go_simp; with_reducible rfl)); simp only [Act.put, List.setIfInBounds_toArray, List.set_cons_zero, List.set_cons_succ])
        refine wpT_one rfl rfl (fun K hK => ?_)
        go_simp
        refine (d1 _).mono ?_
        rintro r y1 ⟨rfl, g⟩
        refine hK _ _ g ?_
        have Hy1 : Hid (Fr x1 y1 (fun _ => False)) := HfD.out.none g
        clear hK K g d1 c0' c1' c2'
        iterate 2 (refine wpT_take (v := ?_) rfl rfl (fun x hx => ?_) ?_; rotate_left; (focus (go_simp; with_reducible rfl)); simp only [Act.put, List.setIfInBounds_toArray, List.set_cons_zero, List.set_cons_succ])
        refine wpT_one rfl rfl (fun K hK => ?_)
        go_simp
        refine (d2 _).mono ?_
        rintro r y2 ⟨rfl, g⟩
        refine hK _ _ g ?_
        have Hy2 : Hid (Fr x1 y2 (fun _ => False)) := Hy1.out.none g
        clear hK K g d2
        iterate 2 (refine wpT_take (v := ?_) rfl rfl (fun x hx => ?_) ?_; rotate_left; (focus (go_simp; with_reducible rfl)); simp only [Act.put, List.setIfInBounds_toArray, List.set_cons_zero, List.set_cons_succ])
        refine wpT_one rfl rfl (fun K hK => ?_)
        go_simp
        refine (d3 _).mono ?_
        rintro r y3 ⟨rfl, g⟩
        refine hK _ _ g ?_
        have Hy3 : Hid (Fr x1 y3 (fun _ => False)) := Hy2.out.none g
        clear hK K g d3
        iterate 5 (refine wpT_take (v := ?_) rfl rfl (fun x hx => ?_) ?_; rotate_left; (focus (go_simp; with_reducible rfl)); simp only [Act.put, List.setIfInBounds_toArray, List.set_cons_zero, List.set_cons_succ])
        unfold wpT
        have Hnew : Hid _ := Hline.out
        clear s1 s2 s3 s4 s5 s6 s7 s8
        go_wp2_with fail
        go_roundg (m - (i + 1))
        case rel => exact ⟨i + 1, _, rfl, by omega, by go_num, rfl, Hnew.out, by rw [Hnew.out, Hz.out]; exact Hlast.out, Hy3.out⟩
        case measure => rw [Hg.out]; omega
      · have g1 : decide ((0 : Int) ≤ tt) = false := decide_eq_false hto
        have HD5 : Hid (D4 = ⟨#[45]⟩) := by show _ = _; rw [HD4.out, toB_no hto]; rfl
        obtain rfl := HD5.out
        have s7' : ¬ 9223372036854775807 < B.size + D1.size + 1 + D2.size + 1 + D3.size + 1 + 1 := s7
        have s8' : ¬ 9223372036854775807 < B.size + D1.size + 1 + D2.size + 1 + D3.size + 1 + 1 + 1 := s8
        clear s7 s8
        have s7 := s7'
        have s8 := s8'
        clear s7' s8'
        have HfE : Hid (Fr x1 wr (fun _ => False)) := Hf.out
        obtain ⟨y0, hy0⟩ : ∃ y, y = wr := ⟨_, rfl⟩
        subst hy0
        go_upto_region 11 with fail
        have fd : Fr y0 y0.drew (fun _ => False) := (Fr.refl _ _).drew
        have HfD : Hid (Fr x1 y0.drew (fun _ => False)) := HfE.out.none fd
        have c0' : ∀ z, Fr y0.drew z (fun _ => False) → z.cell? ⟨bk, off + i * 4, none⟩ = some (.int .u32 (u : Int)) := fun z hz => (Hca.out z (HfD.out.none hz)).1
        have c1' : ∀ z, Fr y0.drew z (fun _ => False) → z.cell? ⟨bk, off + i * 4 + 1, none⟩ = some (.int .u32 (vv : Int)) := fun z hz => (Hca.out z (HfD.out.none hz)).2.1
        have c2' : ∀ z, Fr y0.drew z (fun _ => False) → z.cell? ⟨bk, off + i * 4 + 2, none⟩ = some (.int .i64 (fn : Int)) := fun z hz => (Hca.out z (HfD.out.none hz)).2.2.1
        clear fd
        refine wp_region_tree (fun _ => False) (.take 0 (.take 1 (.take 2 (.take 3 (.take 4 (.take 5 (.take 6 (.take 7 (.take 11 (.take 12 (.take 13 (.take 14 (.take 15 (.take 16 (.take 17 (.take 21 (.take 22 (.take 23 (.take 24 (.take 25 (.take 26 (.take 30 (.one 8 (.take 9 (.take 10 (.one 18 (.take 19 (.take 20 (.one 27 (.take 28 (.take 29 (.take 31 (.take 32 (.take 33 .nil)))))))))))))))))))))))))))))))))) (by kernel_rfl) (by kernel_rfl) (by decide) (by kernel_rfl) ?_
        iterate 22 (refine wpT_take (v := ?_) rfl rfl (fun x hx => ?_) ?_; rotate_left; (focus (go_simp; with_reducible rfl)); simp only [Act.put, List.setIfInBounds_toArray, List.set_cons_zero, List.set_cons_succ])
        refine wpT_one rfl rfl (fun K hK => ?_)
        go_simp
        refine (d1 _).mono ?_
        rintro r y1 ⟨rfl, g⟩
        refine hK _ _ g ?_
        have Hy1 : Hid (Fr x1 y1 (fun _ => False)) := HfD.out.none g
        clear hK K g d1 c0' c1' c2'
        iterate 2 (refine wpT_take (v := ?_) rfl rfl (fun x hx => ?_) ?_; rotate_left; (focus (go_simp; with_reducible rfl)); simp only [Act.put, List.setIfInBounds_toArray, List.set_cons_zero, List.set_cons_succ])
        refine wpT_one rfl rfl (fun K hK => ?_)
        go_simp
        refine (d2 _).mono ?_
        rintro r y2 ⟨rfl, g⟩
        refine hK _ _ g ?_
        have Hy2 : Hid (Fr x1 y2 (fun _ => False)) := Hy1.out.none g
        clear hK K g d2
        iterate 2 (refine wpT_take (v := ?_) rfl rfl (fun x hx => ?_) ?_; rotate_left; (focus (go_simp; with_reducible rfl)); simp only [Act.put, List.setIfInBounds_toArray, List.set_cons_zero, List.set_cons_succ])
        refine wpT_one rfl rfl (fun K hK => ?_)
        go_simp
        refine (d3 _).mono ?_
        rintro r y3 ⟨rfl, g⟩
        refine hK _ _ g ?_
        have Hy3 : Hid (Fr x1 y3 (fun _ => False)) := Hy2.out.none g
        clear hK K g d3
        iterate 5 (refine wpT_take (v := ?_) rfl rfl (fun x hx => ?_) ?_; rotate_left; (focus (go_simp; with_reducible rfl)); simp only [Act.put, List.setIfInBounds_toArray, List.set_cons_zero, List.set_cons_succ])
        unfold wpT
        have Hnew : Hid _ := Hline.out
        clear s1 s2 s3 s4 s5 s6 s7 s8
        go_wp2_with fail
        go_roundg (m - (i + 1))
        case rel => exact ⟨i + 1, _, rfl, by omega, by go_num, rfl, Hnew.out, by rw [Hnew.out, Hz.out]; exact Hlast.out, Hy3.out⟩
        case measure => rw [Hg.out]; omega
    · have hin : ¬ (i : Int) < (m : Int) := by omega
      have hin' : decide (i < m) = false := decide_eq_false hlt
      obtain rfl : i = m := by omega
      have HBP : Hid (B = P) := by show _ = _; rw [HB.out, HPP.out, List.take_of_length_le (by rw [← Hml.out]; exact Nat.le_refl _)]
      obtain rfl := HBP.out
      have Hfo : Hid (Fr w wr (fun _ => False)) := Hx1.out.none Hf.out
      go_wp2_with fail
      go_ret2
      exact ⟨rfl, Hfo.out⟩

end Go.Proofs.YtnffjafddbbjaaaGreatDoor

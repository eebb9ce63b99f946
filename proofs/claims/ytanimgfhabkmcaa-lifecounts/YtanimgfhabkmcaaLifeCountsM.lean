/-
  The walk of the law LifeCounts, under the condition that life's functions answer as their contracts say.
-/
import Derived.Test.YtanimgfhabkmcaaRows
import Derived.Test.YtanimgfhabkmcaaLI
import Derived.Test.YtanimgfhabkmcaaSHelp
import Derived.Test.YtanimgfhabkmcaaJ2
namespace Go.Proofs.Ytanimgfhabkmcaa.lifeCounts
open Go.ChangeShapes Go.WideShapes Go.ChangeAt Go.RowKit

theorem count_step {α : Type} {p : α → Bool} {l : List α} {i : Nat} {x : α} (h : l[i]? = some x) : (l.take (i + 1)).countP p = (l.take i).countP p + if p x = true then 1 else 0 := by
  rw [List.take_add_one, h, List.countP_append]
  simp [List.countP_cons]

set_option maxRecDepth 4000 in
set_option maxHeartbeats 6400000 in
theorem walkM (M : LI) (a0 : Int) (a1 : Option Addr) (len1 cap1 : Nat) (z1 : List Int) (w : World) (w0 : (Lit.int .u8 a0).wf = true) (w1 : IsRow .u8 w a1 len1 cap1 z1) :
    Calls Try.prog 6 #[.int .u8 a0, .slice a1 len1 cap1] w fun e w' => e = .returned (.bool true) ∧ Below w.heap.size w w' := by
  obtain ⟨bs, hbl, hbb, hbr⟩ := bytes_arg w1
  have Hbs : Hid (Reads .u8 w (.slice a1 len1 cap1) bs) := hbr
  have Hbb : Hid (∀ x ∈ bs, x < 256) := hbb
  have Hbl : Hid (bs.length = len1) := hbl
  clear hbl hbb hbr
  obtain ⟨k, rfl, hk⟩ := eu8_nat w0
  have Hk : Hid (k < 256) := hk
  clear w0 w1 hk
  go_enter Try.func6, Try.ntmps6
  go_wp2_with fail
  refine (lknown_any M w).mono ?_
  rintro e w1 ⟨rfl, hf1⟩
  have H01 : Hid (Fr w w1 (fun _ => False)) := hf1
  have Hf1 : Hid (Fr w w1 (fun _ => False)) := hf1
  clear hf1
  by_cases hb90 : 90 < len1
  · have d1 : decide ((90 : Int) < (len1 : Int)) = true := decide_eq_true (by omega)
    have d1' : decide (90 < len1) = true := decide_eq_true hb90
    go_wp2
    go_ret
    exact ⟨rfl, ebelow Hf1.out⟩
  have db90 : decide ((90 : Int) < (len1 : Int)) = false := decide_eq_false (by omega)
  have db90' : decide (90 < len1) = false := decide_eq_false hb90
  have Hl : Hid (bs.length ≤ 90) := by have := Hbl.out; exact (by omega : bs.length ≤ 90)
  clear hb90
  go_wp2_with fail
  refine (seatH_any k _ bs _ (Hbs.out.keep Hf1.out) Hbb.out (by have := Hl.out; omega) Hk.out).mono ?_
  rintro r w2 ⟨n, E, a2', m, c2', rfl, hm, -, -, hok, hr2, hmc, g⟩
  have HO : Hid (HOk n E) := hok
  have Hm : Hid (m = E.length) := hm
  have Hr2 : Hid (RdV w2 (.slice a2' m c2') E) := hr2
  have Hf2 : Hid (Fr w w2 (fun _ => False)) := Hf1.out.none g
  have H12 : Hid (Fr w1 w2 (fun _ => False)) := g
  have Hm40 : Hid (m ≤ 40) := by have := hok.len; show _ ≤ _; omega
  clear g hok hm hr2
  go_upto_region 6 with fail
  obtain ⟨ph, hph⟩ : ∃ p, p = w2.heap.size := ⟨_, rfl⟩
  obtain ⟨w3, hw3⟩ : ∃ x, x = w2.alloc (.cells #[.int .u64 (n : Int), .slice a2' m c2'] 25) := ⟨_, rfl⟩
  rw [← hw3, ← hph]
  have Qh : Hid (∀ z, Fr w3 z (fun _ => False) → z.heap[ph]? = some (.cells #[.int .u64 (n : Int), .slice a2' m c2'] 25 (0, 0))) := fun z hz => hz.kept (by rw [hw3, hph]; exact heap_alloc_new _ _) (fun h => h)
  have H23 : Hid (Fr w2 w3 (fun _ => False)) := by show Fr _ _ _; rw [hw3]; exact (Fr.refl _ _).alloc _
  have Hr3 : Hid (∀ z, Fr w3 z (fun _ => False) → RdV z (.slice a2' m c2') E) := fun z hz => Hr2.out.keep (H23.out.none hz)
  have Hw3 : Hid (Fr w w3 (fun _ => False)) := Hf2.out.none H23.out
  clear hph hw3 Hr2
  obtain ⟨L, hL⟩ : ∃ L, L = livesE [] E := ⟨_, rfl⟩
  have Hchk : Hid ((checkF n E).2 = 0) := by show _ = _; rw [HO.out.chk]
  have HLF : Hid (livesF n E = (L, 0)) := by show _ = _; rw [hL]; unfold livesF; exact if_pos Hchk.out
  obtain ⟨K, hK⟩ : ∃ K, K = L.length := ⟨_, rfl⟩
  obtain ⟨G, hG⟩ : ∃ G, G = L.countP (fun z => decide (0 ≤ z.2.2)) := ⟨_, rfl⟩
  have Hcnt := lives_count Hchk.out
  rw [← hL] at Hcnt
  have HcA : Hid (E.countP (fun x => x.2.2) = K) := by show _ = _; rw [hK]; exact Hcnt.1.symm
  have HcG : Hid (E.countP (fun x => !x.2.2) = G) := by show _ = _; rw [hG]; exact Hcnt.2.symm
  have HK : Hid (K = L.length) := hK
  have HG : Hid (G = L.countP (fun z => decide (0 ≤ z.2.2))) := hG
  have HK40 : Hid (K ≤ 40) := by have h1 := lives_length E HO.out.srt; have h2 := HO.out.len; rw [← hL, ← hK] at h1; exact (by omega : K ≤ 40)
  have Hsrt : Hid (L.Pairwise (fun a b => lLess a b = true)) := by show List.Pairwise _ _; rw [hL]; exact (lives_sorted HO.out.srt).1
  have Hlck : Hid (lifeCheckF n L = (0, 0)) := by show _ = _; rw [hL]; exact lives_check Hchk.out
  have Hlfit : Hid (∀ x ∈ L, LfFit x) := by
    show ∀ x ∈ L, LfFit x
    rw [hL]
    exact lives_fit (good_check Hchk.out).2.2.1 HO.out.srt HO.out.n32
  clear hL hK hG Hcnt
  obtain ⟨ka, kb⟩ : w3.cell? ⟨ph, 0, none⟩ = some (.int .u64 (n : Int)) ∧ w3.cell? ⟨ph, 1, none⟩ = some (.slice a2' m c2') := ⟨two_cell0 (Qh.out w3 (Fr.refl _ _)), two_cell1 (Qh.out w3 (Fr.refl _ _))⟩
  go_wp2_with fail
  refine (M.of_ n _ E _ (Hr3.out w3 (Fr.refl _ _)) HO.out.n64 (by have := HO.out.len; omega) HO.out.fit).mono ?_
  rw [HLF.out]
  rintro r w4 ⟨⟨vL, rfl, hvL⟩, g⟩
  obtain ⟨aL, cL, rfl, hcL⟩ := hvL.form
  rw [← HK.out] at hvL hcL ⊢
  have HrL : Hid (RdL w4 (.slice aL K cL) L) := hvL
  have G4 : Hid (Fr w3 w4 (fun _ => False)) := g
  clear g hvL ka kb
  dsimp only
  go_wp2_with fail
  go_loopg [8, 9, 11] m (fun g C D I wr => ∃ (i c d : Nat), g = m - i ∧ i ≤ m ∧ I = .int .i64 (i : Int) ∧ C = .int .i64 (c : Int) ∧ D = .int .i64 (d : Int) ∧ c = (E.take i).countP (fun x => x.2.2) ∧ d = (E.take i).countP (fun x => !x.2.2) ∧ Fr w4 wr (fun _ => False))
  case atStart => exact ⟨0, 0, 0, by omega, by omega, rfl, rfl, rfl, by simp, by simp, Fr.refl _ _⟩
  case round =>
    obtain ⟨i, c, d, hg, hi, rfl, rfl, rfl, hc, hd, hf⟩ := hrel
    have Hg : Hid _ := hg
    have Hc : Hid _ := hc
    have Hd : Hid _ := hd
    have Hf : Hid (Fr w4 wr (fun _ => False)) := hf
    have hcb : c ≤ 40 := by rw [hc]; exact Nat.le_trans List.countP_le_length (Nat.le_trans (by rw [List.length_take]; omega) HO.out.len)
    have hdb : d ≤ 40 := by rw [hd]; exact Nat.le_trans List.countP_le_length (Nat.le_trans (by rw [List.length_take]; omega) HO.out.len)
    clear hg hc hd hf
    obtain ⟨ka, kb⟩ : wr.cell? ⟨ph, 0, none⟩ = some (.int .u64 (n : Int)) ∧ wr.cell? ⟨ph, 1, none⟩ = some (.slice a2' m c2') := ⟨two_cell0 (Qh.out wr (G4.out.none Hf.out)), two_cell1 (Qh.out wr (G4.out.none Hf.out))⟩
    by_cases hlt : i < m
    · have hin : (i : Int) < (m : Int) := by omega
      have hin' : decide (i < m) = true := decide_eq_true hlt
      obtain ⟨⟨t, ⟨e1, e2⟩, ad⟩, ha⟩ : ∃ a, E[i]? = some a := ⟨_, List.getElem?_eq_getElem (by rw [← Hm.out]; omega)⟩
      obtain ⟨bk, off, cap, e3, hbk, hca⟩ := (Hr3.out w3 (Fr.refl _ _)).get i _ ha
      simp only [Value.slice.injEq] at e3
      obtain ⟨rfl, -, rfl⟩ := e3
      obtain ⟨-, -, -, k3⟩ := hca wr ((G4.out.none Hf.out).mono (fun _ _ h => h.elim))
      have hi0 : (0 : Int) ≤ (i : Int) := by omega
      have H1 : Hid ((E.take (i + 1)).countP (fun x => x.2.2) = c + if ad = true then 1 else 0) := by show _ = _; rw [count_step ha, ← Hc.out]
      have H2 : Hid ((E.take (i + 1)).countP (fun x => !x.2.2) = d + if (!ad) = true then 1 else 0) := by show _ = _; rw [count_step ha, ← Hd.out]
      have him := Hm40.out
      clear hca ha hbk
      cases ad with
      | true =>
        go_wp2_with fail
        go_roundg (m - (i + 1))
        case rel => exact ⟨i + 1, c + 1, d, rfl, by omega, by go_num, by go_num, rfl, H1.out.symm, by rw [H2.out]; rfl, Hf.out⟩
        case measure => rw [Hg.out]; omega
      | false =>
        go_wp2_with fail
        go_roundg (m - (i + 1))
        case rel => exact ⟨i + 1, c, d + 1, rfl, by omega, by go_num, rfl, by go_num, by rw [H1.out]; rfl, H2.out.symm, Hf.out⟩
        case measure => rw [Hg.out]; omega
    · have hin : ¬ (i : Int) < (m : Int) := by omega
      have hin' : decide (i < m) = false := decide_eq_false hlt
      have htk : E.take i = E := List.take_of_length_le (by rw [← Hm.out]; omega)
      have H1 : Hid (c = K) := by show _ = _; rw [Hc.out, htk]; exact HcA.out
      have H2 : Hid (d = G) := by show _ = _; rw [Hd.out, htk]; exact HcG.out
      obtain rfl := H1.out
      obtain rfl := H2.out
      obtain ⟨wb, hwb⟩ : ∃ x, x = wr := ⟨_, rfl⟩
      subst hwb
      have Gb : Hid (Fr w3 wb (fun _ => False)) := G4.out.none Hf.out
      have HrB : Hid (∀ z, Fr wb z (fun _ => False) → RdL z (.slice aL c cL) L) := fun z hz => HrL.out.keep (Hf.out.none hz)
      clear htk hcb hdb Hc Hd Hg HcA HcG H1 H2
      go_wp2_with fail
      clear ka kb
      go_loopg [10, 12] c (fun g D I wr => ∃ (j e : Nat), g = c - j ∧ j ≤ c ∧ I = .int .i64 (j : Int) ∧ D = .int .i64 (e : Int) ∧ e = (L.take j).countP (fun z => decide (0 ≤ z.2.2)) ∧ Fr wb wr (fun _ => False))
      case atStart => exact ⟨0, 0, by omega, by omega, rfl, rfl, by simp, Fr.refl _ _⟩
      case round =>
        obtain ⟨j, e, hg, hj, rfl, rfl, he, hf⟩ := hrel
        have Hg : Hid _ := hg
        have He : Hid _ := he
        have Hf : Hid (Fr wb wr (fun _ => False)) := hf
        have hc40 := HK40.out
        have heb : e ≤ 40 := by rw [he]; exact Nat.le_trans List.countP_le_length (by rw [List.length_take]; omega)
        clear hg he hf
        by_cases hlt : j < c
        · have hjn : (j : Int) < (c : Int) := by omega
          have hjn' : decide (j < c) = true := decide_eq_true hlt
          obtain ⟨⟨⟨f1, f2⟩, s, s2⟩, ha⟩ : ∃ a, L[j]? = some a := ⟨_, List.getElem?_eq_getElem (by rw [← HK.out]; omega)⟩
          have Ha : Hid (L[j]? = some ((f1, f2), s, s2)) := ha
          obtain ⟨bk, off, cap, e3, hbk, hca⟩ := (HrB.out wb (Fr.refl _ _)).get j _ ha
          rw [← HK.out] at e3
          simp only [Value.slice.injEq] at e3
          obtain ⟨rfl, -, rfl⟩ := e3
          have Hca : Hid (∀ x, Fr wb x (fun _ => False) → x.cell? ⟨bk, off + j * 4, none⟩ = some (.int .u32 (f1 : Int)) ∧ x.cell? ⟨bk, off + j * 4 + 1, none⟩ = some (.int .u32 (f2 : Int)) ∧ x.cell? ⟨bk, off + j * 4 + 2, none⟩ = some (.int .i64 s) ∧ x.cell? ⟨bk, off + j * 4 + 3, none⟩ = some (.int .i64 s2)) := fun x hx => hca x (hx.mono (fun _ _ h => h.elim))
          obtain ⟨-, -, -, k3⟩ := Hca.out wr Hf.out
          have hj0 : (0 : Int) ≤ (j : Int) := by omega
          obtain ⟨e', hce⟩ : ∃ e', e' = e + if decide (0 ≤ s2) = true then 1 else 0 := ⟨_, rfl⟩
          have Hce : Hid ((L.take (j + 1)).countP (fun z => decide (0 ≤ z.2.2)) = e') := by show _ = _; rw [count_step ha, ← He.out, hce]
          have he'b : e' ≤ 41 := by rw [hce]; split <;> omega
          clear hca ha hbk
          by_cases hs : 0 ≤ s2
          · have hsd : decide (0 ≤ s2) = true := decide_eq_true hs
            rw [if_pos hsd] at hce
            subst hce
            go_upto_region 19 with fail
            go_cut [73] from 59 to 73 (fun V wx => V = .bool false ∧ Fr wr wx (fun _ => False))
            case first =>
              by_cases h0 : j = 0
              · subst h0
                go_wp2_with fail
                refine wp_region_tree (fun _ => False) (.take 0 (.take 1 (.take 2 (.take 3 (.take 4 (.take 5 (.take 6 (.take 7 (.take 8 (.take 9 (.take 10 (.take 11 (.one 12 (.take 13 (.take 14 .nil))))))))))))))) (by kernel_rfl) (by kernel_rfl) (by decide) (by kernel_rfl) ?_
                iterate 3 (refine wpT_take (v := ?_) rfl rfl (fun x hx => ?_) ?_; rotate_left; (focus (go_simp; with_reducible rfl)); simp only [Act.put, List.setIfInBounds_toArray, List.set_cons_zero, List.set_cons_succ])
                iterate 9 (refine wpT_pass rfl rfl ?_; simp only [Act.put, List.setIfInBounds_toArray, List.set_cons_zero, List.set_cons_succ])
                refine wpT_skip rfl rfl ?_
                simp only [Act.put, List.setIfInBounds_toArray, List.set_cons_zero, List.set_cons_succ]
                (refine wpT_pass rfl rfl ?_; simp only [Act.put, List.setIfInBounds_toArray, List.set_cons_zero, List.set_cons_succ])
                repeat (refine wpT_take (v := ?_) rfl rfl (fun x hx => ?_) ?_; rotate_left; (focus (go_simp; with_reducible rfl)); simp only [Act.put, List.setIfInBounds_toArray, List.set_cons_zero, List.set_cons_succ])
                have G3 : Hid (Fr wr wr.drew (fun _ => False)) := (Fr.refl wr (fun _ => False)).drew
                unfold wpT
                go_wp2_with fail
                go_meet
                case rel => exact ⟨rfl, G3.out⟩
              · obtain ⟨j1, hje⟩ : ∃ q, j = q + 1 := ⟨j - 1, by omega⟩
                obtain ⟨⟨⟨g1, g2⟩, t, t2⟩, ha1⟩ : ∃ a, L[j1]? = some a := ⟨_, List.getElem?_eq_getElem (by rw [← HK.out]; omega)⟩
                have HB2 : Hid (lLess ((g1, g2), t, t2) ((f1, f2), s, s2) = true) := by
                  obtain ⟨h1, h2⟩ := List.getElem?_eq_some_iff.1 ha1
                  obtain ⟨h3, h4⟩ := List.getElem?_eq_some_iff.1 Ha.out
                  have := List.pairwise_iff_getElem.1 Hsrt.out j1 j h1 h3 (by omega)
                  rw [h2, h4] at this
                  exact this
                obtain ⟨bk', off', cap', e3, -, hca1⟩ := (HrB.out wb (Fr.refl _ _)).get j1 _ ha1
                rw [← HK.out] at e3
                simp only [Value.slice.injEq, Option.some.injEq, Addr.mk.injEq] at e3
                obtain ⟨⟨rfl, rfl, -⟩, -, rfl⟩ := e3
                have HG2 : Hid (Fr wb wr.drew (fun _ => False)) := Hf.out.drew
                have ka : ∀ z, Fr wr.drew z (fun _ => False) → z.cell? ⟨bk, off + j1 * 4, none⟩ = some (.int .u32 (g1 : Int)) := fun z hz => (hca1 z ((HG2.out.none hz).mono (fun _ _ h => h.elim))).1
                have kb : ∀ z, Fr wr.drew z (fun _ => False) → z.cell? ⟨bk, off + j1 * 4 + 1, none⟩ = some (.int .u32 (g2 : Int)) := fun z hz => (hca1 z ((HG2.out.none hz).mono (fun _ _ h => h.elim))).2.1
                have kc : ∀ z, Fr wr.drew z (fun _ => False) → z.cell? ⟨bk, off + j1 * 4 + 2, none⟩ = some (.int .i64 t) := fun z hz => (hca1 z ((HG2.out.none hz).mono (fun _ _ h => h.elim))).2.2.1
                have kd : ∀ z, Fr wr.drew z (fun _ => False) → z.cell? ⟨bk, off + j1 * 4 + 3, none⟩ = some (.int .i64 t2) := fun z hz => (hca1 z ((HG2.out.none hz).mono (fun _ _ h => h.elim))).2.2.2
                have ke : ∀ z, Fr wr.drew z (fun _ => False) → z.cell? ⟨bk, off + j * 4, none⟩ = some (.int .u32 (f1 : Int)) := fun z hz => (Hca.out z (HG2.out.none hz)).1
                have kf : ∀ z, Fr wr.drew z (fun _ => False) → z.cell? ⟨bk, off + j * 4 + 1, none⟩ = some (.int .u32 (f2 : Int)) := fun z hz => (Hca.out z (HG2.out.none hz)).2.1
                have kg : ∀ z, Fr wr.drew z (fun _ => False) → z.cell? ⟨bk, off + j * 4 + 2, none⟩ = some (.int .i64 s) := fun z hz => (Hca.out z (HG2.out.none hz)).2.2.1
                have kh : ∀ z, Fr wr.drew z (fun _ => False) → z.cell? ⟨bk, off + j * 4 + 3, none⟩ = some (.int .i64 s2) := fun z hz => (Hca.out z (HG2.out.none hz)).2.2.2
                have hpos : decide ((0 : Int) < (j : Int)) = true := decide_eq_true (by omega)
                have hpos' : decide (0 < j) = true := decide_eq_true (by omega)
                have hsub : IntKind.i64.wrap ((j : Int) - 1) = (j1 : Int) := by rw [IntWalk.i64_in _ (by omega)]; omega
                have hk1 : (j1 : Int) < (c : Int) := by omega
                have hk10 : (0 : Int) ≤ (j1 : Int) := by omega
                clear hca1 ha1 hje
                go_wp2_with fail
                refine wp_region_tree (fun _ => False) (.take 0 (.take 1 (.take 2 (.take 3 (.take 4 (.take 5 (.take 6 (.take 7 (.take 8 (.take 9 (.take 10 (.take 11 (.one 12 (.take 13 (.take 14 .nil))))))))))))))) (by kernel_rfl) (by kernel_rfl) (by decide) (by kernel_rfl) ?_
                repeat (refine wpT_take (v := ?_) rfl rfl (fun x hx => ?_) ?_; rotate_left; (focus (go_simp; with_reducible rfl)); simp only [Act.put, List.setIfInBounds_toArray, List.set_cons_zero, List.set_cons_succ])
                refine wpT_one rfl rfl (fun K hK => ?_)
                go_simp
                refine (refLifeLess_any ((g1, g2), t, t2) ((f1, f2), s, s2) _).mono ?_
                rw [HB2.out]
                rintro r x3 ⟨rfl, g⟩
                refine hK _ _ g ?_
                clear hK K ka kb kc kd ke kf kg kh
                have G3 : Hid (Fr wr x3 (fun _ => False)) := (Fr.refl wr (fun _ => False)).drew.none g
                clear g
                repeat (refine wpT_take (v := ?_) rfl rfl (fun x hx => ?_) ?_; rotate_left; (focus (go_simp; with_reducible rfl)); simp only [Act.put, List.setIfInBounds_toArray, List.set_cons_zero, List.set_cons_succ])
                unfold wpT
                go_wp2_with fail
                go_meet
                case rel => exact ⟨rfl, G3.out⟩
            case rest =>
              obtain ⟨rfl, hfc⟩ := hcut
              rename_i hKc
              refine hKc _ _ ?_
              clear hKc
              have Hfc : Hid (Fr wb wc (fun _ => False)) := Hf.out.none hfc
              clear hfc k3
              go_wp2_with fail
              go_roundg (c - (j + 1))
              case rel => exact ⟨j + 1, e + 1, rfl, by omega, by go_num, by first | rfl | go_num, Hce.out.symm, Hfc.out⟩
              case measure => rw [Hg.out]; omega
          · have hsd : decide (0 ≤ s2) = false := decide_eq_false hs
            rw [hsd, if_neg (by simp)] at hce
            subst hce
            go_upto_region 19 with fail
            go_cut [73] from 59 to 73 (fun V wx => V = .bool false ∧ Fr wr wx (fun _ => False))
            case first =>
              by_cases h0 : j = 0
              · subst h0
                go_wp2_with fail
                refine wp_region_tree (fun _ => False) (.take 0 (.take 1 (.take 2 (.take 3 (.take 4 (.take 5 (.take 6 (.take 7 (.take 8 (.take 9 (.take 10 (.take 11 (.one 12 (.take 13 (.take 14 .nil))))))))))))))) (by kernel_rfl) (by kernel_rfl) (by decide) (by kernel_rfl) ?_
                iterate 3 (refine wpT_take (v := ?_) rfl rfl (fun x hx => ?_) ?_; rotate_left; (focus (go_simp; with_reducible rfl)); simp only [Act.put, List.setIfInBounds_toArray, List.set_cons_zero, List.set_cons_succ])
                iterate 9 (refine wpT_pass rfl rfl ?_; simp only [Act.put, List.setIfInBounds_toArray, List.set_cons_zero, List.set_cons_succ])
                refine wpT_skip rfl rfl ?_
                simp only [Act.put, List.setIfInBounds_toArray, List.set_cons_zero, List.set_cons_succ]
                (refine wpT_pass rfl rfl ?_; simp only [Act.put, List.setIfInBounds_toArray, List.set_cons_zero, List.set_cons_succ])
                repeat (refine wpT_take (v := ?_) rfl rfl (fun x hx => ?_) ?_; rotate_left; (focus (go_simp; with_reducible rfl)); simp only [Act.put, List.setIfInBounds_toArray, List.set_cons_zero, List.set_cons_succ])
                have G3 : Hid (Fr wr wr.drew (fun _ => False)) := (Fr.refl wr (fun _ => False)).drew
                unfold wpT
                go_wp2_with fail
                go_meet
                case rel => exact ⟨rfl, G3.out⟩
              · obtain ⟨j1, hje⟩ : ∃ q, j = q + 1 := ⟨j - 1, by omega⟩
                obtain ⟨⟨⟨g1, g2⟩, t, t2⟩, ha1⟩ : ∃ a, L[j1]? = some a := ⟨_, List.getElem?_eq_getElem (by rw [← HK.out]; omega)⟩
                have HB2 : Hid (lLess ((g1, g2), t, t2) ((f1, f2), s, s2) = true) := by
                  obtain ⟨h1, h2⟩ := List.getElem?_eq_some_iff.1 ha1
                  obtain ⟨h3, h4⟩ := List.getElem?_eq_some_iff.1 Ha.out
                  have := List.pairwise_iff_getElem.1 Hsrt.out j1 j h1 h3 (by omega)
                  rw [h2, h4] at this
                  exact this
                obtain ⟨bk', off', cap', e3, -, hca1⟩ := (HrB.out wb (Fr.refl _ _)).get j1 _ ha1
                rw [← HK.out] at e3
                simp only [Value.slice.injEq, Option.some.injEq, Addr.mk.injEq] at e3
                obtain ⟨⟨rfl, rfl, -⟩, -, rfl⟩ := e3
                have HG2 : Hid (Fr wb wr.drew (fun _ => False)) := Hf.out.drew
                have ka : ∀ z, Fr wr.drew z (fun _ => False) → z.cell? ⟨bk, off + j1 * 4, none⟩ = some (.int .u32 (g1 : Int)) := fun z hz => (hca1 z ((HG2.out.none hz).mono (fun _ _ h => h.elim))).1
                have kb : ∀ z, Fr wr.drew z (fun _ => False) → z.cell? ⟨bk, off + j1 * 4 + 1, none⟩ = some (.int .u32 (g2 : Int)) := fun z hz => (hca1 z ((HG2.out.none hz).mono (fun _ _ h => h.elim))).2.1
                have kc : ∀ z, Fr wr.drew z (fun _ => False) → z.cell? ⟨bk, off + j1 * 4 + 2, none⟩ = some (.int .i64 t) := fun z hz => (hca1 z ((HG2.out.none hz).mono (fun _ _ h => h.elim))).2.2.1
                have kd : ∀ z, Fr wr.drew z (fun _ => False) → z.cell? ⟨bk, off + j1 * 4 + 3, none⟩ = some (.int .i64 t2) := fun z hz => (hca1 z ((HG2.out.none hz).mono (fun _ _ h => h.elim))).2.2.2
                have ke : ∀ z, Fr wr.drew z (fun _ => False) → z.cell? ⟨bk, off + j * 4, none⟩ = some (.int .u32 (f1 : Int)) := fun z hz => (Hca.out z (HG2.out.none hz)).1
                have kf : ∀ z, Fr wr.drew z (fun _ => False) → z.cell? ⟨bk, off + j * 4 + 1, none⟩ = some (.int .u32 (f2 : Int)) := fun z hz => (Hca.out z (HG2.out.none hz)).2.1
                have kg : ∀ z, Fr wr.drew z (fun _ => False) → z.cell? ⟨bk, off + j * 4 + 2, none⟩ = some (.int .i64 s) := fun z hz => (Hca.out z (HG2.out.none hz)).2.2.1
                have kh : ∀ z, Fr wr.drew z (fun _ => False) → z.cell? ⟨bk, off + j * 4 + 3, none⟩ = some (.int .i64 s2) := fun z hz => (Hca.out z (HG2.out.none hz)).2.2.2
                have hpos : decide ((0 : Int) < (j : Int)) = true := decide_eq_true (by omega)
                have hpos' : decide (0 < j) = true := decide_eq_true (by omega)
                have hsub : IntKind.i64.wrap ((j : Int) - 1) = (j1 : Int) := by rw [IntWalk.i64_in _ (by omega)]; omega
                have hk1 : (j1 : Int) < (c : Int) := by omega
                have hk10 : (0 : Int) ≤ (j1 : Int) := by omega
                clear hca1 ha1 hje
                go_wp2_with fail
                refine wp_region_tree (fun _ => False) (.take 0 (.take 1 (.take 2 (.take 3 (.take 4 (.take 5 (.take 6 (.take 7 (.take 8 (.take 9 (.take 10 (.take 11 (.one 12 (.take 13 (.take 14 .nil))))))))))))))) (by kernel_rfl) (by kernel_rfl) (by decide) (by kernel_rfl) ?_
                repeat (refine wpT_take (v := ?_) rfl rfl (fun x hx => ?_) ?_; rotate_left; (focus (go_simp; with_reducible rfl)); simp only [Act.put, List.setIfInBounds_toArray, List.set_cons_zero, List.set_cons_succ])
                refine wpT_one rfl rfl (fun K hK => ?_)
                go_simp
                refine (refLifeLess_any ((g1, g2), t, t2) ((f1, f2), s, s2) _).mono ?_
                rw [HB2.out]
                rintro r x3 ⟨rfl, g⟩
                refine hK _ _ g ?_
                clear hK K ka kb kc kd ke kf kg kh
                have G3 : Hid (Fr wr x3 (fun _ => False)) := (Fr.refl wr (fun _ => False)).drew.none g
                clear g
                repeat (refine wpT_take (v := ?_) rfl rfl (fun x hx => ?_) ?_; rotate_left; (focus (go_simp; with_reducible rfl)); simp only [Act.put, List.setIfInBounds_toArray, List.set_cons_zero, List.set_cons_succ])
                unfold wpT
                go_wp2_with fail
                go_meet
                case rel => exact ⟨rfl, G3.out⟩
            case rest =>
              obtain ⟨rfl, hfc⟩ := hcut
              rename_i hKc
              refine hKc _ _ ?_
              clear hKc
              have Hfc : Hid (Fr wb wc (fun _ => False)) := Hf.out.none hfc
              clear hfc k3
              go_wp2_with fail
              go_roundg (c - (j + 1))
              case rel => exact ⟨j + 1, e', rfl, by omega, by go_num, by first | rfl | go_num, Hce.out.symm, Hfc.out⟩
              case measure => rw [Hg.out]; omega
        · have hjn : ¬ (j : Int) < (c : Int) := by omega
          have hjn' : decide (j < c) = false := decide_eq_false hlt
          have H3 : Hid (e = d) := by
            show _ = _
            rw [He.out, List.take_of_length_le (by rw [← HK.out]; omega)]
            exact HG.out.symm
          obtain rfl := H3.out
          obtain ⟨ka, kb⟩ : wr.cell? ⟨ph, 0, none⟩ = some (.int .u64 (n : Int)) ∧ wr.cell? ⟨ph, 1, none⟩ = some (.slice a2' m c2') := ⟨two_cell0 (Qh.out wr (Gb.out.none Hf.out)), two_cell1 (Qh.out wr (Gb.out.none Hf.out))⟩
          go_wp2_with fail
          refine (M.check n _ L _ (HrB.out wr Hf.out) HO.out.n64 (by have := HK40.out; rw [← HK.out]; omega) Hlfit.out).mono ?_
          rw [Hlck.out]
          rintro r w9 ⟨rfl, g⟩
          have Hfo : Hid (Fr w w9 (fun _ => False)) := (Hw3.out.none (Gb.out.none Hf.out)).none g
          have e1 : ((c : Int) == (c : Int)) = true := by simp
          have e2 : ((e : Int) == (e : Int)) = true := by simp
          clear g ka kb
          dsimp only
          go_wp2
          go_ret
          exact ⟨rfl, ebelow Hfo.out⟩

end Go.Proofs.Ytanimgfhabkmcaa.lifeCounts

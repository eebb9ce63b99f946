/-
  The walk of the law LifeThere, under the condition that life's functions answer as their contracts say.
-/
import Derived.Test.YtanimgfhabkmcaaRows
import Derived.Test.YtanimgfhabkmcaaLI
import Derived.Test.YtanimgfhabkmcaaSHelp
import Derived.Test.YtanimgfhabkmcaaXTime
import Derived.Test.YtanimgfhabkmcaaJ3
import Derived.Test.YtanimgfhabkmcaaJ2
import Derived.Test.YtanimgfhabkmcaaLArg
namespace Go.Proofs.Ytanimgfhabkmcaa.lifeThere
open Go.ChangeShapes Go.WideShapes Go.ChangeAt Go.RowKit

theorem filter_step {α : Type} {p : α → Bool} {l : List α} {i : Nat} {x : α} (h : l[i]? = some x) : ((l.take (i + 1)).filter p).length = ((l.take i).filter p).length + if p x = true then 1 else 0 := by
  rw [List.take_add_one, h, List.filter_append, List.length_append]
  cases hp : p x <;> simp [hp]
theorem filter_le {α : Type} (p : α → Bool) (l : List α) (i : Nat) : ((l.take i).filter p).length ≤ l.length :=
  Nat.le_trans (List.length_filter_le _ _) (by rw [List.length_take]; omega)

set_option maxRecDepth 4000 in
set_option maxHeartbeats 6400000 in
theorem walkM (M : LI) (a0 : Int) (a1 : Option Addr) (len1 cap1 : Nat) (z1 : List Int) (a2 : Int) (u3 y3 : Nat) (f3 g3 : Int) (a4 : Int) (w : World) (w0 : (Lit.int .u8 a0).wf = true) (w1 : IsRow .u8 w a1 len1 cap1 z1) (w2 : (Lit.int .u8 a2).wf = true) (w3 : LfFit ((u3, y3), f3, g3)) (w4 : (Lit.int .i64 a4).wf = true) :
    Calls Try.prog 5 #[.int .u8 a0, .slice a1 len1 cap1, .int .u8 a2, lifeV ((u3, y3), f3, g3), .int .i64 a4] w fun e w' => e = .returned (.bool true) ∧ Below w.heap.size w w' := by
  obtain ⟨bs, hbl, hbb, hbr⟩ := bytes_arg w1
  have Hbs : Hid (Reads .u8 w (.slice a1 len1 cap1) bs) := hbr
  have Hbb : Hid (∀ x ∈ bs, x < 256) := hbb
  have Hbl : Hid (bs.length = len1) := hbl
  clear hbl hbb hbr
  obtain ⟨k, rfl, hk⟩ := eu8_nat w0
  have Hk : Hid (k < 256) := hk
  obtain ⟨ne, rfl, hne⟩ := eu8_nat w2
  have Hne : Hid (ne < 256) := hne
  have Ht4 : Hid (-9223372036854775808 ≤ a4 ∧ a4 ≤ 9223372036854775807) := by have := bounds_i64 w4; show _ ∧ _; omega
  have Hlf : Hid (LfFit ((u3, y3), f3, g3)) := w3
  obtain ⟨p1, hp1⟩ : ∃ p, decide (f3 ≤ a4) = p := ⟨_, rfl⟩
  obtain ⟨p2, hp2⟩ : ∃ p, decide (g3 < 0) = p := ⟨_, rfl⟩
  obtain ⟨p3, hp3⟩ : ∃ p, decide (a4 < g3) = p := ⟨_, rfl⟩
  have Hth : Hid (thereL a4 ((u3, y3), f3, g3) = (p1 && (p2 || p3))) := by show _ = _; unfold thereL; rw [← hp1, ← hp2, ← hp3]
  clear w0 w1 w2 w3 w4 hk hne
  unfold lifeV
  dsimp only
  go_enter Try.func5, Try.ntmps5
  go_wp2_with fail
  obtain ⟨p8, hp8⟩ : ∃ p, p = w.heap.size := ⟨_, rfl⟩
  obtain ⟨wa, hwa⟩ : ∃ wa, wa = w.alloc (.cells #[.int .u32 (u3 : Int), .int .u32 (y3 : Int), .int .i64 f3, .int .i64 g3] 56) := ⟨_, rfl⟩
  rw [← hwa, ← hp8]
  have Q8 : Hid (∀ z, Fr wa z (fun _ => False) → z.heap[p8]? = some (.cells #[.int .u32 (u3 : Int), .int .u32 (y3 : Int), .int .i64 f3, .int .i64 g3] 56 (0, 0))) := fun z hz => hz.kept (by rw [hwa, hp8]; exact heap_alloc_new _ _) (fun h => h)
  have Hwa : Hid (Fr w wa (fun _ => False)) := by show Fr _ _ _; rw [hwa]; exact (Fr.refl _ _).alloc _
  clear hp8 hwa
  refine (lknown_any M wa).mono ?_
  rintro e w1 ⟨rfl, hf1⟩
  have H01 : Hid (Fr wa w1 (fun _ => False)) := hf1
  have Hf1 : Hid (Fr w w1 (fun _ => False)) := Hwa.out.none hf1
  clear hf1
  by_cases hb60 : 60 < len1
  · have d1 : decide ((60 : Int) < (len1 : Int)) = true := decide_eq_true (by omega)
    have d1' : decide (60 < len1) = true := decide_eq_true hb60
    go_wp2
    go_ret
    exact ⟨rfl, ebelow Hf1.out⟩
  have db60 : decide ((60 : Int) < (len1 : Int)) = false := decide_eq_false (by omega)
  have db60' : decide (60 < len1) = false := decide_eq_false hb60
  have Hl : Hid (bs.length ≤ 60) := by have := Hbl.out; exact (by omega : bs.length ≤ 60)
  clear hb60
  go_upto_region 5 with fail
  go_cut [42] from 24 to 42 (fun V wx => V = .bool false ∧ Fr w1 wx (fun _ => False))
  case first =>
    have HG : Hid (Fr wa w1.drew (fun _ => False)) := H01.out.drew
    have ka : ∀ z, Fr w1.drew z (fun _ => False) → z.cell? ⟨p8, 0, none⟩ = some (.int .u32 (u3 : Int)) := fun z hz => (four_cells (Q8.out z (HG.out.none hz))).1
    have kb : ∀ z, Fr w1.drew z (fun _ => False) → z.cell? ⟨p8, 1, none⟩ = some (.int .u32 (y3 : Int)) := fun z hz => (four_cells (Q8.out z (HG.out.none hz))).2.1
    have kc : ∀ z, Fr w1.drew z (fun _ => False) → z.cell? ⟨p8, 2, none⟩ = some (.int .i64 f3) := fun z hz => (four_cells (Q8.out z (HG.out.none hz))).2.2.1
    have kd : ∀ z, Fr w1.drew z (fun _ => False) → z.cell? ⟨p8, 3, none⟩ = some (.int .i64 g3) := fun z hz => (four_cells (Q8.out z (HG.out.none hz))).2.2.2
    have HK : Hid (∀ z, Fr w1.drew z (fun _ => False) → z.cell? ⟨p8, 3, none⟩ = some (.int .i64 g3)) := kd
    go_wp2_with fail
    refine wp_region_tree (fun _ => False) (.take 0 (.take 1 (.take 3 (.take 4 (.take 5 (.take 6 (.one 2 (.take 7 (.take 8 (.take 9 (.take 10 (.take 11 (.take 12 (.take 13 (.take 14 (.take 15 (.take 16 (.take 17 (.take 18 .nil))))))))))))))))))) (by kernel_rfl) (by kernel_rfl) (by decide) (by kernel_rfl) ?_
    repeat (refine wpT_take (v := ?_) rfl rfl (fun x hx => ?_) ?_; rotate_left; (focus (go_simp; with_reducible rfl)); simp only [Act.put, List.setIfInBounds_toArray, List.set_cons_zero, List.set_cons_succ])
    refine wpT_one rfl rfl (fun K hK => ?_)
    go_simp
    refine (M.there ((u3, y3), f3, g3) a4 _ Hlf.out Ht4.out.1 Ht4.out.2).mono ?_
    rw [Hth.out]
    rintro r x1 ⟨rfl, g⟩
    refine hK _ _ g ?_
    clear hK K ka kb kc kd
    have kd : ∀ z, Fr x1 z (fun _ => False) → z.cell? ⟨p8, 3, none⟩ = some (.int .i64 g3) := fun z hz => HK.out z (g.none hz)
    have G3 : Hid (Fr w1 x1 (fun _ => False)) := (Fr.refl w1 (fun _ => False)).drew.none g
    clear g
    try simp only [Act.put, List.setIfInBounds_toArray, List.set_cons_zero, List.set_cons_succ]
    cases p1 <;> cases p2 <;> cases p3
    all_goals
      repeat ((first | (refine wpT_take (v := ?_) rfl rfl (fun x hx => ?_) ?_; rotate_left; (focus (go_simp; with_reducible rfl))) | refine wpT_pass rfl rfl ?_); simp only [Act.put, List.setIfInBounds_toArray, List.set_cons_zero, List.set_cons_succ])
      unfold wpT
      go_wp2_with fail
      go_meet
      case rel => exact ⟨rfl, G3.out⟩
  case rest =>
    obtain ⟨rfl, hfc⟩ := hcut
    rename_i hKc
    refine hKc _ _ ?_
    clear hKc Hth hp1 hp2 hp3
    have Hfc : Hid (Fr w wc (fun _ => False)) := Hf1.out.none hfc
    clear hfc
    go_wp2_with fail
    refine (seatH_any k _ bs _ (Hbs.out.keep Hfc.out) Hbb.out (by have := Hl.out; omega) Hk.out).mono ?_
    rintro r w2 ⟨n, E, a2', m, c2', rfl, hm, -, -, hok, hr2, hmc, g⟩
    have HO : Hid (HOk n E) := hok
    have Hm : Hid (m = E.length) := hm
    have Hr2 : Hid (RdV w2 (.slice a2' m c2') E) := hr2
    have Hf2 : Hid (Fr w w2 (fun _ => False)) := Hfc.out.none g
    clear g hok hm hr2
    go_upto_region 8 with fail
    obtain ⟨ph, hph⟩ : ∃ p, p = w2.heap.size := ⟨_, rfl⟩
    obtain ⟨w3, hw3⟩ : ∃ x, x = w2.alloc (.cells #[.int .u64 (n : Int), .slice a2' m c2'] 25) := ⟨_, rfl⟩
    rw [← hw3, ← hph]
    have Qh : Hid (∀ z, Fr w3 z (fun _ => False) → z.heap[ph]? = some (.cells #[.int .u64 (n : Int), .slice a2' m c2'] 25 (0, 0))) := fun z hz => hz.kept (by rw [hw3, hph]; exact heap_alloc_new _ _) (fun h => h)
    have H23 : Hid (Fr w2 w3 (fun _ => False)) := by show Fr _ _ _; rw [hw3]; exact (Fr.refl _ _).alloc _
    have Hr3 : Hid (∀ z, Fr w3 z (fun _ => False) → RdV z (.slice a2' m c2') E) := fun z hz => Hr2.out.keep (H23.out.none hz)
    have Hw3 : Hid (Fr w w3 (fun _ => False)) := Hf2.out.none H23.out
    clear hph hw3 Hr2
    obtain ⟨L, hL⟩ : ∃ L, L = livesE [] E := ⟨_, rfl⟩
    have Hchk : Hid ((checkF n E).2 = 0) := by show _ = _; rw [HO.out.chk]
    have HLF : Hid (livesF n E = (L, 0)) := by show _ = _; rw [hL]; unfold livesF; exact if_pos Hchk.out
    obtain ⟨K, hK⟩ : ∃ K, K = L.length := ⟨_, rfl⟩
    have HK : Hid (K = L.length) := hK
    have HK40 : Hid (K ≤ 40) := by have h1 := lives_length E HO.out.srt; have h2 := HO.out.len; rw [← hL, ← hK] at h1; exact (by omega : K ≤ 40)
    have Hlfit : Hid (∀ x ∈ L, LfFit x) := by
      show ∀ x ∈ L, LfFit x
      rw [hL]
      exact lives_fit (good_check Hchk.out).2.2.1 HO.out.srt HO.out.n32
    obtain ⟨at_, hat⟩ : ∃ t, t = timeF E ne := ⟨_, rfl⟩
    have Hat : Hid (-9223372036854775808 ≤ at_ ∧ at_ ≤ 9223372036854775807) := timeF_fit hat HO.out.times
    have HatE : Hid (at_ = timeF E ne) := hat
    obtain ⟨now, hnow⟩ : ∃ l, l = (atF n E at_).1 := ⟨_, rfl⟩
    have Hperm : Hid (((L.filter (thereL at_)).map (·.1)).Perm now) := by show List.Perm _ _; rw [hL, hnow]; exact lives_there at_ Hchk.out
    have HatF : Hid (atF n E at_ = (now, 0)) := by show _ = _; rw [hnow]; unfold atF afterF; rw [if_pos Hchk.out]
    clear hL hK hat hnow
    obtain ⟨ka, kb⟩ : w3.cell? ⟨ph, 0, none⟩ = some (.int .u64 (n : Int)) ∧ w3.cell? ⟨ph, 1, none⟩ = some (.slice a2' m c2') := ⟨two_cell0 (Qh.out w3 (Fr.refl _ _)), two_cell1 (Qh.out w3 (Fr.refl _ _))⟩
    go_wp2_with fail
    refine (M.of_ n _ E _ (Hr3.out w3 (Fr.refl _ _)) HO.out.n64 (by have := HO.out.len; omega) HO.out.fit).mono ?_
    rw [HLF.out]
    rintro r w4 ⟨⟨vL, rfl, hvL⟩, g⟩
    obtain ⟨aL, cL, rfl, hcL⟩ := hvL.form
    rw [← HK.out] at hvL hcL ⊢
    have HrL : Hid (RdL w4 (.slice aL K cL) L) := hvL
    have G4 : Hid (Fr w3 w4 (fun _ => False)) := g
    clear g hvL ka kb
    dsimp only
    obtain ⟨ka, kb⟩ : w4.cell? ⟨ph, 0, none⟩ = some (.int .u64 (n : Int)) ∧ w4.cell? ⟨ph, 1, none⟩ = some (.slice a2' m c2') := ⟨two_cell0 (Qh.out w4 G4.out), two_cell1 (Qh.out w4 G4.out)⟩
    go_wp2_with fail
    refine (seatTime_any n _ E ne _ (Hr3.out w4 G4.out) (by have := HO.out.len; omega) HO.out.times Hne.out).mono ?_
    rw [← HatE.out]
    rintro r w5 ⟨rfl, g⟩
    have G5 : Hid (Fr w3 w5 (fun _ => False)) := G4.out.none g
    have G45 : Hid (Fr w4 w5 (fun _ => False)) := g
    clear g ka kb
    obtain ⟨ka, kb⟩ : w5.cell? ⟨ph, 0, none⟩ = some (.int .u64 (n : Int)) ∧ w5.cell? ⟨ph, 1, none⟩ = some (.slice a2' m c2') := ⟨two_cell0 (Qh.out w5 G5.out), two_cell1 (Qh.out w5 G5.out)⟩
    go_wp2_with fail
    refine (refAt_any n _ E at_ _ (Hr3.out w5 G5.out) (by have := HO.out.len; omega) HO.out.fit).mono ?_
    rw [HatF.out]
    rintro r w6 ⟨⟨vN, rfl, hvN, -⟩, g⟩
    obtain ⟨aN, cN, rfl, hcN⟩ := hvN.form
    obtain ⟨NL, hNL⟩ : ∃ l, l = now.length := ⟨_, rfl⟩
    rw [← hNL] at hvN hcN ⊢
    have HNL : Hid _ := hNL
    have HrN : Hid (RdE w6 (.slice aN NL cN) now) := hvN
    have G6 : Hid (Fr w w6 (fun _ => False)) := (Hw3.out.none G5.out).none g
    have HrL6 : Hid (RdL w6 (.slice aL K cL) L) := HrL.out.keep (G45.out.none g)
    clear g hvN ka kb hNL
    dsimp only
    have HNb : Hid (now.length = (L.filter (thereL at_)).length) := by show _ = _; rw [← Hperm.out.length_eq, List.length_map]
    have HN40 : Hid (now.length ≤ 40) := by have h1 := HNb.out; have h2 := List.length_filter_le (thereL at_) L; have h3 := HK40.out; have h4 := HK.out; exact (by omega : now.length ≤ 40)
    go_wp2_with fail
    go_loopg [17, 18] K (fun g C I wr => ∃ (i c : Nat), g = K - i ∧ i ≤ K ∧ I = .int .i64 (i : Int) ∧ C = .int .i64 (c : Int) ∧ c = ((L.take i).filter (thereL at_)).length ∧ Fr w6 wr (fun _ => False))
    case atStart => exact ⟨0, 0, by omega, by omega, rfl, rfl, by simp, Fr.refl _ _⟩
    case round =>
      obtain ⟨i, c, hg, hi, rfl, rfl, hc, hf⟩ := hrel
      have Hg : Hid _ := hg
      have Hc : Hid _ := hc
      have Hf : Hid (Fr w6 wr (fun _ => False)) := hf
      have hk40 := HK40.out
      have hcb : c ≤ 40 := by have h1 := filter_le (thereL at_) L i; have h2 := HK.out; omega
      clear hg hc hf
      by_cases hlt : i < K
      · have hin : (i : Int) < (K : Int) := by omega
        have hin' : decide (i < K) = true := decide_eq_true hlt
        obtain ⟨⟨⟨f1, f2⟩, s, s2⟩, ha⟩ : ∃ a, L[i]? = some a := ⟨_, List.getElem?_eq_getElem (by rw [← HK.out]; omega)⟩
        have Ha : Hid (L[i]? = some ((f1, f2), s, s2)) := ha
        obtain ⟨bk, off, cap, e3, hbk, hca⟩ := HrL6.out.get i _ ha
        rw [← HK.out] at e3
        simp only [Value.slice.injEq] at e3
        obtain ⟨rfl, -, rfl⟩ := e3
        have Hca : Hid (∀ x, Fr w6 x (fun _ => False) → x.cell? ⟨bk, off + i * 4, none⟩ = some (.int .u32 (f1 : Int)) ∧ x.cell? ⟨bk, off + i * 4 + 1, none⟩ = some (.int .u32 (f2 : Int)) ∧ x.cell? ⟨bk, off + i * 4 + 2, none⟩ = some (.int .i64 s) ∧ x.cell? ⟨bk, off + i * 4 + 3, none⟩ = some (.int .i64 s2)) := fun x hx => hca x (hx.mono (fun _ _ h => h.elim))
        obtain ⟨k0, k1, k2, k3⟩ := Hca.out wr Hf.out
        have hi0 : (0 : Int) ≤ (i : Int) := by omega
        have Hfx : Hid (LfFit ((f1, f2), s, s2)) := Hlfit.out _ (List.mem_of_getElem? ha)
        obtain ⟨B, hB⟩ : ∃ B, B = thereL at_ ((f1, f2), s, s2) := ⟨_, rfl⟩
        have HB : Hid _ := hB
        have H1 : Hid (((L.take (i + 1)).filter (thereL at_)).length = c + if B = true then 1 else 0) := by show _ = _; rw [filter_step ha, ← Hc.out, HB.out]
        clear hca ha hbk hB
        go_wp2_with fail
        refine (M.there ((f1, f2), s, s2) at_ _ Hfx.out Hat.out.1 Hat.out.2).mono ?_
        rw [← HB.out]
        rintro r z1 ⟨rfl, g⟩
        have Z1 : Hid (Fr w6 z1 (fun _ => False)) := Hf.out.none g
        clear g k0 k1 k2 k3
        cases B with
        | true =>
          have Hmem : Hid (decide ((f1, f2) ∈ now) = true) := decide_eq_true (Hperm.out.mem_iff.1 (List.mem_map.2 ⟨((f1, f2), s, s2), List.mem_filter.2 ⟨List.mem_of_getElem? Ha.out, HB.out.symm⟩, rfl⟩))
          obtain ⟨k0, k1, -, -⟩ := Hca.out z1 Z1.out
          go_wp2_with fail
          refine (refHas_any _ now (f1, f2) _ (HrN.out.keep Z1.out) (by have := HN40.out; omega)).mono ?_
          rw [Hmem.out]
          rintro r z2 ⟨rfl, g⟩
          have Z2 : Hid (Fr w6 z2 (fun _ => False)) := Z1.out.none g
          clear g k0 k1
          go_wp2_with fail
          go_roundg (K - (i + 1))
          case rel => exact ⟨i + 1, c + 1, rfl, by omega, by go_num, by go_num, H1.out.symm, Z2.out⟩
          case measure => rw [Hg.out]; omega
        | false =>
          go_wp2_with fail
          go_roundg (K - (i + 1))
          case rel => exact ⟨i + 1, c, rfl, by omega, by go_num, rfl, by rw [H1.out]; rfl, Z1.out⟩
          case measure => rw [Hg.out]; omega
      · have hin : ¬ (i : Int) < (K : Int) := by omega
        have hin' : decide (i < K) = false := decide_eq_false hlt
        have H3 : Hid (c = NL) := by
          show _ = _
          rw [Hc.out, List.take_of_length_le (by rw [← HK.out]; omega), HNL.out]
          exact HNb.out.symm
        obtain rfl := H3.out
        have Hfo : Hid (Fr w wr (fun _ => False)) := G6.out.none Hf.out
        have ee : ((c : Int) == (c : Int)) = true := by simp
        go_wp2
        go_ret
        exact ⟨by first | rfl | simp, ebelow Hfo.out⟩

end Go.Proofs.Ytanimgfhabkmcaa.lifeThere

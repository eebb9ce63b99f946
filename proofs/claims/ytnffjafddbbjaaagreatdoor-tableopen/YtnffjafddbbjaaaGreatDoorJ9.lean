/-
  Texts of ours, joined: TScan TWord TByte TNum TNext TLogE.
-/
import Derived.Test.YtnffjafddbbjaaaGreatDoorJ1
import Derived.Test.YtnffjafddbbjaaaGreatDoorJ11
import Derived.Test.YtnffjafddbbjaaaGreatDoorJ3
import Derived.Test.YtnffjafddbbjaaaGreatDoorJ10
import Derived.Test.YtnffjafddbbjaaaGreatDoorJ8

/-
  The contracts of the reference's scanner.
-/
namespace Go.Proofs.YtnffjafddbbjaaaGreatDoor
open Go.RowKit

/-- The reference's scanner at a block. -/
def RSc (w : World) (p : Nat) (s : ByteArray) (c : Sc) : Prop := w.heap[p]? = some (.cells #[.string s, .int .i64 (c.pos : Int), .int .i64 (c.line : Int), .int .i64 (c.col : Int), .int .i64 (c.err : Int)] 102 (0, 0))
set_option maxRecDepth 4000 in
set_option maxHeartbeats 400000 in
theorem refFail_any (p e : Nat) (s : ByteArray) (c : Sc) (w : World) (h : RSc w p s c) : Calls Tryz.prog 72 #[.pointer (some ⟨p, 0, none⟩), .int .i64 (e : Int)] w fun r w' => r = .returned (.tuple #[]) ∧ RSc w' p s (scFail c e) ∧ Fr w w' (fun k => k = p) := by
  obtain ⟨C, hC⟩ : ∃ C, C = scFail c e := ⟨_, rfl⟩
  rw [← hC]
  have HC : Hid _ := hC
  have H : Hid (RSc w p s c) := h
  obtain ⟨k0, k1, k2, k3, k4⟩ := five_cells h
  have f4 := five_free h 4
  clear hC h
  by_cases h0 : c.err = 0
  · have HC2 : Hid (C = { c with err := e }) := by show _ = _; rw [HC.out]; exact if_pos h0
    rw [h0] at k4
    have e0 : ((0 : Nat) : Int) = 0 := rfl
    rw [e0] at k4
    obtain rfl := HC2.out
    have HR : Hid (RSc (w.setCell ⟨p, 4, none⟩ (.int .i64 (e : Int))) p s { c with err := e }) := five_put4 H.out _
    clear HC HC2 h0
    go_enter Tryz.func72, Tryz.ntmps72
    go_wp2
    go_end0
    exact ⟨rfl, HR.out, fr_put _ _ _ _⟩
  · have HC2 : Hid (C = c) := by show _ = _; rw [HC.out]; exact if_neg h0
    have hb : ((c.err : Int) == 0) = false := by rw [beq_eq_false_iff_ne]; omega
    have hb' : (c.err == 0) = false := by rw [beq_eq_false_iff_ne]; exact h0
    obtain rfl := HC2.out
    clear HC HC2
    go_enter Tryz.func72, Tryz.ntmps72
    go_wp2
    go_end0
    exact ⟨rfl, H.out, Fr.refl _ _⟩

set_option maxRecDepth 4000 in
set_option maxHeartbeats 1600000 in
theorem refMove_any (p n : Nat) (s : ByteArray) (c : Sc) (w : World) (h : RSc w p s c) (hok : ScOk s c) (hn : c.pos + n ≤ s.size) (hs : s.size ≤ 1000000000) : Calls Tryz.prog 73 #[.pointer (some ⟨p, 0, none⟩), .int .i64 (n : Int)] w fun r w' => r = .returned (.tuple #[]) ∧ RSc w' p s (scMove s c n) ∧ Fr w w' (fun k => k = p) := by
  have H : Hid (RSc w p s c) := h
  have Hok : Hid (ScOk s c) := hok
  clear h hok
  go_enter Tryz.func73, Tryz.ntmps73
  go_wp2_with fail
  go_loopg [4] n (fun g I wr => ∃ (i : Nat) (d : Sc), g = n - i ∧ i ≤ n ∧ I = .int .i64 (i : Int) ∧ d.pos = c.pos + i ∧ ScOk s d ∧ RSc wr p s d ∧ scMove s d (n - i) = scMove s c n ∧ Fr w wr (fun k => k = p))
  case atStart => exact ⟨0, c, by omega, by omega, rfl, rfl, Hok.out, H.out, rfl, Fr.refl _ _⟩
  case round =>
    obtain ⟨i, d, hg, hi, rfl, hdp, hdo, hr, hst, hf⟩ := hrel
    have Hg : Hid _ := hg
    have Hdo : Hid (ScOk s d) := hdo
    have Hr : Hid (RSc wr p s d) := hr
    have Hst : Hid _ := hst
    have Hf : Hid (Fr w wr (fun k => k = p)) := hf
    have Hdp : Hid _ := hdp
    have hd1 : d.pos < s.size ∨ ¬ i < n := by omega
    have hd2 : d.line ≤ 1000000000 + 1 ∧ d.col ≤ 1000000000 + 1 ∧ d.pos ≤ 1000000000 := by unfold ScOk at hdo; omega
    clear hg hr hst hf hdp hdo
    by_cases hlt : i < n
    · have hin : (i : Int) < (n : Int) := by omega
      have hin' : decide (i < n) = true := decide_eq_true hlt
      obtain ⟨b, hb⟩ : ∃ b, b = chAt s d.pos := ⟨_, rfl⟩
      have Hb : Hid _ := hb
      have hidx : ∀ z, (Instr.index 9 (.string s) (.int .i64 (d.pos : Int))).run Tryz.prog z = .ok (.int .u8 (b : Int)) z := fun z => by rw [hb]; exact index_any s d.pos (by omega) z
      clear hb
      have k0 : ∀ z, Fr wr.drew z (fun _ => False) → z.cell? ⟨p, 0, none⟩ = some (.string s) := fun z hz => (five_cells ((Fr.refl wr (fun _ => False)).drew.none hz |>.kept Hr.out (fun h => h))).1
      have k1 : ∀ z, Fr wr.drew z (fun _ => False) → z.cell? ⟨p, 1, none⟩ = some (.int .i64 (d.pos : Int)) := fun z hz => (five_cells ((Fr.refl wr (fun _ => False)).drew.none hz |>.kept Hr.out (fun h => h))).2.1
      go_upto_region 3 with fail
      refine wp_region_tree (fun _ => False) (.take 0 (.take 1 (.take 2 (.take 3 (.take 4 (.take 5 (.take 6 (.take 7 (.take 8 (.take 9 .nil)))))))))) (by kernel_rfl) (by kernel_rfl) (by decide) (by kernel_rfl) ?_
      iterate 9 (refine wpT_take (v := ?_) rfl rfl (fun x hx => ?_) ?_; rotate_left; (focus (go_simp; with_reducible rfl)); simp only [Act.put, List.setIfInBounds_toArray, List.set_cons_zero, List.set_cons_succ])
      have Hrd : Hid (RSc wr.drew p s d) := (Fr.refl wr (fun _ => False)).drew.kept Hr.out (fun h => h)
      have Hfd : Hid (Fr w wr.drew (fun k => k = p)) := Hf.out.drew
      have Hst2 : Hid (scMove s (scStep s d) (n - (i + 1)) = scMove s c n) := by
        show _ = _
        rw [← Hst.out]
        obtain ⟨m, hm⟩ : ∃ m, n - i = m + 1 := ⟨n - (i + 1), by omega⟩
        rw [hm, show n - (i + 1) = m by omega]
        rfl
      have Hso : Hid (ScOk s (scStep s d)) := by
        have h1 := Hdo.out
        have h2 := Hdp.out
        show ScOk _ _
        unfold ScOk at h1 ⊢
        unfold scStep
        split <;> dsimp only <;> omega
      have Hdp2 : Hid ((scStep s d).pos = c.pos + (i + 1)) := by show _ = _; rw [scStep_pos, Hdp.out]; omega
      by_cases h10 : b = 10
      · have Hstep : Hid (scStep s d = { d with pos := d.pos + 1, line := d.line + 1, col := 1 }) := by show _ = _; unfold scStep; rw [if_pos (by rw [← Hb.out]; exact h10)]
        subst h10
        (refine wpT_take (v := ?_) rfl rfl (fun x hx => ?_) ?_; rotate_left; (focus (go_simp; with_reducible rfl)); simp only [Act.put, List.setIfInBounds_toArray, List.set_cons_zero, List.set_cons_succ])
        unfold wpT
        clear k0 k1 hidx
        generalize wr.drew = wd at Hrd Hfd ⊢
        obtain ⟨k0, k1, k2, k3, k4⟩ := five_cells Hrd.out
        have fz := fun j => five_free Hrd.out j
        have Hfin : Hid (RSc (((wd.setCell ⟨p, 2, none⟩ (.int .i64 ((d.line : Int) + 1))).setCell ⟨p, 3, none⟩ (.int .i64 1)).setCell ⟨p, 1, none⟩ (.int .i64 ((d.pos : Int) + 1))) p s (scStep s d)) := by
          show RSc _ _ _ _
          rw [Hstep.out]
          exact five_put1 (five_put3 (five_put2 Hrd.out _) _) _
        have Hff : Hid (Fr w (((wd.setCell ⟨p, 2, none⟩ (.int .i64 ((d.line : Int) + 1))).setCell ⟨p, 3, none⟩ (.int .i64 1)).setCell ⟨p, 1, none⟩ (.int .i64 ((d.pos : Int) + 1))) (fun k => k = p)) := Hfd.out.trans (((fr_put _ _ _ _).trans (fr_put _ _ _ _) (fun _ _ h => h)).trans (fr_put _ _ _ _) (fun _ _ h => h)) (fun _ _ h => h)
        go_wp2_with fail
        go_roundg (n - (i + 1))
        case rel => exact ⟨i + 1, scStep s d, rfl, by omega, by go_num, Hdp2.out, Hso.out, Hfin.out, Hst2.out, Hff.out⟩
        case measure => rw [Hg.out]; omega
      · have hb1 : ((b : Int) == 10) = false := by rw [beq_eq_false_iff_ne]; omega
        have hb2 : (b == 10) = false := by rw [beq_eq_false_iff_ne]; exact h10
        have Hstep : Hid (scStep s d = { d with pos := d.pos + 1, col := d.col + 1 }) := by show _ = _; unfold scStep; rw [if_neg (by rw [← Hb.out]; exact h10)]
        (refine wpT_take (v := ?_) rfl rfl (fun x hx => ?_) ?_; rotate_left; (focus (go_simp; with_reducible rfl)); simp only [Act.put, List.setIfInBounds_toArray, List.set_cons_zero, List.set_cons_succ])
        unfold wpT
        clear k0 k1 hidx
        generalize wr.drew = wd at Hrd Hfd ⊢
        obtain ⟨k0, k1, k2, k3, k4⟩ := five_cells Hrd.out
        have fz := fun j => five_free Hrd.out j
        have Hfin : Hid (RSc ((wd.setCell ⟨p, 3, none⟩ (.int .i64 ((d.col : Int) + 1))).setCell ⟨p, 1, none⟩ (.int .i64 ((d.pos : Int) + 1))) p s (scStep s d)) := by
          show RSc _ _ _ _
          rw [Hstep.out]
          exact five_put1 (five_put3 Hrd.out _) _
        have Hff : Hid (Fr w ((wd.setCell ⟨p, 3, none⟩ (.int .i64 ((d.col : Int) + 1))).setCell ⟨p, 1, none⟩ (.int .i64 ((d.pos : Int) + 1))) (fun k => k = p)) := Hfd.out.trans ((fr_put _ _ _ _).trans (fr_put _ _ _ _) (fun _ _ h => h)) (fun _ _ h => h)
        go_wp2_with fail
        go_roundg (n - (i + 1))
        case rel => exact ⟨i + 1, scStep s d, rfl, by omega, by go_num, Hdp2.out, Hso.out, Hfin.out, Hst2.out, Hff.out⟩
        case measure => rw [Hg.out]; omega
    · have hin : ¬ (i : Int) < (n : Int) := by omega
      have hin' : decide (i < n) = false := decide_eq_false hlt
      have Hend : Hid (d = scMove s c n) := by
        show _ = _
        rw [← Hst.out, show n - i = 0 by omega]
        rfl
      have Hr2 : Hid (RSc wr p s (scMove s c n)) := by show RSc _ _ _ _; rw [← Hend.out]; exact Hr.out
      go_wp2_with fail
      go_end0
      exact ⟨rfl, Hr2.out, Hf.out⟩

end Go.Proofs.YtnffjafddbbjaaaGreatDoor

/-
  The reference scanner's words.
-/
namespace Go.Proofs.YtnffjafddbbjaaaGreatDoor
open Go.RowKit

theorem refFail20 (p : Nat) (s : ByteArray) (c : Sc) (w : World) (h : RSc w p s c) : Calls Tryz.prog 72 #[.pointer (some ⟨p, 0, none⟩), .int .i64 20] w fun r w' => r = .returned (.tuple #[]) ∧ RSc w' p s (scFail c 20) ∧ Fr w w' (fun k => k = p) := refFail_any p 20 s c w h
theorem refFail21 (p : Nat) (s : ByteArray) (c : Sc) (w : World) (h : RSc w p s c) : Calls Tryz.prog 72 #[.pointer (some ⟨p, 0, none⟩), .int .i64 21] w fun r w' => r = .returned (.tuple #[]) ∧ RSc w' p s (scFail c 21) ∧ Fr w w' (fun k => k = p) := refFail_any p 21 s c w h
theorem refFail22 (p : Nat) (s : ByteArray) (c : Sc) (w : World) (h : RSc w p s c) : Calls Tryz.prog 72 #[.pointer (some ⟨p, 0, none⟩), .int .i64 22] w fun r w' => r = .returned (.tuple #[]) ∧ RSc w' p s (scFail c 22) ∧ Fr w w' (fun k => k = p) := refFail_any p 22 s c w h

set_option maxRecDepth 4000 in
set_option maxHeartbeats 3200000 in
theorem refWord_any (p : Nat) (s v : ByteArray) (c : Sc) (w : World) (h : RSc w p s c) (hok : ScOk s c) (hs : s.size ≤ 1000000000) (hv : v.size ≤ 1000000000) : Calls Tryz.prog 40 #[.pointer (some ⟨p, 0, none⟩), .string v] w fun r w' => r = .returned (.bool (scWordOk s v c)) ∧ RSc w' p s (scWord s v c) ∧ Fr w w' (fun k => k = p) := by
  have H : Hid (RSc w p s c) := h
  have Hok : Hid (ScOk s c) := hok
  have hpos : c.pos ≤ 1000000000 := by unfold ScOk at hok; omega
  have Hpos : Hid (c.pos ≤ s.size) := hok.1
  obtain ⟨O, hO⟩ : ∃ O, O = scWordOk s v c := ⟨_, rfl⟩
  obtain ⟨D, hD⟩ : ∃ D, D = scWord s v c := ⟨_, rfl⟩
  rw [← hO, ← hD]
  have HO : Hid _ := hO
  have HD : Hid _ := hD
  obtain ⟨k0, k1, k2, k3, k4⟩ := five_cells h
  clear h hok hO hD
  by_cases he : c.err = 0
  · have hb : ((c.err : Int) == 0) = true := by rw [beq_iff_eq]; omega
    have hb' : (c.err == 0) = true := by rw [beq_iff_eq]; exact he
    obtain ⟨E, hE⟩ : ∃ E, E = wordErr s v c.pos 0 v.size := ⟨_, rfl⟩
    have HO2 : Hid (O = (E == 0)) := by show _ = _; rw [HO.out, hE]; unfold scWordOk; rw [hb']; rfl
    have HD2 : Hid (D = if E = 0 then scMove s c v.size else { c with err := E }) := by show _ = _; rw [HD.out, hE]; unfold scWord; rw [if_pos he]
    have HE : Hid _ := hE
    clear hE
    go_enter Tryz.func40, Tryz.ntmps40
    go_wp2_with fail
    go_loopg [5] v.size (fun g I wr => ∃ (i : Nat), g = v.size - i ∧ i ≤ v.size ∧ I = .int .i64 (i : Int) ∧ wordErr s v c.pos i (v.size - i) = E ∧ Fr w wr (fun _ => False) ∧ c.pos + i ≤ s.size)
    case atStart => exact ⟨0, by omega, by omega, rfl, HE.out.symm, Fr.refl _ _, Hpos.out⟩
    case round =>
      obtain ⟨i, hg, hi, rfl, hw, hf, hpi⟩ := hrel
      have Hg : Hid _ := hg
      have Hw : Hid _ := hw
      have Hf : Hid (Fr w wr (fun _ => False)) := hf
      have Hpi : Hid _ := hpi
      have Hr : Hid (RSc wr p s c) := hf.kept H.out (fun h => h)
      have Hrd : Hid (RSc wr.drew p s c) := hf.drew.kept H.out (fun h => h)
      clear hg hw hf hpi k0 k1 k2 k3 k4
      by_cases hlt : i < v.size
      · have hin : (i : Int) < (v.size : Int) := by omega
        have hin' : decide (i < v.size) = true := decide_eq_true hlt
        obtain ⟨m, hm⟩ : ∃ m, v.size - i = m + 1 := ⟨v.size - (i + 1), by omega⟩
        have Hstep : Hid ((if s.size ≤ c.pos + i then 20 else if chAt s (c.pos + i) = chAt v i then wordErr s v c.pos (i + 1) m else 21) = E) := by show _ = _; rw [← Hw.out, hm]; rfl
        have Hm : Hid (m = v.size - (i + 1)) := by show _ = _; omega
        clear hm
        have k0 : ∀ z, Fr wr.drew z (fun _ => False) → z.cell? ⟨p, 0, none⟩ = some (.string s) := fun z hz => (five_cells (hz.kept Hrd.out (fun h => h))).1
        have k1 : ∀ z, Fr wr.drew z (fun _ => False) → z.cell? ⟨p, 1, none⟩ = some (.int .i64 (c.pos : Int)) := fun z hz => (five_cells (hz.kept Hrd.out (fun h => h))).2.1
        have Hf1 : Hid (Fr w wr.drew (fun _ => False)) := Hf.out.drew
        have hwr : IntKind.i64.wrap ((c.pos : Int) + (i : Int)) = (c.pos : Int) + (i : Int) := IntWalk.i64_in _ (by omega)
        by_cases hend : s.size ≤ c.pos + i
        · have HE2 : Hid (E = 20) := by show _ = _; rw [← Hstep.out, if_pos hend]
          have hge : decide ((s.size : Int) ≤ (c.pos : Int) + (i : Int)) = true := by rw [decide_eq_true_iff]; omega
          have hge' : (s.size : Int) ≤ (c.pos : Int) + (i : Int) := by omega
          have hge2 : decide (s.size ≤ c.pos + i) = true := by rw [decide_eq_true_iff]; omega
          clear hend
          go_upto_region 6 with fail
          refine wp_region_tree (fun _ => False) (.take 0 (.take 1 (.take 2 (.take 3 (.take 4 (.take 5 (.take 6 (.take 7 (.take 8 (.take 9 (.take 10 (.take 11 .nil)))))))))))) (by kernel_rfl) (by kernel_rfl) (by decide) (by kernel_rfl) ?_
          iterate 12 (refine wpT_take (v := ?_) rfl rfl (fun x hx => ?_) ?_; rotate_left; (focus (go_simp; with_reducible rfl)); simp only [Act.put, List.setIfInBounds_toArray, List.set_cons_zero, List.set_cons_succ])
          unfold wpT
          clear k0 k1
          generalize wr.drew = wd at Hrd Hf1 ⊢
          have C20 := refFail20 p s c wd Hrd.out
          go_wp2_with fail
          go_at_call 72
          refine C20.mono ?_
          rintro e w2 ⟨rfl, hr2, hf2⟩
          have Hr2 : Hid (RSc w2 p s (scFail c 20)) := hr2
          have Hf2 : Hid (Fr w w2 (fun k => k = p)) := (Hf1.out.mono (fun _ _ h => h.elim)).trans hf2 (fun _ _ h => h)
          clear hr2 hf2 C20
          have HD3 : Hid (D = scFail c 20) := by show _ = _; rw [HD2.out, HE2.out, if_neg (by omega)]; unfold scFail; rw [if_pos he]
          have HO3 : Hid (O = false) := by show _ = _; rw [HO2.out, HE2.out]; rfl
          go_wp2_with fail
          go_ret
          rw [HO3.out, HD3.out]
          exact ⟨rfl, Hr2.out, Hf2.out⟩
        · have hlt2 : c.pos + i < s.size := by omega
          have hge : decide ((s.size : Int) ≤ (c.pos : Int) + (i : Int)) = false := by rw [decide_eq_false_iff_not]; omega
          have hge' : ¬ (s.size : Int) ≤ (c.pos : Int) + (i : Int) := by omega
          have hge2 : decide (s.size ≤ c.pos + i) = false := by rw [decide_eq_false_iff_not]; omega
          have hix : ∀ z, (Instr.index 9 (.string s) (.int .i64 ((c.pos : Int) + (i : Int)))).run Tryz.prog z = .ok (.int .u8 (chAt s (c.pos + i) : Int)) z := fun z => index_any s (c.pos + i) hlt2 z
          have hiv : ∀ z, (Instr.index 9 (.string v) (.int .i64 (i : Int))).run Tryz.prog z = .ok (.int .u8 (chAt v i : Int)) z := fun z => index_any v i hlt z
          have Hst2 : Hid ((if chAt s (c.pos + i) = chAt v i then wordErr s v c.pos (i + 1) m else 21) = E) := by show _ = _; rw [← Hstep.out, if_neg hend]
          generalize chAt s (c.pos + i) = b1 at hix Hst2
          generalize chAt v i = b2 at hiv Hst2
          clear hend Hstep
          have Hlt2 : Hid _ := hlt2
          go_upto_region 6 with fail
          refine wp_region_tree (fun _ => False) (.take 0 (.take 1 (.take 2 (.take 3 (.take 4 (.take 5 (.take 6 (.take 7 (.take 8 (.take 9 (.take 10 (.take 11 .nil)))))))))))) (by kernel_rfl) (by kernel_rfl) (by decide) (by kernel_rfl) ?_
          iterate 12 (refine wpT_take (v := ?_) rfl rfl (fun x hx => ?_) ?_; rotate_left; (focus (go_simp; with_reducible rfl)); simp only [Act.put, List.setIfInBounds_toArray, List.set_cons_zero, List.set_cons_succ])
          unfold wpT
          clear k0 k1
          generalize wr.drew = wd at Hrd Hf1 ⊢
          have Hrdd : Hid (RSc wd.drew p s c) := (Fr.refl wd (fun _ => False)).drew.kept Hrd.out (fun h => h)
          have k0 : ∀ z, Fr wd.drew z (fun _ => False) → z.cell? ⟨p, 0, none⟩ = some (.string s) := fun z hz => (five_cells (hz.kept Hrdd.out (fun h => h))).1
          have k1 : ∀ z, Fr wd.drew z (fun _ => False) → z.cell? ⟨p, 1, none⟩ = some (.int .i64 (c.pos : Int)) := fun z hz => (five_cells (hz.kept Hrdd.out (fun h => h))).2.1
          have Hf3 : Hid (Fr w wd.drew (fun _ => False)) := Hf1.out.drew
          by_cases hbb : b1 = b2
          · have HE2 : Hid (wordErr s v c.pos (i + 1) (v.size - (i + 1)) = E) := by show _ = _; rw [← Hst2.out, if_pos hbb, Hm.out]
            subst hbb
            go_upto_region 9 with fail
            refine wp_region_tree (fun _ => False) (.take 0 (.take 1 (.take 2 (.take 3 (.take 4 (.take 5 (.take 6 (.take 7 (.take 8 (.take 9 (.take 10 (.take 11 (.take 12 (.take 13 (.take 14 .nil))))))))))))))) (by kernel_rfl) (by kernel_rfl) (by decide) (by kernel_rfl) ?_
            iterate 15 (refine wpT_take (v := ?_) rfl rfl (fun x hx => ?_) ?_; rotate_left; (focus (go_simp; with_reducible rfl)); simp only [Act.put, List.setIfInBounds_toArray, List.set_cons_zero, List.set_cons_succ])
            unfold wpT
            clear k0 k1
            generalize wd.drew = we at Hrdd Hf3 ⊢
            go_wp2_with fail
            go_roundg (v.size - (i + 1))
            case rel => exact ⟨i + 1, rfl, by omega, by go_num, HE2.out, Hf3.out, Hlt2.out⟩
            case measure => rw [Hg.out]; omega
          · have HE2 : Hid (E = 21) := by show _ = _; rw [← Hst2.out, if_neg hbb]
            have hb1 : ((b1 : Int) == (b2 : Int)) = false := by rw [beq_eq_false_iff_ne]; omega
            have hb2 : (b1 == b2) = false := by rw [beq_eq_false_iff_ne]; omega
            have hb3 : ((b1 : Int) != (b2 : Int)) = true := by rw [bne_iff_ne]; omega
            go_upto_region 9 with fail
            refine wp_region_tree (fun _ => False) (.take 0 (.take 1 (.take 2 (.take 3 (.take 4 (.take 5 (.take 6 (.take 7 (.take 8 (.take 9 (.take 10 (.take 11 (.take 12 (.take 13 (.take 14 .nil))))))))))))))) (by kernel_rfl) (by kernel_rfl) (by decide) (by kernel_rfl) ?_
            iterate 15 (refine wpT_take (v := ?_) rfl rfl (fun x hx => ?_) ?_; rotate_left; (focus (go_simp; with_reducible rfl)); simp only [Act.put, List.setIfInBounds_toArray, List.set_cons_zero, List.set_cons_succ])
            unfold wpT
            clear k0 k1
            generalize wd.drew = we at Hrdd Hf3 ⊢
            have C21 := refFail21 p s c we Hrdd.out
            go_wp2_with fail
            go_at_call 72
            refine C21.mono ?_
            rintro e w2 ⟨rfl, hr2, hf2⟩
            have Hr2 : Hid (RSc w2 p s (scFail c 21)) := hr2
            have Hf2 : Hid (Fr w w2 (fun k => k = p)) := (Hf3.out.mono (fun _ _ h => h.elim)).trans hf2 (fun _ _ h => h)
            clear hr2 hf2 C21
            have HD3 : Hid (D = scFail c 21) := by show _ = _; rw [HD2.out, HE2.out, if_neg (by omega)]; unfold scFail; rw [if_pos he]
            have HO3 : Hid (O = false) := by show _ = _; rw [HO2.out, HE2.out]; rfl
            go_wp2_with fail
            go_ret
            rw [HO3.out, HD3.out]
            exact ⟨rfl, Hr2.out, Hf2.out⟩
      · have hin : ¬ (i : Int) < (v.size : Int) := by omega
        have hin' : decide (i < v.size) = false := decide_eq_false hlt
        have HE2 : Hid (E = 0) := by show _ = _; rw [← Hw.out, show v.size - i = 0 by omega]; rfl
        have Hfit : Hid (c.pos + v.size ≤ s.size) := by show _ ≤ _; have := Hpi.out; omega
        have CM := refMove_any p v.size s c wr Hr.out Hok.out Hfit.out hs
        go_wp2_with fail
        go_at_call 73
        refine CM.mono ?_
        rintro e w2 ⟨rfl, hr2, hf2⟩
        have Hr2 : Hid (RSc w2 p s (scMove s c v.size)) := hr2
        have Hf2 : Hid (Fr w w2 (fun k => k = p)) := (Hf.out.mono (fun _ _ h => h.elim)).trans hf2 (fun _ _ h => h)
        clear hr2 hf2 CM
        have HD3 : Hid (D = scMove s c v.size) := by show _ = _; rw [HD2.out, HE2.out, if_pos rfl]
        have HO3 : Hid (O = true) := by show _ = _; rw [HO2.out, HE2.out]; rfl
        go_wp2_with fail
        go_ret
        rw [HO3.out, HD3.out]
        exact ⟨rfl, Hr2.out, Hf2.out⟩
  · have hb : ((c.err : Int) == 0) = false := by rw [beq_eq_false_iff_ne]; omega
    have hb' : (c.err == 0) = false := by rw [beq_eq_false_iff_ne]; exact he
    have hbn : ((c.err : Int) != 0) = true := by rw [bne_iff_ne]; omega
    have HO2 : Hid (O = false) := by show _ = _; rw [HO.out]; unfold scWordOk; rw [hb']; rfl
    have HD2 : Hid (D = c) := by show _ = _; rw [HD.out]; unfold scWord; rw [if_neg he]
    go_enter Tryz.func40, Tryz.ntmps40
    go_wp2_with fail
    go_ret
    rw [HO2.out, HD2.out]
    exact ⟨rfl, H.out, Fr.refl _ _⟩

end Go.Proofs.YtnffjafddbbjaaaGreatDoor

/-
  The reference scanner's bytes; a new scanner.
-/
namespace Go.Proofs.YtnffjafddbbjaaaGreatDoor
open Go.RowKit

set_option maxRecDepth 4000 in
set_option maxHeartbeats 800000 in
theorem refByte_any (p b : Nat) (s : ByteArray) (c : Sc) (w : World) (h : RSc w p s c) (hok : ScOk s c) (hs : s.size ≤ 1000000000) : Calls Tryz.prog 41 #[.pointer (some ⟨p, 0, none⟩), .int .u8 (b : Int)] w fun r w' => r = .returned (.bool (scByteOk s b c)) ∧ RSc w' p s (scByte s b c) ∧ Fr w w' (fun k => k = p) := by
  obtain ⟨V, hV⟩ : ∃ V, V = strOf [b] := ⟨_, rfl⟩
  have hconv := conv_one w b
  have HVs : Hid (V.size ≤ 1000000000) := by show _ ≤ _; rw [hV, strOf_length]; exact (show 1 ≤ 1000000000 by decide)
  unfold scByteOk scByte
  rw [← hV] at hconv ⊢
  obtain ⟨O, hO⟩ : ∃ O, O = scWordOk s V c := ⟨_, rfl⟩
  obtain ⟨D, hD⟩ : ∃ D, D = scWord s V c := ⟨_, rfl⟩
  rw [← hO, ← hD]
  have HO : Hid _ := hO
  have HD : Hid _ := hD
  have H : Hid (RSc w p s c) := h
  have Hok : Hid (ScOk s c) := hok
  have Hs : Hid (s.size ≤ 1000000000) := hs
  clear hV hO hD h hok hs
  go_enter Tryz.func41, Tryz.ntmps41
  go_wp2_with fail
  have Hf1 : Hid (Fr w (w.alloc (.cells #[.int .u8 (b : Int)] 5)) (fun _ => False)) := (Fr.refl w (fun _ => False)).alloc _
  have CW := refWord_any p s V c (w.alloc (.cells #[.int .u8 (b : Int)] 5)) (Hf1.out.kept H.out (fun h => h)) Hok.out Hs.out HVs.out
  go_at_call 40
  refine CW.mono ?_
  rintro e w2 ⟨rfl, hr2, hf2⟩
  rw [← HO.out]
  rw [← HD.out] at hr2
  have Hr2 : Hid (RSc w2 p s D) := hr2
  have Hf2 : Hid (Fr w w2 (fun k => k = p)) := (Hf1.out.mono (fun _ _ h => h.elim)).trans hf2 (fun _ _ h => h)
  clear hr2 hf2 CW
  go_wp2_with fail
  go_ret
  exact ⟨rfl, Hr2.out, Hf2.out⟩

set_option maxRecDepth 4000 in
set_option maxHeartbeats 800000 in
theorem refNew_any (s : ByteArray) (w : World) : Calls Tryz.prog 39 #[.string s] w fun r w' => ∃ p, r = .returned (.pointer (some ⟨p, 0, none⟩)) ∧ w.heap.size ≤ p ∧ RSc w' p s ⟨0, 1, 1, 0⟩ ∧ Fr w w' (fun _ => False) := by
  go_enter Tryz.func39, Tryz.ntmps39
  go_wp2_with fail
  go_ret
  refine ⟨w.heap.size, rfl, Nat.le_refl _, ?_, ?_⟩
  · exact heap_alloc_new w _
  · exact (Fr.refl w _).alloc _

end Go.Proofs.YtnffjafddbbjaaaGreatDoor

/-
  The reference scanner's numbers.
-/
namespace Go.Proofs.YtnffjafddbbjaaaGreatDoor
open Go.RowKit

set_option maxRecDepth 4000 in
theorem refDigit_any (b : Nat) (w : World) : Calls Tryz.prog 74 #[.int .u8 (b : Int)] w fun r w' => r = .returned (.bool (isDig b)) ∧ Fr w w' (fun _ => False) := by
  obtain ⟨R, hR⟩ : ∃ R, R = isDig b := ⟨_, rfl⟩
  rw [← hR]
  have HR : Hid _ := hR
  clear hR
  by_cases h1 : 48 ≤ b
  · have g1 : (48 : Int) ≤ (b : Int) := by omega
    have g1' : decide ((48 : Int) ≤ (b : Int)) = true := decide_eq_true g1
    by_cases h2 : b ≤ 57
    · have g2 : (b : Int) ≤ (57 : Int) := by omega
      have g2' : decide ((b : Int) ≤ (57 : Int)) = true := decide_eq_true g2
      have HR2 : Hid (R = true) := by show _ = _; rw [HR.out]; unfold isDig; rw [decide_eq_true h1, decide_eq_true h2]; rfl
      obtain rfl := HR2.out
      go_enter Tryz.func74, Tryz.ntmps74
      go_wp2_with fail
      go_ret
      exact ⟨rfl, Fr.refl _ _⟩
    · have g2 : ¬ (b : Int) ≤ (57 : Int) := by omega
      have g2' : decide ((b : Int) ≤ (57 : Int)) = false := decide_eq_false g2
      have HR2 : Hid (R = false) := by show _ = _; rw [HR.out]; unfold isDig; rw [decide_eq_false h2, Bool.and_false]
      obtain rfl := HR2.out
      go_enter Tryz.func74, Tryz.ntmps74
      go_wp2_with fail
      go_ret
      exact ⟨rfl, Fr.refl _ _⟩
  · have g1 : ¬ (48 : Int) ≤ (b : Int) := by omega
    have g1' : decide ((48 : Int) ≤ (b : Int)) = false := decide_eq_false g1
    have HR2 : Hid (R = false) := by show _ = _; rw [HR.out]; unfold isDig; rw [decide_eq_false h1, Bool.false_and]
    obtain rfl := HR2.out
    go_enter Tryz.func74, Tryz.ntmps74
    go_wp2_with fail
    go_ret
    exact ⟨rfl, Fr.refl _ _⟩

set_option maxRecDepth 4000 in
set_option maxHeartbeats 8000000 in
theorem refNumber_any (p most : Nat) (s : ByteArray) (c : Sc) (w : World) (h : RSc w p s c) (hok : ScOk s c) (hs : s.size ≤ 1000000000) (hm : most < 18446744073709551616) : Calls Tryz.prog 42 #[.pointer (some ⟨p, 0, none⟩), .int .u64 (most : Int)] w fun r w' => r = .returned (.int .u64 (scNumVal s most c : Int)) ∧ RSc w' p s (scNum s most c) ∧ Fr w w' (fun k => k = p) := by
  have H : Hid (RSc w p s c) := h
  have Hok : Hid (ScOk s c) := hok
  have hpos : c.pos ≤ 1000000000 := by unfold ScOk at hok; omega
  have hps : c.pos ≤ s.size := hok.1
  obtain ⟨O, hO⟩ : ∃ O, O = scNumVal s most c := ⟨_, rfl⟩
  obtain ⟨D, hD⟩ : ∃ D, D = scNum s most c := ⟨_, rfl⟩
  rw [← hO, ← hD]
  have HO : Hid _ := hO
  have HD : Hid _ := hD
  obtain ⟨k0, k1, k2, k3, k4⟩ := five_cells h
  clear h hok hO hD
  by_cases he : c.err = 0
  · have hb : ((c.err : Int) == 0) = true := by rw [beq_iff_eq]; omega
    have hb' : (c.err == 0) = true := by rw [beq_iff_eq]; exact he
    obtain ⟨N, hN⟩ : ∃ N, N = digN s c.pos (s.size - c.pos) := ⟨_, rfl⟩
    have HO2 : Hid (O = if N = 0 ∧ c.pos = s.size then 0 else if N = 0 ∨ (1 < N ∧ chAt s c.pos = 48) then 0 else (numVal s c.pos most 0 0 N).getD 0) := by show _ = _; rw [HO.out, hN]; unfold scNumVal scDigs; rw [if_pos he]
    have HD2 : Hid (D = if N = 0 ∧ c.pos = s.size then { c with err := 20 } else if N = 0 ∨ (1 < N ∧ chAt s c.pos = 48) then { c with err := 21 } else scEnd s c N (numVal s c.pos most 0 0 N)) := by show _ = _; rw [HD.out, hN]; unfold scNum scDigs; rw [if_pos he]
    have HN : Hid (N = digN s c.pos (s.size - c.pos)) := hN
    have hNle : c.pos + N ≤ s.size := by have := digN_le s (s.size - c.pos) c.pos; omega
    have Hdig : Hid (∀ j, j < N → isDig (chAt s (c.pos + j)) = true) := by show ∀ j, _; rw [hN]; exact fun j hj => digN_dig s _ c.pos j hj
    clear hN
    have hf20 : ({ c with err := 20 } : Sc) = scFail c 20 := by unfold scFail; rw [if_pos he]
    have hf21 : ({ c with err := 21 } : Sc) = scFail c 21 := by unfold scFail; rw [if_pos he]
    have hf22 : ({ c with err := 22 } : Sc) = scFail c 22 := by unfold scFail; rw [if_pos he]
    have Hf20 : Hid _ := hf20
    have Hf21 : Hid _ := hf21
    have Hf22 : Hid _ := hf22
    clear hf20 hf21 hf22
    go_enter Tryz.func42, Tryz.ntmps42
    go_wp2_with fail
    go_loopg [5] (s.size + 1 - c.pos) (fun g I wr => ∃ (n : Nat), g = s.size + 1 - (c.pos + n) ∧ c.pos + n ≤ s.size ∧ I = .int .i64 (n : Int) ∧ n + digN s (c.pos + n) (s.size - (c.pos + n)) = N ∧ Fr w wr (fun _ => False))
    case atStart => exact ⟨0, by omega, by omega, rfl, by rw [HN.out]; simp, Fr.refl _ _⟩
    case round =>
      obtain ⟨n, hg, hn, rfl, hst, hf⟩ := hrel
      have Hg : Hid _ := hg
      have Hst : Hid _ := hst
      have Hf : Hid (Fr w wr (fun _ => False)) := hf
      have Hr : Hid (RSc wr p s c) := hf.kept H.out (fun h => h)
      clear hg hst hf k0 k1 k2 k3 k4
      have hwr : IntKind.i64.wrap ((c.pos : Int) + (n : Int)) = (c.pos : Int) + (n : Int) := IntWalk.i64_in _ (by omega)
      obtain ⟨B, hB⟩ : ∃ B, B = (decide (c.pos + n < s.size) && isDig (chAt s (c.pos + n))) := ⟨_, rfl⟩
      have HB : Hid _ := hB
      clear hB
      go_upto_region 4 with fail
      go_cut [39] from 14 to 38 (fun V wx => V = .bool B ∧ Fr wr wx (fun _ => False))
      case first =>
        have Hrd : Hid (RSc wr.drew p s c) := (Fr.refl wr (fun _ => False)).drew.kept Hr.out (fun h => h)
        have k0 : ∀ z, Fr wr.drew z (fun _ => False) → z.cell? ⟨p, 0, none⟩ = some (.string s) := fun z hz => (five_cells (hz.kept Hrd.out (fun h => h))).1
        have k1 : ∀ z, Fr wr.drew z (fun _ => False) → z.cell? ⟨p, 1, none⟩ = some (.int .i64 (c.pos : Int)) := fun z hz => (five_cells (hz.kept Hrd.out (fun h => h))).2.1
        have Hf1 : Hid (Fr wr wr.drew (fun _ => False)) := (Fr.refl wr (fun _ => False)).drew
        by_cases hlt : c.pos + n < s.size
        · have hls : (c.pos : Int) + (n : Int) < (s.size : Int) := by omega
          have hls' : decide ((c.pos : Int) + (n : Int) < (s.size : Int)) = true := decide_eq_true hls
          have hix : ∀ z, (Instr.index 9 (.string s) (.int .i64 ((c.pos : Int) + (n : Int)))).run Tryz.prog z = .ok (.int .u8 (chAt s (c.pos + n) : Int)) z := fun z => index_any s (c.pos + n) hlt z
          have HB2 : Hid (B = isDig (chAt s (c.pos + n))) := by show _ = _; rw [HB.out, decide_eq_true hlt, Bool.true_and]
          generalize chAt s (c.pos + n) = b at hix HB2
          go_wp2_with fail
          refine wp_region_tree (fun _ => False) (.take 0 (.take 1 (.take 2 (.take 3 (.take 4 (.take 5 (.take 6 (.take 7 (.take 8 (.take 9 (.take 10 (.take 11 (.take 12 (.take 13 (.take 14 (.take 15 (.take 16 (.take 17 (.take 18 (.take 19 (.take 20 (.take 21 (.take 22 (.take 23 (.one 24 (.take 25 .nil)))))))))))))))))))))))))) (by kernel_rfl) (by kernel_rfl) (by decide) (by kernel_rfl) ?_
          iterate 24 (refine wpT_take (v := ?_) rfl rfl (fun x hx => ?_) ?_; rotate_left; (focus (go_simp; with_reducible rfl)); simp only [Act.put, List.setIfInBounds_toArray, List.set_cons_zero, List.set_cons_succ])
          refine wpT_one rfl rfl (fun K hK => ?_)
          go_simp
          refine (refDigit_any b _).mono ?_
          rw [← HB2.out]
          rintro r x3 ⟨rfl, g⟩
          refine hK _ _ g ?_
          clear hK K k0 k1
          have Hf3 : Hid (Fr wr x3 (fun _ => False)) := Hf1.out.none g
          clear g
          (refine wpT_take (v := ?_) rfl rfl (fun x hx => ?_) ?_; rotate_left; (focus (go_simp; with_reducible rfl)); simp only [Act.put, List.setIfInBounds_toArray, List.set_cons_zero, List.set_cons_succ])
          unfold wpT
          go_wp2_with fail
          go_meet
          case rel => exact ⟨rfl, Hf3.out⟩
        · have hls : ¬ (c.pos : Int) + (n : Int) < (s.size : Int) := by omega
          have hls' : decide ((c.pos : Int) + (n : Int) < (s.size : Int)) = false := decide_eq_false hls
          have HB2 : Hid (B = false) := by show _ = _; rw [HB.out, decide_eq_false hlt, Bool.false_and]
          obtain rfl := HB2.out
          go_wp2_with fail
          refine wp_region_tree (fun _ => False) (.take 0 (.take 1 (.take 2 (.take 3 (.take 4 (.take 5 (.take 6 (.take 7 (.take 8 (.take 9 (.take 10 (.take 11 (.take 12 (.take 13 (.take 14 (.take 15 (.take 16 (.take 17 (.take 18 (.take 19 (.take 20 (.take 21 (.take 22 (.take 23 (.one 24 (.take 25 .nil)))))))))))))))))))))))))) (by kernel_rfl) (by kernel_rfl) (by decide) (by kernel_rfl) ?_
          iterate 13 (refine wpT_take (v := ?_) rfl rfl (fun x hx => ?_) ?_; rotate_left; (focus (go_simp; with_reducible rfl)); simp only [Act.put, List.setIfInBounds_toArray, List.set_cons_zero, List.set_cons_succ])
          iterate 11 (refine wpT_pass rfl rfl ?_; simp only [Act.put, List.setIfInBounds_toArray, List.set_cons_zero, List.set_cons_succ])
          (refine wpT_skip rfl rfl ?_; simp only [Act.put, List.setIfInBounds_toArray, List.set_cons_zero, List.set_cons_succ])
          (refine wpT_take (v := ?_) rfl rfl (fun x hx => ?_) ?_; rotate_left; (focus (go_simp; with_reducible rfl)); simp only [Act.put, List.setIfInBounds_toArray, List.set_cons_zero, List.set_cons_succ])
          unfold wpT
          go_wp2_with fail
          go_meet
          case rel => exact ⟨rfl, Hf1.out⟩
      case rest =>
        obtain ⟨rfl, hfc⟩ := hcut
        rename_i hKc
        refine hKc _ _ ?_
        clear hKc
        have Hf2 : Hid (Fr w wc (fun _ => False)) := Hf.out.none hfc
        have Hr2 : Hid (RSc wc p s c) := Hf2.out.kept H.out (fun h => h)
        clear hfc
        cases B with
        | true =>
          have HB3 : Hid (c.pos + n < s.size ∧ isDig (chAt s (c.pos + n)) = true) := by
            show _ ∧ _
            have h1 := HB.out.symm
            rw [Bool.and_eq_true, decide_eq_true_iff] at h1
            exact h1
          have hlt3 := HB3.out.1
          have Hst3 : Hid (n + 1 + digN s (c.pos + (n + 1)) (s.size - (c.pos + (n + 1))) = N) := by
            show _ = _
            rw [← Hst.out, show s.size - (c.pos + n) = (s.size - (c.pos + (n + 1))) + 1 by omega, digN, if_pos HB3.out.2, show c.pos + (n + 1) = c.pos + n + 1 by omega]
            omega
          go_wp2_with fail
          go_roundg (s.size + 1 - (c.pos + (n + 1)))
          case rel => exact ⟨n + 1, rfl, by omega, by go_num, Hst3.out, Hf2.out⟩
          case measure => rw [Hg.out]; omega
        | false =>
          have Hst3 : Hid (n = N) := by
            show _ = _
            rw [← Hst.out]
            by_cases hlt : c.pos + n < s.size
            · have h1 : isDig (chAt s (c.pos + n)) = false := by have := HB.out; rw [decide_eq_true hlt, Bool.true_and] at this; exact this.symm
              rw [show s.size - (c.pos + n) = (s.size - (c.pos + (n + 1))) + 1 by omega, digN, if_neg (by rw [h1]; exact Bool.false_ne_true)]
              omega
            · rw [show s.size - (c.pos + n) = 0 by omega, digN]
              omega
          obtain rfl := Hst3.out
          clear HB Hst Hst3 HN Hg
          generalize wc = w4 at Hf2 Hr2 ⊢
          obtain ⟨A, hA⟩ : ∃ A, A = (decide (n = 0) && decide (c.pos = s.size)) := ⟨_, rfl⟩
          have HA : Hid _ := hA
          clear hA
          go_upto_region 6 with fail
          go_cut [42] from 43 to 56 (fun V wx => V = .bool A ∧ Fr w4 wx (fun _ => False))
          case first =>
            have Hrd6 : Hid (RSc w4.drew p s c) := (Fr.refl w4 (fun _ => False)).drew.kept Hr2.out (fun h => h)
            have k0 : ∀ z, Fr w4.drew z (fun _ => False) → z.cell? ⟨p, 0, none⟩ = some (.string s) := fun z hz => (five_cells (hz.kept Hrd6.out (fun h => h))).1
            have k1 : ∀ z, Fr w4.drew z (fun _ => False) → z.cell? ⟨p, 1, none⟩ = some (.int .i64 (c.pos : Int)) := fun z hz => (five_cells (hz.kept Hrd6.out (fun h => h))).2.1
            have Hfd6 : Hid (Fr w4 w4.drew (fun _ => False)) := (Fr.refl w4 (fun _ => False)).drew
            by_cases hn0 : n = 0
            · have hz : ((n : Int) == 0) = true := by rw [beq_iff_eq]; omega
              by_cases hq : c.pos = s.size
              · have hq1 : ((c.pos : Int) == (s.size : Int)) = true := by rw [beq_iff_eq]; omega
                have hq2 : (c.pos == s.size) = true := by rw [beq_iff_eq]; exact hq
                have HA2 : Hid (A = true) := by show _ = _; rw [HA.out, decide_eq_true hn0, decide_eq_true hq]; rfl
                obtain rfl := HA2.out
                clear hn0 hq
                go_wp2_with fail
                refine wp_region_tree (fun _ => False) (.take 0 (.take 1 (.take 2 (.take 3 (.take 4 (.take 5 (.take 6 (.take 7 (.take 8 (.take 9 (.take 10 (.take 11 (.take 12 (.take 13 (.take 14 .nil))))))))))))))) (by kernel_rfl) (by kernel_rfl) (by decide) (by kernel_rfl) ?_
                iterate 15 (refine wpT_take (v := ?_) rfl rfl (fun x hx => ?_) ?_; rotate_left; (focus (go_simp; with_reducible rfl)); simp only [Act.put, List.setIfInBounds_toArray, List.set_cons_zero, List.set_cons_succ])
                unfold wpT
                go_wp2_with fail
                go_meet
                case rel => exact ⟨rfl, Hfd6.out⟩
              · have hq1 : ((c.pos : Int) == (s.size : Int)) = false := by rw [beq_eq_false_iff_ne]; omega
                have hq2 : (c.pos == s.size) = false := by rw [beq_eq_false_iff_ne]; exact hq
                have HA2 : Hid (A = false) := by show _ = _; rw [HA.out, decide_eq_false hq, Bool.and_false]
                obtain rfl := HA2.out
                clear hn0 hq
                go_wp2_with fail
                refine wp_region_tree (fun _ => False) (.take 0 (.take 1 (.take 2 (.take 3 (.take 4 (.take 5 (.take 6 (.take 7 (.take 8 (.take 9 (.take 10 (.take 11 (.take 12 (.take 13 (.take 14 .nil))))))))))))))) (by kernel_rfl) (by kernel_rfl) (by decide) (by kernel_rfl) ?_
                iterate 15 (refine wpT_take (v := ?_) rfl rfl (fun x hx => ?_) ?_; rotate_left; (focus (go_simp; with_reducible rfl)); simp only [Act.put, List.setIfInBounds_toArray, List.set_cons_zero, List.set_cons_succ])
                unfold wpT
                go_wp2_with fail
                go_meet
                case rel => exact ⟨rfl, Hfd6.out⟩
            · have hz : ((n : Int) == 0) = false := by rw [beq_eq_false_iff_ne]; omega
              have HA2 : Hid (A = false) := by show _ = _; rw [HA.out, decide_eq_false hn0, Bool.false_and]
              obtain rfl := HA2.out
              go_wp2_with fail
              refine wp_region_tree (fun _ => False) (.take 0 (.take 1 (.take 2 (.take 3 (.take 4 (.take 5 (.take 6 (.take 7 (.take 8 (.take 9 (.take 10 (.take 11 (.take 12 (.take 13 (.take 14 .nil))))))))))))))) (by kernel_rfl) (by kernel_rfl) (by decide) (by kernel_rfl) ?_
              iterate 3 (refine wpT_take (v := ?_) rfl rfl (fun x hx => ?_) ?_; rotate_left; (focus (go_simp; with_reducible rfl)); simp only [Act.put, List.setIfInBounds_toArray, List.set_cons_zero, List.set_cons_succ])
              iterate 10 (refine wpT_pass rfl rfl ?_; simp only [Act.put, List.setIfInBounds_toArray, List.set_cons_zero, List.set_cons_succ])
              iterate 2 (refine wpT_take (v := ?_) rfl rfl (fun x hx => ?_) ?_; rotate_left; (focus (go_simp; with_reducible rfl)); simp only [Act.put, List.setIfInBounds_toArray, List.set_cons_zero, List.set_cons_succ])
              unfold wpT
              go_wp2_with fail
              go_meet
              case rel => exact ⟨rfl, Hfd6.out⟩
          case rest =>
            obtain ⟨rfl, hfc⟩ := hcut
            rename_i hKc
            refine hKc _ _ ?_
            clear hKc
            have Hf4 : Hid (Fr w wc (fun _ => False)) := Hf2.out.none hfc
            have Hr4 : Hid (RSc wc p s c) := Hf4.out.kept H.out (fun h => h)
            clear hfc Hf2 Hr2
            generalize wc = w5 at Hf4 Hr4 ⊢
            cases A with
            | true =>
              have HA3 : Hid (n = 0 ∧ c.pos = s.size) := by
                show _ ∧ _
                have h1 := HA.out.symm
                rw [Bool.and_eq_true, decide_eq_true_iff, decide_eq_true_iff] at h1
                exact h1
              have CF := refFail20 p s c w5 Hr4.out
              go_wp2_with fail
              go_at_call 72
              refine CF.mono ?_
              rintro e w7 ⟨rfl, hr7, hf7⟩
              have Hr7 : Hid (RSc w7 p s (scFail c 20)) := hr7
              have Hf7 : Hid (Fr w w7 (fun k => k = p)) := (Hf4.out.mono (fun _ _ h => h.elim)).trans hf7 (fun _ _ h => h)
              clear hr7 hf7 CF
              have HD3 : Hid (D = scFail c 20) := by show _ = _; rw [HD2.out, ← Hf20.out]; exact if_pos HA3.out
              have HO3 : Hid (O = 0) := by show _ = _; rw [HO2.out]; exact if_pos HA3.out
              go_wp2_with fail
              go_ret
              rw [HO3.out, HD3.out]
              exact ⟨rfl, Hr7.out, Hf7.out⟩
            | false =>
              have HA3 : Hid (¬ (n = 0 ∧ c.pos = s.size)) := by
                show ¬ _
                rintro ⟨h1, h2⟩
                have h3 := HA.out
                rw [decide_eq_true h1, decide_eq_true h2] at h3
                exact Bool.false_ne_true h3
              have HO5 : Hid (O = if n = 0 ∨ (1 < n ∧ chAt s c.pos = 48) then 0 else (numVal s c.pos most 0 0 n).getD 0) := by show _ = _; rw [HO2.out, if_neg HA3.out]
              have HD5 : Hid (D = if n = 0 ∨ (1 < n ∧ chAt s c.pos = 48) then { c with err := 21 } else scEnd s c n (numVal s c.pos most 0 0 n)) := by show _ = _; rw [HD2.out, if_neg HA3.out]
              clear HO2 HD2 HA HA3
              have HO2 := HO5
              have HD2 := HD5
              clear HO5 HD5
              obtain ⟨C, hC⟩ : ∃ C, C = (decide (n = 0) || (decide (1 < n) && decide (chAt s c.pos = 48))) := ⟨_, rfl⟩
              have HC : Hid _ := hC
              clear hC
              go_upto_region 9 with fail
              go_cut [59] from 60 to 77 (fun V wx => V = .bool C ∧ Fr w5 wx (fun _ => False))
              case first =>
                have Hrd7 : Hid (RSc w5.drew p s c) := (Fr.refl w5 (fun _ => False)).drew.kept Hr4.out (fun h => h)
                have k0 : ∀ z, Fr w5.drew z (fun _ => False) → z.cell? ⟨p, 0, none⟩ = some (.string s) := fun z hz => (five_cells (hz.kept Hrd7.out (fun h => h))).1
                have k1 : ∀ z, Fr w5.drew z (fun _ => False) → z.cell? ⟨p, 1, none⟩ = some (.int .i64 (c.pos : Int)) := fun z hz => (five_cells (hz.kept Hrd7.out (fun h => h))).2.1
                have Hfd7 : Hid (Fr w5 w5.drew (fun _ => False)) := (Fr.refl w5 (fun _ => False)).drew
                by_cases hn0 : n = 0
                · have hz : ((n : Int) == 0) = true := by rw [beq_iff_eq]; omega
                  have HC2 : Hid (C = true) := by show _ = _; rw [HC.out, decide_eq_true hn0, Bool.true_or]
                  obtain rfl := HC2.out
                  clear hn0
                  go_wp2_with fail
                  refine wp_region_tree (fun _ => False) (.take 0 (.take 1 (.take 2 (.take 3 (.take 4 (.take 5 (.take 6 (.take 7 (.take 8 (.take 9 (.take 10 (.take 11 (.take 12 (.take 13 (.take 14 (.take 15 (.take 16 (.take 17 (.take 18 .nil))))))))))))))))))) (by kernel_rfl) (by kernel_rfl) (by decide) (by kernel_rfl) ?_
                  iterate 3 (refine wpT_take (v := ?_) rfl rfl (fun x hx => ?_) ?_; rotate_left; (focus (go_simp; with_reducible rfl)); simp only [Act.put, List.setIfInBounds_toArray, List.set_cons_zero, List.set_cons_succ])
                  iterate 14 (refine wpT_pass rfl rfl ?_; simp only [Act.put, List.setIfInBounds_toArray, List.set_cons_zero, List.set_cons_succ])
                  iterate 2 (refine wpT_take (v := ?_) rfl rfl (fun x hx => ?_) ?_; rotate_left; (focus (go_simp; with_reducible rfl)); simp only [Act.put, List.setIfInBounds_toArray, List.set_cons_zero, List.set_cons_succ])
                  unfold wpT
                  go_wp2_with fail
                  go_meet
                  case rel => exact ⟨rfl, Hfd7.out⟩
                · have hz : ((n : Int) == 0) = false := by rw [beq_eq_false_iff_ne]; omega
                  by_cases hn1 : 1 < n
                  · have h1i : (1 : Int) < (n : Int) := by omega
                    have h1i' : decide ((1 : Int) < (n : Int)) = true := decide_eq_true h1i
                    have hix : ∀ z, (Instr.index 9 (.string s) (.int .i64 (c.pos : Int))).run Tryz.prog z = .ok (.int .u8 (chAt s c.pos : Int)) z := fun z => index_any s c.pos (by omega) z
                    have HC2 : Hid (C = decide (chAt s c.pos = 48)) := by show _ = _; rw [HC.out, decide_eq_false hn0, decide_eq_true hn1, Bool.false_or, Bool.true_and]
                    generalize chAt s c.pos = b at hix HC2
                    by_cases hb8 : b = 48
                    · have hb1 : ((b : Int) == 48) = true := by rw [beq_iff_eq]; omega
                      have HC3 : Hid (C = true) := by show _ = _; rw [HC2.out, decide_eq_true hb8]
                      obtain rfl := HC3.out
                      clear hb8
                      go_wp2_with fail
                      refine wp_region_tree (fun _ => False) (.take 0 (.take 1 (.take 2 (.take 3 (.take 4 (.take 5 (.take 6 (.take 7 (.take 8 (.take 9 (.take 10 (.take 11 (.take 12 (.take 13 (.take 14 (.take 15 (.take 16 (.take 17 (.take 18 .nil))))))))))))))))))) (by kernel_rfl) (by kernel_rfl) (by decide) (by kernel_rfl) ?_
                      iterate 19 (refine wpT_take (v := ?_) rfl rfl (fun x hx => ?_) ?_; rotate_left; (focus (go_simp; with_reducible rfl)); simp only [Act.put, List.setIfInBounds_toArray, List.set_cons_zero, List.set_cons_succ])
                      unfold wpT
                      go_wp2_with fail
                      go_meet
                      case rel => exact ⟨rfl, Hfd7.out⟩
                    · have hb1 : ((b : Int) == 48) = false := by rw [beq_eq_false_iff_ne]; omega
                      have HC3 : Hid (C = false) := by show _ = _; rw [HC2.out, decide_eq_false hb8]
                      obtain rfl := HC3.out
                      clear hb8
                      go_wp2_with fail
                      refine wp_region_tree (fun _ => False) (.take 0 (.take 1 (.take 2 (.take 3 (.take 4 (.take 5 (.take 6 (.take 7 (.take 8 (.take 9 (.take 10 (.take 11 (.take 12 (.take 13 (.take 14 (.take 15 (.take 16 (.take 17 (.take 18 .nil))))))))))))))))))) (by kernel_rfl) (by kernel_rfl) (by decide) (by kernel_rfl) ?_
                      iterate 19 (refine wpT_take (v := ?_) rfl rfl (fun x hx => ?_) ?_; rotate_left; (focus (go_simp; with_reducible rfl)); simp only [Act.put, List.setIfInBounds_toArray, List.set_cons_zero, List.set_cons_succ])
                      unfold wpT
                      go_wp2_with fail
                      go_meet
                      case rel => exact ⟨rfl, Hfd7.out⟩
                  · have h1i : ¬ (1 : Int) < (n : Int) := by omega
                    have h1i' : decide ((1 : Int) < (n : Int)) = false := decide_eq_false h1i
                    have HC2 : Hid (C = false) := by show _ = _; rw [HC.out, decide_eq_false hn0, decide_eq_false hn1]; rfl
                    obtain rfl := HC2.out
                    go_wp2_with fail
                    refine wp_region_tree (fun _ => False) (.take 0 (.take 1 (.take 2 (.take 3 (.take 4 (.take 5 (.take 6 (.take 7 (.take 8 (.take 9 (.take 10 (.take 11 (.take 12 (.take 13 (.take 14 (.take 15 (.take 16 (.take 17 (.take 18 .nil))))))))))))))))))) (by kernel_rfl) (by kernel_rfl) (by decide) (by kernel_rfl) ?_
                    iterate 6 (refine wpT_take (v := ?_) rfl rfl (fun x hx => ?_) ?_; rotate_left; (focus (go_simp; with_reducible rfl)); simp only [Act.put, List.setIfInBounds_toArray, List.set_cons_zero, List.set_cons_succ])
                    iterate 10 (refine wpT_pass rfl rfl ?_; simp only [Act.put, List.setIfInBounds_toArray, List.set_cons_zero, List.set_cons_succ])
                    iterate 3 (refine wpT_take (v := ?_) rfl rfl (fun x hx => ?_) ?_; rotate_left; (focus (go_simp; with_reducible rfl)); simp only [Act.put, List.setIfInBounds_toArray, List.set_cons_zero, List.set_cons_succ])
                    unfold wpT
                    go_wp2_with fail
                    go_meet
                    case rel => exact ⟨rfl, Hfd7.out⟩
              case rest =>
                obtain ⟨rfl, hfc⟩ := hcut
                rename_i hKc
                refine hKc _ _ ?_
                clear hKc
                have Hf6 : Hid (Fr w wc (fun _ => False)) := Hf4.out.none hfc
                have Hr6 : Hid (RSc wc p s c) := Hf6.out.kept H.out (fun h => h)
                clear hfc Hf4 Hr4
                generalize wc = w6 at Hf6 Hr6 ⊢
                cases C with
                | true =>
                  have HC3 : Hid (n = 0 ∨ (1 < n ∧ chAt s c.pos = 48)) := by
                    show _ ∨ _
                    have h1 := HC.out.symm
                    rw [Bool.or_eq_true, Bool.and_eq_true, decide_eq_true_iff, decide_eq_true_iff, decide_eq_true_iff] at h1
                    exact h1
                  have CF := refFail21 p s c w6 Hr6.out
                  go_wp2_with fail
                  go_at_call 72
                  refine CF.mono ?_
                  rintro e w7 ⟨rfl, hr7, hf7⟩
                  have Hr7 : Hid (RSc w7 p s (scFail c 21)) := hr7
                  have Hf7 : Hid (Fr w w7 (fun k => k = p)) := (Hf6.out.mono (fun _ _ h => h.elim)).trans hf7 (fun _ _ h => h)
                  clear hr7 hf7 CF
                  have HD3 : Hid (D = scFail c 21) := by show _ = _; rw [HD2.out, ← Hf21.out]; exact if_pos HC3.out
                  have HO3 : Hid (O = 0) := by show _ = _; rw [HO2.out]; exact if_pos HC3.out
                  go_wp2_with fail
                  go_ret
                  rw [HO3.out, HD3.out]
                  exact ⟨rfl, Hr7.out, Hf7.out⟩
                | false =>
                  have HC3 : Hid (¬ (n = 0 ∨ (1 < n ∧ chAt s c.pos = 48))) := by
                    show ¬ _
                    intro h1
                    have h3 := HC.out.symm
                    rw [Bool.or_eq_false_iff, Bool.and_eq_false_iff, decide_eq_false_iff_not, decide_eq_false_iff_not, decide_eq_false_iff_not] at h3
                    obtain ⟨h4, h5⟩ := h3
                    rcases h1 with h1 | ⟨h1, h2⟩
                    · exact h4 h1
                    · rcases h5 with h5 | h5
                      · exact h5 h1
                      · exact h5 h2
                  obtain ⟨R, hR⟩ : ∃ R, R = numVal s c.pos most 0 0 n := ⟨_, rfl⟩
                  have HO5 : Hid (O = R.getD 0) := by show _ = _; rw [HO2.out, if_neg HC3.out, hR]
                  have HD5 : Hid (D = scEnd s c n R) := by show _ = _; rw [HD2.out, if_neg HC3.out, hR]
                  have HR : Hid _ := hR
                  clear HO2 HD2 HC HC3 hR
                  have HO2 := HO5
                  have HD2 := HD5
                  clear HO5 HD5
                  go_wp2_with fail
                  go_loopg [6, 7] n (fun g V I wr => ∃ (i v : Nat), g = n - i ∧ i ≤ n ∧ V = .int .u64 (v : Int) ∧ I = .int .i64 (i : Int) ∧ v ≤ most ∧ numVal s c.pos most i v (n - i) = R ∧ Fr w wr (fun _ => False))
                  case atStart => exact ⟨0, 0, by omega, by omega, rfl, rfl, by omega, HR.out.symm, Hf6.out⟩
                  case round =>
                    obtain ⟨i, v, hg, hi, rfl, rfl, hv, hst, hf⟩ := hrel
                    have Hg : Hid _ := hg
                    have Hst : Hid _ := hst
                    have Hf7 : Hid (Fr w wr (fun _ => False)) := hf
                    have Hr7 : Hid (RSc wr p s c) := hf.kept H.out (fun h => h)
                    clear hg hst hf
                    by_cases hlt : i < n
                    · have hin : (i : Int) < (n : Int) := by omega
                      have hin' : decide (i < n) = true := decide_eq_true hlt
                      have hwr2 : IntKind.i64.wrap ((c.pos : Int) + (i : Int)) = (c.pos : Int) + (i : Int) := IntWalk.i64_in _ (by omega)
                      have hix : ∀ z, (Instr.index 9 (.string s) (.int .i64 ((c.pos : Int) + (i : Int)))).run Tryz.prog z = .ok (.int .u8 (chAt s (c.pos + i) : Int)) z := fun z => index_any s (c.pos + i) (by omega) z
                      have hd1 := Hdig.out i hlt
                      have Hstep : Hid ((if most < chAt s (c.pos + i) - 48 ∨ (most - (chAt s (c.pos + i) - 48)) / 10 < v then none else numVal s c.pos most (i + 1) (10 * v + (chAt s (c.pos + i) - 48)) (n - (i + 1))) = R) := by
                        show _ = _
                        rw [← Hst.out, show n - i = (n - (i + 1)) + 1 by omega]
                        rfl
                      generalize chAt s (c.pos + i) = b at hix hd1 Hstep
                      unfold isDig at hd1
                      rw [Bool.and_eq_true, decide_eq_true_iff, decide_eq_true_iff] at hd1
                      obtain ⟨d, hd⟩ : ∃ d, d = b - 48 := ⟨_, rfl⟩
                      have hsub : IntKind.u8.wrap ((b : Int) - 48) = (d : Int) := by rw [IntWalk.u8_in _ (by omega)]; omega
                      have hcv : IntKind.u64.wrap (d : Int) = (d : Int) := IntWalk.u64_in _ (by omega)
                      rw [← hd] at Hstep
                      have hd9 : d ≤ 9 := by omega
                      clear hd hd1 Hst
                      have Hrd9 : Hid (RSc wr.drew p s c) := (Fr.refl wr (fun _ => False)).drew.kept Hr7.out (fun h => h)
                      have k0 : ∀ z, Fr wr.drew z (fun _ => False) → z.cell? ⟨p, 0, none⟩ = some (.string s) := fun z hz => (five_cells (hz.kept Hrd9.out (fun h => h))).1
                      have k1 : ∀ z, Fr wr.drew z (fun _ => False) → z.cell? ⟨p, 1, none⟩ = some (.int .i64 (c.pos : Int)) := fun z hz => (five_cells (hz.kept Hrd9.out (fun h => h))).2.1
                      have Hfd9 : Hid (Fr wr wr.drew (fun _ => False)) := (Fr.refl wr (fun _ => False)).drew
                      have Hf9 : Hid (Fr w wr.drew (fun _ => False)) := Hf7.out.drew
                      by_cases h1 : most < d
                      · have g1 : (most : Int) < (d : Int) := by omega
                        have g1' : decide (most < d) = true := decide_eq_true h1
                        have HR3 : Hid (R = none) := by show _ = _; rw [← Hstep.out]; exact if_pos (.inl h1)
                        clear Hstep
                        go_upto_region 16 with fail
                        refine wp_region_tree (fun _ => False) (.take 0 (.take 1 (.take 2 (.take 3 (.take 4 (.take 5 (.take 6 (.take 7 (.take 8 (.take 9 (.take 10 (.take 11 (.take 12 (.take 13 .nil)))))))))))))) (by kernel_rfl) (by kernel_rfl) (by decide) (by kernel_rfl) ?_
                        iterate 14 (refine wpT_take (v := ?_) rfl rfl (fun x hx => ?_) ?_; rotate_left; (focus (go_simp; with_reducible rfl)); simp only [Act.put, List.setIfInBounds_toArray, List.set_cons_zero, List.set_cons_succ])
                        unfold wpT
                        clear k0 k1
                        generalize wr.drew = w9 at Hrd9 Hf9 ⊢
                        have CF := refFail22 p s c w9 Hrd9.out
                        go_wp2_with fail
                        go_at_call 72
                        refine CF.mono ?_
                        rintro e w7 ⟨rfl, hr7, hf7⟩
                        have Hr7 : Hid (RSc w7 p s (scFail c 22)) := hr7
                        have Hf7 : Hid (Fr w w7 (fun k => k = p)) := (Hf9.out.mono (fun _ _ h => h.elim)).trans hf7 (fun _ _ h => h)
                        clear hr7 hf7 CF
                        have HD3 : Hid (D = scFail c 22) := by show _ = _; rw [HD2.out, ← Hf22.out]; rw [HR3.out]; rfl
                        have HO3 : Hid (O = 0) := by show _ = _; rw [HO2.out]; rw [HR3.out]; rfl
                        go_wp2_with fail
                        go_ret
                        rw [HO3.out, HD3.out]
                        exact ⟨rfl, Hr7.out, Hf7.out⟩
                      · have g1 : ¬ (most : Int) < (d : Int) := by omega
                        have g1' : decide (most < d) = false := decide_eq_false h1
                        obtain ⟨m, hmm⟩ : ∃ m, m = most - d := ⟨_, rfl⟩
                        have hsb : IntKind.u64.wrap ((most : Int) - (d : Int)) = (m : Int) := by rw [IntWalk.u64_in _ (by omega)]; omega
                        obtain ⟨q, hq⟩ : ∃ q, q = (most - d) / 10 := ⟨_, rfl⟩
                        have hdv : (m : Int) / 10 = (q : Int) := by omega
                        have hdv2 : (m : Int).tdiv 10 = (q : Int) := by rw [Int.tdiv_eq_ediv_of_nonneg (by omega)]; exact hdv
                        have Hq : Hid _ := hq
                        have Hmm : Hid _ := hmm
                        have hqm : 10 * q ≤ most - d := by omega
                        have Hqm : Hid _ := hqm
                        have hwq : IntKind.u64.wrap (q : Int) = (q : Int) := IntWalk.u64_in _ (by omega)
                        clear hq hmm hqm
                        by_cases h2 : q < v
                        · have g2 : (q : Int) < (v : Int) := by omega
                          have g2' : decide (q < v) = true := decide_eq_true h2
                          have HR3 : Hid (R = none) := by show _ = _; rw [← Hstep.out]; exact if_pos (.inr (by rw [← Hq.out]; exact h2))
                          clear Hstep
                          go_upto_region 16 with fail
                          refine wp_region_tree (fun _ => False) (.take 0 (.take 1 (.take 2 (.take 3 (.take 4 (.take 5 (.take 6 (.take 7 (.take 8 (.take 9 (.take 10 (.take 11 (.take 12 (.take 13 .nil)))))))))))))) (by kernel_rfl) (by kernel_rfl) (by decide) (by kernel_rfl) ?_
                          iterate 14 (refine wpT_take (v := ?_) rfl rfl (fun x hx => ?_) ?_; rotate_left; (focus (go_simp; with_reducible rfl)); simp only [Act.put, List.setIfInBounds_toArray, List.set_cons_zero, List.set_cons_succ])
                          unfold wpT
                          clear k0 k1
                          generalize wr.drew = w9 at Hrd9 Hf9 ⊢
                          have CF := refFail22 p s c w9 Hrd9.out
                          go_wp2_with fail
                          go_at_call 72
                          refine CF.mono ?_
                          rintro e w7 ⟨rfl, hr7, hf7⟩
                          have Hr7 : Hid (RSc w7 p s (scFail c 22)) := hr7
                          have Hf7 : Hid (Fr w w7 (fun k => k = p)) := (Hf9.out.mono (fun _ _ h => h.elim)).trans hf7 (fun _ _ h => h)
                          clear hr7 hf7 CF
                          have HD3 : Hid (D = scFail c 22) := by show _ = _; rw [HD2.out, ← Hf22.out]; rw [HR3.out]; rfl
                          have HO3 : Hid (O = 0) := by show _ = _; rw [HO2.out]; rw [HR3.out]; rfl
                          go_wp2_with fail
                          go_ret
                          rw [HO3.out, HD3.out]
                          exact ⟨rfl, Hr7.out, Hf7.out⟩
                        · have g2 : ¬ (q : Int) < (v : Int) := by omega
                          have g2' : decide (q < v) = false := decide_eq_false h2
                          have hqm := Hqm.out
                          have hmu : IntKind.u64.wrap (10 * (v : Int)) = 10 * (v : Int) := IntWalk.u64_in _ (by omega)
                          have had : IntKind.u64.wrap (10 * (v : Int) + (d : Int)) = ((10 * v + d : Nat) : Int) := by rw [IntWalk.u64_in _ (by omega)]; omega
                          have Hv3 : Hid (10 * v + d ≤ most) := by show _ ≤ _; omega
                          clear hqm
                          have Hst3 : Hid (numVal s c.pos most (i + 1) (10 * v + d) (n - (i + 1)) = R) := by show _ = _; rw [← Hstep.out]; exact (if_neg (by rw [← Hq.out]; omega)).symm
                          clear Hstep
                          go_upto_region 16 with fail
                          refine wp_region_tree (fun _ => False) (.take 0 (.take 1 (.take 2 (.take 3 (.take 4 (.take 5 (.take 6 (.take 7 (.take 8 (.take 9 (.take 10 (.take 11 (.take 12 (.take 13 .nil)))))))))))))) (by kernel_rfl) (by kernel_rfl) (by decide) (by kernel_rfl) ?_
                          iterate 14 (refine wpT_take (v := ?_) rfl rfl (fun x hx => ?_) ?_; rotate_left; (focus (go_simp; with_reducible rfl)); simp only [Act.put, List.setIfInBounds_toArray, List.set_cons_zero, List.set_cons_succ])
                          unfold wpT
                          clear k0 k1
                          generalize wr.drew = w9 at Hrd9 Hf9 ⊢
                          go_wp2_with fail
                          go_roundg (n - (i + 1))
                          case rel => exact ⟨i + 1, 10 * v + d, rfl, by omega, by go_num, by go_num, Hv3.out, Hst3.out, Hf9.out⟩
                          case measure => rw [Hg.out]; omega
                    · have hin : ¬ (i : Int) < (n : Int) := by omega
                      have hin' : decide (i < n) = false := decide_eq_false hlt
                      have HR3 : Hid (R = some v) := by show _ = _; rw [← Hst.out, show n - i = 0 by omega]; rfl
                      have CM := refMove_any p n s c wr Hr7.out Hok.out hn hs
                      go_wp2_with fail
                      go_at_call 73
                      refine CM.mono ?_
                      rintro e w8 ⟨rfl, hr8, hf8⟩
                      have Hr8 : Hid (RSc w8 p s (scMove s c n)) := hr8
                      have Hf8 : Hid (Fr w w8 (fun k => k = p)) := (Hf7.out.mono (fun _ _ h => h.elim)).trans hf8 (fun _ _ h => h)
                      clear hr8 hf8 CM
                      have HD3 : Hid (D = scMove s c n) := by show _ = _; rw [HD2.out, HR3.out]; rfl
                      have HO3 : Hid (O = v) := by show _ = _; rw [HO2.out, HR3.out]; rfl
                      go_wp2_with fail
                      go_ret
                      rw [HO3.out, HD3.out]
                      exact ⟨rfl, Hr8.out, Hf8.out⟩
  · have hb : ((c.err : Int) == 0) = false := by rw [beq_eq_false_iff_ne]; omega
    have hb' : (c.err == 0) = false := by rw [beq_eq_false_iff_ne]; exact he
    have hbn : ((c.err : Int) != 0) = true := by rw [bne_iff_ne]; omega
    have HO2 : Hid (O = 0) := by show _ = _; rw [HO.out]; unfold scNumVal; rw [if_neg he]
    have HD2 : Hid (D = c) := by show _ = _; rw [HD.out]; unfold scNum; rw [if_neg he]
    go_enter Tryz.func42, Tryz.ntmps42
    go_wp2_with fail
    go_ret
    rw [HO2.out, HD2.out]
    exact ⟨rfl, H.out, Fr.refl _ _⟩

end Go.Proofs.YtnffjafddbbjaaaGreatDoor

/-
  The reference scanner's looks at a text.
-/
namespace Go.Proofs.YtnffjafddbbjaaaGreatDoor
open Go.RowKit

set_option maxRecDepth 4000 in
set_option maxHeartbeats 1600000 in
theorem refNext_any (p : Nat) (s : ByteArray) (c : Sc) (w : World) (h : RSc w p s c) : Calls Tryz.prog 43 #[.pointer (some ⟨p, 0, none⟩)] w fun r w' => r = .returned (.tuple #[.int .u8 ((scNext s c).1 : Int), .bool (scNext s c).2]) ∧ Fr w w' (fun _ => False) := by
  obtain ⟨⟨B, O⟩, hR⟩ : ∃ R, R = scNext s c := ⟨_, rfl⟩
  rw [← hR]
  have HR : Hid _ := hR
  have H : Hid (RSc w p s c) := h
  have Hf1 : Hid (Fr w w.drew (fun _ => False)) := (Fr.refl w (fun _ => False)).drew
  have k0 : ∀ z, Fr w.drew z (fun _ => False) → z.cell? ⟨p, 0, none⟩ = some (.string s) := fun z hz => (five_cells ((Hf1.out.none hz).kept H.out (fun h => h))).1
  have k1 : ∀ z, Fr w.drew z (fun _ => False) → z.cell? ⟨p, 1, none⟩ = some (.int .i64 (c.pos : Int)) := fun z hz => (five_cells ((Hf1.out.none hz).kept H.out (fun h => h))).2.1
  have k4 : ∀ z, Fr w.drew z (fun _ => False) → z.cell? ⟨p, 4, none⟩ = some (.int .i64 (c.err : Int)) := fun z hz => (five_cells ((Hf1.out.none hz).kept H.out (fun h => h))).2.2.2.2
  clear hR h
  by_cases he : c.err = 0
  · have hb : ((c.err : Int) == 0) = true := by rw [beq_iff_eq]; omega
    have hb' : (c.err == 0) = true := by rw [beq_iff_eq]; exact he
    by_cases hlt : c.pos < s.size
    · have hge : decide ((s.size : Int) ≤ (c.pos : Int)) = false := by rw [decide_eq_false_iff_not]; omega
      have hge' : decide (s.size ≤ c.pos) = false := by rw [decide_eq_false_iff_not]; omega
      have HR2 : Hid ((B, O) = (chAt s c.pos, true)) := by show _ = _; rw [HR.out]; exact if_pos ⟨he, hlt⟩
      have hidx : ∀ z, (Instr.index 9 (.string s) (.int .i64 (c.pos : Int))).run Tryz.prog z = .ok (.int .u8 (chAt s c.pos : Int)) z := fun z => index_any s c.pos hlt z
      generalize chAt s c.pos = b at hidx HR2
      go_enter Tryz.func43, Tryz.ntmps43
      go_wp2_with fail
      refine wp_region_tree (fun _ => False) (.take 0 (.take 1 (.take 2 (.take 3 (.take 4 (.take 5 (.take 6 (.take 7 (.take 8 (.take 9 (.take 10 (.take 11 (.take 12 (.take 13 (.take 14 (.take 15 (.take 16 .nil))))))))))))))))) (by kernel_rfl) (by kernel_rfl) (by decide) (by kernel_rfl) ?_
      iterate 17 (refine wpT_take (v := ?_) rfl rfl (fun x hx => ?_) ?_; rotate_left; (focus (go_simp; with_reducible rfl)); simp only [Act.put, List.setIfInBounds_toArray, List.set_cons_zero, List.set_cons_succ])
      unfold wpT
      go_wp2_with fail
      have k0d : ∀ z, Fr w.drew.drew z (fun _ => False) → z.cell? ⟨p, 0, none⟩ = some (.string s) := fun z hz => k0 z ((Fr.refl w.drew (fun _ => False)).drew.none hz)
      have k1d : ∀ z, Fr w.drew.drew z (fun _ => False) → z.cell? ⟨p, 1, none⟩ = some (.int .i64 (c.pos : Int)) := fun z hz => k1 z ((Fr.refl w.drew (fun _ => False)).drew.none hz)
      refine wp_region_tree (fun _ => False) (.take 0 (.take 1 (.take 2 (.take 3 (.take 4 (.take 5 (.take 6 (.take 7 (.take 8 (.take 9 (.take 10 .nil))))))))))) (by kernel_rfl) (by kernel_rfl) (by decide) (by kernel_rfl) ?_
      iterate 11 (refine wpT_take (v := ?_) rfl rfl (fun x hx => ?_) ?_; rotate_left; (focus (go_simp; with_reducible rfl)); simp only [Act.put, List.setIfInBounds_toArray, List.set_cons_zero, List.set_cons_succ])
      unfold wpT
      go_wp2_with fail
      go_ret2
      cases HR2.out
      exact ⟨rfl, Hf1.out.drew⟩
    · have hge : decide ((s.size : Int) ≤ (c.pos : Int)) = true := by rw [decide_eq_true_iff]; omega
      have hge' : decide (s.size ≤ c.pos) = true := by rw [decide_eq_true_iff]; omega
      have HR2 : Hid ((B, O) = (0, false)) := by show _ = _; rw [HR.out]; exact if_neg (fun h => hlt h.2)
      go_enter Tryz.func43, Tryz.ntmps43
      go_wp2_with fail
      refine wp_region_tree (fun _ => False) (.take 0 (.take 1 (.take 2 (.take 3 (.take 4 (.take 5 (.take 6 (.take 7 (.take 8 (.take 9 (.take 10 (.take 11 (.take 12 (.take 13 (.take 14 (.take 15 (.take 16 .nil))))))))))))))))) (by kernel_rfl) (by kernel_rfl) (by decide) (by kernel_rfl) ?_
      iterate 17 (refine wpT_take (v := ?_) rfl rfl (fun x hx => ?_) ?_; rotate_left; (focus (go_simp; with_reducible rfl)); simp only [Act.put, List.setIfInBounds_toArray, List.set_cons_zero, List.set_cons_succ])
      unfold wpT
      go_wp2_with fail
      go_ret2
      cases HR2.out
      exact ⟨rfl, Hf1.out⟩
  · have hb : ((c.err : Int) == 0) = false := by rw [beq_eq_false_iff_ne]; omega
    have hb' : (c.err == 0) = false := by rw [beq_eq_false_iff_ne]; exact he
    have hbn : ((c.err : Int) != 0) = true := by rw [bne_iff_ne]; omega
    have HR2 : Hid ((B, O) = (0, false)) := by show _ = _; rw [HR.out]; exact if_neg (fun h => he h.1)
    go_enter Tryz.func43, Tryz.ntmps43
    go_wp2_with fail
    refine wp_region_tree (fun _ => False) (.take 0 (.take 1 (.take 2 (.take 3 (.take 4 (.take 5 (.take 6 (.take 7 (.take 8 (.take 9 (.take 10 (.take 11 (.take 12 (.take 13 (.take 14 (.take 15 (.take 16 .nil))))))))))))))))) (by kernel_rfl) (by kernel_rfl) (by decide) (by kernel_rfl) ?_
    iterate 6 (refine wpT_take (v := ?_) rfl rfl (fun x hx => ?_) ?_; rotate_left; (focus (go_simp; with_reducible rfl)); simp only [Act.put, List.setIfInBounds_toArray, List.set_cons_zero, List.set_cons_succ])
    iterate 10 (refine wpT_pass rfl rfl ?_; simp only [Act.put, List.setIfInBounds_toArray, List.set_cons_zero, List.set_cons_succ])
    (refine wpT_take (v := ?_) rfl rfl (fun x hx => ?_) ?_; rotate_left; (focus (go_simp; with_reducible rfl)); simp only [Act.put, List.setIfInBounds_toArray, List.set_cons_zero, List.set_cons_succ])
    unfold wpT
    go_wp2_with fail
    go_ret2
    cases HR2.out
    exact ⟨rfl, Hf1.out⟩

end Go.Proofs.YtnffjafddbbjaaaGreatDoor

/-
  The contracts of the reference scanner's edge and event (a line of a log).
-/
namespace Go.Proofs.YtnffjafddbbjaaaGreatDoor
open Go.RowKit

theorem refNumV (p : Nat) (s : ByteArray) (c : Sc) (w : World) (h : RSc w p s c) (hok : ScOk s c) (hs : s.size ≤ 1000000000) : Calls Tryz.prog 42 #[.pointer (some ⟨p, 0, none⟩), .int .u64 4294967295] w fun r w' => r = .returned (.int .u64 (scNumVal s maxV c : Int)) ∧ RSc w' p s (scNum s maxV c) ∧ Fr w w' (fun k => k = p) :=
  refNumber_any p 4294967295 s c w h hok hs (by decide)
theorem refNumN (p : Nat) (s : ByteArray) (c : Sc) (w : World) (h : RSc w p s c) (hok : ScOk s c) (hs : s.size ≤ 1000000000) : Calls Tryz.prog 42 #[.pointer (some ⟨p, 0, none⟩), .int .u64 4294967296] w fun r w' => r = .returned (.int .u64 (scNumVal s maxN c : Int)) ∧ RSc w' p s (scNum s maxN c) ∧ Fr w w' (fun k => k = p) :=
  refNumber_any p 4294967296 s c w h hok hs (by decide)
theorem refNumT (p : Nat) (s : ByteArray) (c : Sc) (w : World) (h : RSc w p s c) (hok : ScOk s c) (hs : s.size ≤ 1000000000) : Calls Tryz.prog 42 #[.pointer (some ⟨p, 0, none⟩), .int .u64 4611686018427387903] w fun r w' => r = .returned (.int .u64 (scNumVal s maxT c : Int)) ∧ RSc w' p s (scNum s maxT c) ∧ Fr w w' (fun k => k = p) :=
  refNumber_any p 4611686018427387903 s c w h hok hs (by decide)
theorem refB (b : Nat) (b' : Int) (hb : (b : Int) = b') (p : Nat) (s : ByteArray) (c : Sc) (w : World) (h : RSc w p s c) (hok : ScOk s c) (hs : s.size ≤ 1000000000) : Calls Tryz.prog 41 #[.pointer (some ⟨p, 0, none⟩), .int .u8 b'] w fun r w' => r = .returned (.bool (scByteOk s b c)) ∧ RSc w' p s (scByte s b c) ∧ Fr w w' (fun k => k = p) := by
  subst hb
  exact refByte_any p b s c w h hok hs

set_option maxRecDepth 4000 in
set_option maxHeartbeats 1600000 in
theorem refEdge_any (p : Nat) (s : ByteArray) (c : Sc) (w : World) (h : RSc w p s c) (hok : ScOk s c) (hs : s.size ≤ 1000000000) : Calls Tryz.prog 76 #[.pointer (some ⟨p, 0, none⟩)] w fun r w' =>
    r = .returned (edgeV (scNumVal s maxV c, scNumVal s maxV (scByte s 32 (scNum s maxV c)))) ∧ RSc w' p s (scNum s maxV (scByte s 32 (scNum s maxV c))) ∧ Fr w w' (fun k => k = p) := by
  obtain ⟨U, hU⟩ : ∃ x, x = scNumVal s maxV c := ⟨_, rfl⟩
  obtain ⟨c1, hc1⟩ : ∃ x, x = scNum s maxV c := ⟨_, rfl⟩
  obtain ⟨c2, hc2⟩ : ∃ x, x = scByte s 32 c1 := ⟨_, rfl⟩
  obtain ⟨V, hV⟩ : ∃ x, x = scNumVal s maxV c2 := ⟨_, rfl⟩
  obtain ⟨c3, hc3⟩ : ∃ x, x = scNum s maxV c2 := ⟨_, rfl⟩
  have Ok1 : Hid (ScOk s c1) := by show ScOk _ _; rw [hc1]; exact scNum_ok hok _
  have Ok2 : Hid (ScOk s c2) := by show ScOk _ _; rw [hc2]; exact scByte_ok Ok1.out _
  have HU : Hid (U ≤ 4294967295) := by show _ ≤ _; rw [hU]; exact scNumVal_le s maxV c
  have HV : Hid (V ≤ 4294967295) := by show _ ≤ _; rw [hV]; exact scNumVal_le s maxV c2
  have k1 := fun z hz => refNumV p s c z hz hok hs
  have k2 := fun z hz => refB 32 32 rfl p s c1 z hz Ok1.out hs
  have k3 := fun z hz => refNumV p s c2 z hz Ok2.out hs
  rw [← hc1, ← hc2, ← hU, ← hV, ← hc3]
  rw [← hU, ← hc1] at k1
  rw [← hc2] at k2
  rw [← hV, ← hc3] at k3
  obtain ⟨O2, hO2⟩ : ∃ x, x = scByteOk s 32 c1 := ⟨_, rfl⟩
  rw [← hO2] at k2
  have H : Hid (RSc w p s c) := h
  unfold edgeV
  dsimp only
  clear hU hV hc1 hc2 hc3 hO2 h
  go_enter Tryz.func76, Tryz.ntmps76
  go_upto_region 1 with fail
  obtain ⟨q, hq⟩ : ∃ q, q = w.heap.size := ⟨_, rfl⟩
  obtain ⟨w1, hw1⟩ : ∃ x, x = w.alloc (.cells #[.int .u32 0, .int .u32 0] 58) := ⟨_, rfl⟩
  rw [← hw1, ← hq]
  have Hq : Hid (w1.heap[q]? = some (.cells #[.int .u32 0, .int .u32 0] 58 (0, 0))) := by show _ = _; rw [hw1, hq]; exact heap_alloc_new _ _
  have Hw1 : Hid (Fr w w1 (fun k => k = p)) := by show Fr _ _ _; rw [hw1]; exact (Fr.refl _ _).alloc _
  have Hqp : Hid (q ≠ p ∧ w.heap.size ≤ q) := ⟨fun e => by have := lt_of_block H.out; omega, by omega⟩
  have Hr1 : Hid (RSc w1 p s c) := by show RSc _ _ _ _; rw [hw1]; exact blk_alloc _ H.out
  clear hq hw1
  have k1' := k1 w1 Hr1.out
  clear k1
  go_wp2_with fail
  refine k1'.mono ?_
  rintro r w2 ⟨rfl, r2, f2⟩
  have Hr2 : Hid (RSc w2 p s c1) := r2
  have Hq2 : Hid (w2.heap[q]? = some (.cells #[.int .u32 0, .int .u32 0] 58 (0, 0))) := f2.kept Hq.out Hqp.out.1
  have Hf2 : Hid (Fr w w2 (fun k => k = p)) := Hw1.out.trans f2 (fun _ _ h => h)
  clear k1' r2 f2
  have k2' := k2 w2 Hr2.out
  clear k2
  go_wp2_with fail
  refine k2'.mono ?_
  rintro r w3 ⟨rfl, r3, f3⟩
  have Hr3 : Hid (RSc w3 p s c2) := r3
  have Hq3 : Hid (w3.heap[q]? = some (.cells #[.int .u32 0, .int .u32 0] 58 (0, 0))) := f3.kept Hq2.out Hqp.out.1
  have Hf3 : Hid (Fr w w3 (fun k => k = p)) := Hf2.out.trans f3 (fun _ _ h => h)
  clear k2' r3 f3
  have k3' := k3 w3 Hr3.out
  clear k3
  have wU : IntKind.u32.wrap (U : Int) = (U : Int) := by rw [IntKind.wrap_u32]; have := HU.out; omega
  have wV : IntKind.u32.wrap (V : Int) = (V : Int) := by rw [IntKind.wrap_u32]; have := HV.out; omega
  go_wp2_with fail
  refine k3'.mono ?_
  rintro r w4 ⟨rfl, r4, f4⟩
  have Hr4 : Hid (RSc w4 p s c3) := r4
  have Hq4 : Hid (w4.heap[q]? = some (.cells #[.int .u32 0, .int .u32 0] 58 (0, 0))) := f4.kept Hq3.out Hqp.out.1
  have Hf4 : Hid (Fr w w4 (fun k => k = p)) := Hf3.out.trans f4 (fun _ _ h => h)
  clear k3' r4 f4
  obtain ⟨z0, z1⟩ : w4.cell? ⟨q, 0, none⟩ = some (.int .u32 0) ∧ w4.cell? ⟨q, 1, none⟩ = some (.int .u32 0) := ⟨two_cell0 Hq4.out, two_cell1 Hq4.out⟩
  have y0 : w4.frozen? ⟨q, 0, none⟩ = false := two_free Hq4.out 0
  have y1 : w4.frozen? ⟨q, 1, none⟩ = false := two_free Hq4.out 1
  have Hrow : Hid _ := two_set1 (two_set0 Hq4.out (u := .int .u32 (U : Int))) (u := .int .u32 (V : Int))
  have hfz : Fr w4 ((w4.setCell ⟨q, 0, none⟩ (.int .u32 (U : Int))).setCell ⟨q, 1, none⟩ (.int .u32 (V : Int))) (fun k => k = q) := (fr_put _ _ _ _).trans (fr_put _ _ _ _) (fun _ _ h => h)
  have Hr5 : Hid (RSc ((w4.setCell ⟨q, 0, none⟩ (.int .u32 (U : Int))).setCell ⟨q, 1, none⟩ (.int .u32 (V : Int))) p s c3) := hfz.kept Hr4.out (fun h => Hqp.out.1 h.symm)
  have Hf5 : Hid (Fr w ((w4.setCell ⟨q, 0, none⟩ (.int .u32 (U : Int))).setCell ⟨q, 1, none⟩ (.int .u32 (V : Int))) (fun k => k = p)) := Hf4.out.newer hfz (fun k hk => by rw [hk]; exact Hqp.out.2)
  clear hfz
  go_wp2
  refine bodyPost_ret (results_cell1 rfl rfl (run_loadVar_row _ _ 58 _ _ (0, 0) _ Hrow.out Tryz.underlying58 rfl edgeSize2)) rfl ?_
  exact ⟨rfl, Hr5.out, Hf5.out⟩

end Go.Proofs.YtnffjafddbbjaaaGreatDoor

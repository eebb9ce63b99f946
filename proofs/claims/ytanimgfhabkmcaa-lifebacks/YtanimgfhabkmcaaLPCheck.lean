/-
  The contract of life's Check.
-/
import Derived.Test.YtanimgfhabkmcaaLPWrong
namespace Go.Proofs.Ytanimgfhabkmcaa
open Go.RowKit

theorem lchk_wrong {n : Nat} {pv : Option Lf} {i : Nat} {x : Lf} {r : List Lf} (h : lwrongF n pv x ≠ 0) : lchkF n pv i (x :: r) = (i, lwrongF n pv x) := by
  unfold lwrongF at h ⊢
  rw [lchkF]
  split
  · rfl
  · split
    · rfl
    · split
      · rfl
      · split
        · rfl
        · rename_i h1 h2 h3 h4
          rw [if_neg h1, if_neg h2, if_neg h3, if_neg h4] at h
          exact absurd rfl h
theorem lchk_fine {n : Nat} {pv : Option Lf} {i : Nat} {x : Lf} {r : List Lf} (h : lwrongF n pv x = 0) : lchkF n pv i (x :: r) = lchkF n (some x) (i + 1) r := by
  unfold lwrongF at h
  rw [lchkF]
  split at h
  · cases h
  · rename_i h1
    rw [if_neg h1]
    split at h
    · cases h
    · rename_i h2
      rw [if_neg h2]
      split at h
      · cases h
      · rename_i h3
        rw [if_neg h3]
        split at h
        · cases h
        · rename_i h4
          rw [if_neg h4]
theorem lwrong_le (n : Nat) (pv : Option Lf) (x : Lf) : lwrongF n pv x ≤ 26 := by
  unfold lwrongF
  repeat' split
  all_goals omega
theorem prevL_succ {l : List Lf} {i : Nat} {x : Lf} (h : l[i]? = some x) : prevL l (i + 1) = some x := h

set_option maxRecDepth 4000 in
set_option maxHeartbeats 1600000 in
theorem lcheck_any (n : Nat) (v : Value) (l : List Lf) (w : World) (h : RdL w v l) (hl : l.length ≤ 400000) (hfit : ∀ x ∈ l, LfFit x) : Calls Try.prog 15 #[.int .u64 (n : Int), v] w fun r w' => r = .returned (.tuple #[.int .i64 ((lifeCheckF n l).1 : Int), .int .i64 ((lifeCheckF n l).2 : Int)]) ∧ Fr w w' (fun _ => False) := by
  have hct := count_any v l w h hl
  obtain ⟨a0, c0, rfl, hc0⟩ := h.form
  obtain ⟨m, hm⟩ : ∃ m, m = l.length := ⟨_, rfl⟩
  rw [← hm] at h hl hc0 hct ⊢
  obtain ⟨⟨R1, R2⟩, hR⟩ : ∃ R, R = lifeCheckF n l := ⟨_, rfl⟩
  rw [← hR]
  have HR : Hid _ := hR
  have Hr : Hid (RdL w (.slice a0 m c0) l) := h
  have Hm : Hid _ := hm
  have Hl : Hid (l.length ≤ 1000000) := by show _ ≤ _; omega
  have Hcl : Hid (m + cntL l ≤ 1000000) := by show _ ≤ _; have := cntL_le l; omega
  have Hfit : Hid _ := hfit
  clear h hm hR hfit
  dsimp only
  go_enter Try.func15, Try.ntmps15
  go_wp2_with fail
  refine hct.mono ?_
  rintro r w1 ⟨rfl, hf1⟩
  have Hf1 : Hid (Fr w w1 (fun _ => False)) := hf1
  clear hct hf1
  go_wp2_with fail
  refine (lfits_any n (m + cntL l) w1 Hcl.out).mono ?_
  by_cases hn : 4294967296 < n
  · have Hres : Hid ((R1, R2) = (0, 26)) := by show _ = _; rw [HR.out]; unfold lifeCheckF; exact if_pos hn
    rw [decide_eq_false (by omega)]
    rintro r w2 ⟨rfl, g⟩
    have Hfo : Hid (Fr w w2 (fun _ => False)) := Hf1.out.none g
    clear g
    simp only [Prod.mk.injEq] at Hres
    obtain ⟨rfl, rfl⟩ := Hres.out
    go_wp2
    go_ret2
    exact ⟨rfl, Hfo.out⟩
  rw [decide_eq_true (by omega)]
  rintro r w2 ⟨rfl, g⟩
  have Hf2 : Hid (Fr w w2 (fun _ => False)) := Hf1.out.none g
  have Hst : Hid (lchkF n none 0 l = (R1, R2)) := by show _ = _; rw [HR.out]; unfold lifeCheckF; rw [if_neg hn]
  clear hn HR g
  go_wp2_with fail
  go_loopg [15] m (fun g I wr => ∃ i : Nat, g = m - i ∧ i ≤ m ∧ I = .int .i64 (i : Int) ∧ lchkF n (prevL l i) i (l.drop i) = (R1, R2) ∧ Fr w wr (fun _ => False))
  case atStart => exact ⟨0, by omega, by omega, rfl, Hst.out, Hf2.out⟩
  case round =>
    obtain ⟨i, hg, hi, rfl, hst, hf⟩ := hrel
    have Hg : Hid _ := hg
    have Hs : Hid _ := hst
    have Hf : Hid (Fr w wr (fun _ => False)) := hf
    clear hg hst hf
    by_cases hlt : i < m
    · have hin : (i : Int) < (m : Int) := by omega
      have hin' : decide (i < m) = true := decide_eq_true hlt
      obtain ⟨x, ha⟩ : ∃ a, l[i]? = some a := ⟨_, List.getElem?_eq_getElem (by rw [← Hm.out]; omega)⟩
      have hw := lwrong_any n (.slice a0 m c0) l i x wr (Hr.out.keep Hf.out) Hl.out (Hfit.out _ (List.mem_of_getElem? ha)) ha
      have Hst2 : Hid (lchkF n (prevL l i) i (x :: l.drop (i + 1)) = (R1, R2)) := by show _ = _; rw [← Hs.out, drop_at ha]
      have Hpv : Hid (prevL l (i + 1) = some x) := prevL_succ ha
      obtain ⟨W, hW⟩ : ∃ W, W = lwrongF n (prevL l i) x := ⟨_, rfl⟩
      have HW : Hid _ := hW
      rw [← hW] at hw
      have hWb : W ≤ 26 := by rw [hW]; exact lwrong_le _ _ _
      clear ha hW Hs
      go_wp2_with fail
      refine hw.mono ?_
      rintro r w3 ⟨rfl, g⟩
      have Hf3 : Hid (Fr w w3 (fun _ => False)) := Hf.out.none g
      clear g hw
      by_cases h0 : W = 0
      · have Hst3 : Hid (lchkF n (prevL l (i + 1)) (i + 1) (l.drop (i + 1)) = (R1, R2)) := by show _ = _; rw [Hpv.out, ← Hst2.out]; exact (lchk_fine (HW.out.symm.trans h0)).symm
        subst h0
        go_wp2_with fail
        go_roundg (m - (i + 1))
        case rel => exact ⟨i + 1, rfl, by omega, by go_num, Hst3.out, Hf3.out⟩
        case measure => rw [Hg.out]; omega
      · have h0i : ((W : Int) == 0) = false := by rw [beq_eq_false_iff_ne]; omega
        have h0j : ((W : Int) != 0) = true := by rw [bne_iff_ne]; omega
        have Hst3 : Hid ((R1, R2) = (i, W)) := by show _ = _; rw [← Hst2.out, lchk_wrong (by rw [← HW.out]; exact h0), ← HW.out]
        simp only [Prod.mk.injEq] at Hst3
        obtain ⟨rfl, rfl⟩ := Hst3.out
        clear Hst3 h0
        go_wp2
        go_ret2
        exact ⟨rfl, Hf3.out⟩
    · have hin : ¬ (i : Int) < (m : Int) := by omega
      have hin' : decide (i < m) = false := decide_eq_false hlt
      have Hres : Hid ((R1, R2) = (0, 0)) := by
        show _ = _
        rw [← Hs.out, List.drop_eq_nil_of_le (by rw [← Hm.out]; omega)]
        rfl
      simp only [Prod.mk.injEq] at Hres
      obtain ⟨rfl, rfl⟩ := Hres.out
      clear Hres
      go_wp2
      go_ret2
      exact ⟨rfl, Hf.out⟩

end Go.Proofs.Ytanimgfhabkmcaa

/-
  The reference scanner's words.
-/
import Derived.Test.YtchkojdpnbecoaaDoorTScan
namespace Go.Proofs.YtchkojdpnbecoaaDoor
open Go.RowKit

/-- What is wrong with a word at a place: 0, nothing; else the error. -/
def wordErr (s v : ByteArray) (pos : Nat) : Nat → Nat → Nat
  | _, 0 => 0
  | i, n + 1 => if s.size ≤ pos + i then 20 else if chAt s (pos + i) = chAt v i then wordErr s v pos (i + 1) n else 21
theorem wordErr_fits (s v : ByteArray) (pos : Nat) : ∀ (n i : Nat), pos + i ≤ s.size → wordErr s v pos i n = 0 → pos + i + n ≤ s.size
  | 0, i, h, _ => by omega
  | n + 1, i, h, he => by
    rw [wordErr] at he
    split at he
    · omega
    · split at he
      · have := wordErr_fits s v pos n (i + 1) (by omega) he
        omega
      · omega
theorem wordErr_or (s v : ByteArray) (pos : Nat) : ∀ (n i : Nat), wordErr s v pos i n = 0 ∨ wordErr s v pos i n = 20 ∨ wordErr s v pos i n = 21
  | 0, i => .inl rfl
  | n + 1, i => by
    rw [wordErr]
    split
    · exact .inr (.inl rfl)
    · split
      · exact wordErr_or s v pos n (i + 1)
      · exact .inr (.inr rfl)
def scWordOk (s v : ByteArray) (c : Sc) : Bool := c.err == 0 && wordErr s v c.pos 0 v.size == 0
def scWord (s v : ByteArray) (c : Sc) : Sc := if c.err = 0 then (if wordErr s v c.pos 0 v.size = 0 then scMove s c v.size else { c with err := wordErr s v c.pos 0 v.size }) else c

theorem refFail20 (p : Nat) (s : ByteArray) (c : Sc) (w : World) (h : RSc w p s c) : Calls Tryd.prog 21 #[.pointer (some ⟨p, 0, none⟩), .int .i64 20] w fun r w' => r = .returned (.tuple #[]) ∧ RSc w' p s (scFail c 20) ∧ Fr w w' (fun k => k = p) := refFail_any p 20 s c w h
theorem refFail21 (p : Nat) (s : ByteArray) (c : Sc) (w : World) (h : RSc w p s c) : Calls Tryd.prog 21 #[.pointer (some ⟨p, 0, none⟩), .int .i64 21] w fun r w' => r = .returned (.tuple #[]) ∧ RSc w' p s (scFail c 21) ∧ Fr w w' (fun k => k = p) := refFail_any p 21 s c w h
theorem refFail22 (p : Nat) (s : ByteArray) (c : Sc) (w : World) (h : RSc w p s c) : Calls Tryd.prog 21 #[.pointer (some ⟨p, 0, none⟩), .int .i64 22] w fun r w' => r = .returned (.tuple #[]) ∧ RSc w' p s (scFail c 22) ∧ Fr w w' (fun k => k = p) := refFail_any p 22 s c w h

set_option maxRecDepth 4000 in
set_option maxHeartbeats 3200000 in
theorem refWord_any (p : Nat) (s v : ByteArray) (c : Sc) (w : World) (h : RSc w p s c) (hok : ScOk s c) (hs : s.size ≤ 1000000000) (hv : v.size ≤ 1000000000) : Calls Tryd.prog 15 #[.pointer (some ⟨p, 0, none⟩), .string v] w fun r w' => r = .returned (.bool (scWordOk s v c)) ∧ RSc w' p s (scWord s v c) ∧ Fr w w' (fun k => k = p) := by
  have H : Hid (RSc w p s c) := h
  have Hok : Hid (ScOk s c) := hok
  have hpos : c.pos ≤ 1000000000 := by unfold ScOk at hok; omega
  have Hpos : Hid (c.pos ≤ s.size) := hok.1
  obtain ⟨O, hO⟩ : ∃ O, O = scWordOk s v c := ⟨_, rfl⟩
  obtain ⟨D, hD⟩ : ∃ D, D = scWord s v c := ⟨_, rfl⟩
  rw [← hO, ← hD]
  have HO : Hid _ := hO
  have HD : Hid _ := hD
  obtain ⟨k0, k1, k2, k3, k4⟩ := five_cells h
  clear h hok hO hD
  by_cases he : c.err = 0
  · have hb : ((c.err : Int) == 0) = true := by rw [beq_iff_eq]; omega
    have hb' : (c.err == 0) = true := by rw [beq_iff_eq]; exact he
    obtain ⟨E, hE⟩ : ∃ E, E = wordErr s v c.pos 0 v.size := ⟨_, rfl⟩
    have HO2 : Hid (O = (E == 0)) := by show _ = _; rw [HO.out, hE]; unfold scWordOk; rw [hb']; rfl
    have HD2 : Hid (D = if E = 0 then scMove s c v.size else { c with err := E }) := by show _ = _; rw [HD.out, hE]; unfold scWord; rw [if_pos he]
    have HE : Hid _ := hE
    clear hE
    go_enter Tryd.func15, Tryd.ntmps15
    go_wp2_with fail
    go_loopg [5] v.size (fun g I wr => ∃ (i : Nat), g = v.size - i ∧ i ≤ v.size ∧ I = .int .i64 (i : Int) ∧ wordErr s v c.pos i (v.size - i) = E ∧ Fr w wr (fun _ => False) ∧ c.pos + i ≤ s.size)
    case atStart => exact ⟨0, by omega, by omega, rfl, HE.out.symm, Fr.refl _ _, Hpos.out⟩
    case round =>
      obtain ⟨i, hg, hi, rfl, hw, hf, hpi⟩ := hrel
      have Hg : Hid _ := hg
      have Hw : Hid _ := hw
      have Hf : Hid (Fr w wr (fun _ => False)) := hf
      have Hpi : Hid _ := hpi
      have Hr : Hid (RSc wr p s c) := hf.kept H.out (fun h => h)
      have Hrd : Hid (RSc wr.drew p s c) := hf.drew.kept H.out (fun h => h)
      clear hg hw hf hpi k0 k1 k2 k3 k4
      by_cases hlt : i < v.size
      · have hin : (i : Int) < (v.size : Int) := by omega
        have hin' : decide (i < v.size) = true := decide_eq_true hlt
        obtain ⟨m, hm⟩ : ∃ m, v.size - i = m + 1 := ⟨v.size - (i + 1), by omega⟩
        have Hstep : Hid ((if s.size ≤ c.pos + i then 20 else if chAt s (c.pos + i) = chAt v i then wordErr s v c.pos (i + 1) m else 21) = E) := by show _ = _; rw [← Hw.out, hm]; rfl
        have Hm : Hid (m = v.size - (i + 1)) := by show _ = _; omega
        clear hm
        have k0 : ∀ z, Fr wr.drew z (fun _ => False) → z.cell? ⟨p, 0, none⟩ = some (.string s) := fun z hz => (five_cells (hz.kept Hrd.out (fun h => h))).1
        have k1 : ∀ z, Fr wr.drew z (fun _ => False) → z.cell? ⟨p, 1, none⟩ = some (.int .i64 (c.pos : Int)) := fun z hz => (five_cells (hz.kept Hrd.out (fun h => h))).2.1
        have Hf1 : Hid (Fr w wr.drew (fun _ => False)) := Hf.out.drew
        have hwr : IntKind.i64.wrap ((c.pos : Int) + (i : Int)) = (c.pos : Int) + (i : Int) := IntWalk.i64_in _ (by omega)
        by_cases hend : s.size ≤ c.pos + i
        · have HE2 : Hid (E = 20) := by show _ = _; rw [← Hstep.out, if_pos hend]
          have hge : decide ((s.size : Int) ≤ (c.pos : Int) + (i : Int)) = true := by rw [decide_eq_true_iff]; omega
          have hge' : (s.size : Int) ≤ (c.pos : Int) + (i : Int) := by omega
          have hge2 : decide (s.size ≤ c.pos + i) = true := by rw [decide_eq_true_iff]; omega
          clear hend
          go_upto_region 6 with fail
          refine wp_region_tree (fun _ => False) (.take 0 (.take 1 (.take 2 (.take 3 (.take 4 (.take 5 (.take 6 (.take 7 (.take 8 (.take 9 (.take 10 (.take 11 .nil)))))))))))) (by kernel_rfl) (by kernel_rfl) (by decide) (by kernel_rfl) ?_
          iterate 12 (refine wpT_take (v := ?_) rfl rfl (fun x hx => ?_) ?_; rotate_left; (focus (go_simp; with_reducible rfl)); simp only [Act.put, List.setIfInBounds_toArray, List.set_cons_zero, List.set_cons_succ])
          unfold wpT
          clear k0 k1
          generalize wr.drew = wd at Hrd Hf1 ⊢
          have C20 := refFail20 p s c wd Hrd.out
          go_wp2_with fail
          go_at_call 21
          refine C20.mono ?_
          rintro e w2 ⟨rfl, hr2, hf2⟩
          have Hr2 : Hid (RSc w2 p s (scFail c 20)) := hr2
          have Hf2 : Hid (Fr w w2 (fun k => k = p)) := (Hf1.out.mono (fun _ _ h => h.elim)).trans hf2 (fun _ _ h => h)
          clear hr2 hf2 C20
          have HD3 : Hid (D = scFail c 20) := by show _ = _; rw [HD2.out, HE2.out, if_neg (by omega)]; unfold scFail; rw [if_pos he]
          have HO3 : Hid (O = false) := by show _ = _; rw [HO2.out, HE2.out]; rfl
          go_wp2_with fail
          go_ret
          rw [HO3.out, HD3.out]
          exact ⟨rfl, Hr2.out, Hf2.out⟩
        · have hlt2 : c.pos + i < s.size := by omega
          have hge : decide ((s.size : Int) ≤ (c.pos : Int) + (i : Int)) = false := by rw [decide_eq_false_iff_not]; omega
          have hge' : ¬ (s.size : Int) ≤ (c.pos : Int) + (i : Int) := by omega
          have hge2 : decide (s.size ≤ c.pos + i) = false := by rw [decide_eq_false_iff_not]; omega
          have hix : ∀ z, (Instr.index 9 (.string s) (.int .i64 ((c.pos : Int) + (i : Int)))).run Tryd.prog z = .ok (.int .u8 (chAt s (c.pos + i) : Int)) z := fun z => index_any s (c.pos + i) hlt2 z
          have hiv : ∀ z, (Instr.index 9 (.string v) (.int .i64 (i : Int))).run Tryd.prog z = .ok (.int .u8 (chAt v i : Int)) z := fun z => index_any v i hlt z
          have Hst2 : Hid ((if chAt s (c.pos + i) = chAt v i then wordErr s v c.pos (i + 1) m else 21) = E) := by show _ = _; rw [← Hstep.out, if_neg hend]
          generalize chAt s (c.pos + i) = b1 at hix Hst2
          generalize chAt v i = b2 at hiv Hst2
          clear hend Hstep
          have Hlt2 : Hid _ := hlt2
          go_upto_region 6 with fail
          refine wp_region_tree (fun _ => False) (.take 0 (.take 1 (.take 2 (.take 3 (.take 4 (.take 5 (.take 6 (.take 7 (.take 8 (.take 9 (.take 10 (.take 11 .nil)))))))))))) (by kernel_rfl) (by kernel_rfl) (by decide) (by kernel_rfl) ?_
          iterate 12 (refine wpT_take (v := ?_) rfl rfl (fun x hx => ?_) ?_; rotate_left; (focus (go_simp; with_reducible rfl)); simp only [Act.put, List.setIfInBounds_toArray, List.set_cons_zero, List.set_cons_succ])
          unfold wpT
          clear k0 k1
          generalize wr.drew = wd at Hrd Hf1 ⊢
          have Hrdd : Hid (RSc wd.drew p s c) := (Fr.refl wd (fun _ => False)).drew.kept Hrd.out (fun h => h)
          have k0 : ∀ z, Fr wd.drew z (fun _ => False) → z.cell? ⟨p, 0, none⟩ = some (.string s) := fun z hz => (five_cells (hz.kept Hrdd.out (fun h => h))).1
          have k1 : ∀ z, Fr wd.drew z (fun _ => False) → z.cell? ⟨p, 1, none⟩ = some (.int .i64 (c.pos : Int)) := fun z hz => (five_cells (hz.kept Hrdd.out (fun h => h))).2.1
          have Hf3 : Hid (Fr w wd.drew (fun _ => False)) := Hf1.out.drew
          by_cases hbb : b1 = b2
          · have HE2 : Hid (wordErr s v c.pos (i + 1) (v.size - (i + 1)) = E) := by show _ = _; rw [← Hst2.out, if_pos hbb, Hm.out]
            subst hbb
            go_upto_region 9 with fail
            refine wp_region_tree (fun _ => False) (.take 0 (.take 1 (.take 2 (.take 3 (.take 4 (.take 5 (.take 6 (.take 7 (.take 8 (.take 9 (.take 10 (.take 11 (.take 12 (.take 13 (.take 14 .nil))))))))))))))) (by kernel_rfl) (by kernel_rfl) (by decide) (by kernel_rfl) ?_
            iterate 15 (refine wpT_take (v := ?_) rfl rfl (fun x hx => ?_) ?_; rotate_left; (focus (go_simp; with_reducible rfl)); simp only [Act.put, List.setIfInBounds_toArray, List.set_cons_zero, List.set_cons_succ])
            unfold wpT
            clear k0 k1
            generalize wd.drew = we at Hrdd Hf3 ⊢
            go_wp2_with fail
            go_roundg (v.size - (i + 1))
            case rel => exact ⟨i + 1, rfl, by omega, by go_num, HE2.out, Hf3.out, Hlt2.out⟩
            case measure => rw [Hg.out]; omega
          · have HE2 : Hid (E = 21) := by show _ = _; rw [← Hst2.out, if_neg hbb]
            have hb1 : ((b1 : Int) == (b2 : Int)) = false := by rw [beq_eq_false_iff_ne]; omega
            have hb2 : (b1 == b2) = false := by rw [beq_eq_false_iff_ne]; omega
            have hb3 : ((b1 : Int) != (b2 : Int)) = true := by rw [bne_iff_ne]; omega
            go_upto_region 9 with fail
            refine wp_region_tree (fun _ => False) (.take 0 (.take 1 (.take 2 (.take 3 (.take 4 (.take 5 (.take 6 (.take 7 (.take 8 (.take 9 (.take 10 (.take 11 (.take 12 (.take 13 (.take 14 .nil))))))))))))))) (by kernel_rfl) (by kernel_rfl) (by decide) (by kernel_rfl) ?_
            iterate 15 (refine wpT_take (v := ?_) rfl rfl (fun x hx => ?_) ?_; rotate_left; (focus (go_simp; with_reducible rfl)); simp only [Act.put, List.setIfInBounds_toArray, List.set_cons_zero, List.set_cons_succ])
            unfold wpT
            clear k0 k1
            generalize wd.drew = we at Hrdd Hf3 ⊢
            have C21 := refFail21 p s c we Hrdd.out
            go_wp2_with fail
            go_at_call 21
            refine C21.mono ?_
            rintro e w2 ⟨rfl, hr2, hf2⟩
            have Hr2 : Hid (RSc w2 p s (scFail c 21)) := hr2
            have Hf2 : Hid (Fr w w2 (fun k => k = p)) := (Hf3.out.mono (fun _ _ h => h.elim)).trans hf2 (fun _ _ h => h)
            clear hr2 hf2 C21
            have HD3 : Hid (D = scFail c 21) := by show _ = _; rw [HD2.out, HE2.out, if_neg (by omega)]; unfold scFail; rw [if_pos he]
            have HO3 : Hid (O = false) := by show _ = _; rw [HO2.out, HE2.out]; rfl
            go_wp2_with fail
            go_ret
            rw [HO3.out, HD3.out]
            exact ⟨rfl, Hr2.out, Hf2.out⟩
      · have hin : ¬ (i : Int) < (v.size : Int) := by omega
        have hin' : decide (i < v.size) = false := decide_eq_false hlt
        have HE2 : Hid (E = 0) := by show _ = _; rw [← Hw.out, show v.size - i = 0 by omega]; rfl
        have Hfit : Hid (c.pos + v.size ≤ s.size) := by show _ ≤ _; have := Hpi.out; omega
        have CM := refMove_any p v.size s c wr Hr.out Hok.out Hfit.out hs
        go_wp2_with fail
        go_at_call 28
        refine CM.mono ?_
        rintro e w2 ⟨rfl, hr2, hf2⟩
        have Hr2 : Hid (RSc w2 p s (scMove s c v.size)) := hr2
        have Hf2 : Hid (Fr w w2 (fun k => k = p)) := (Hf.out.mono (fun _ _ h => h.elim)).trans hf2 (fun _ _ h => h)
        clear hr2 hf2 CM
        have HD3 : Hid (D = scMove s c v.size) := by show _ = _; rw [HD2.out, HE2.out, if_pos rfl]
        have HO3 : Hid (O = true) := by show _ = _; rw [HO2.out, HE2.out]; rfl
        go_wp2_with fail
        go_ret
        rw [HO3.out, HD3.out]
        exact ⟨rfl, Hr2.out, Hf2.out⟩
  · have hb : ((c.err : Int) == 0) = false := by rw [beq_eq_false_iff_ne]; omega
    have hb' : (c.err == 0) = false := by rw [beq_eq_false_iff_ne]; exact he
    have hbn : ((c.err : Int) != 0) = true := by rw [bne_iff_ne]; omega
    have HO2 : Hid (O = false) := by show _ = _; rw [HO.out]; unfold scWordOk; rw [hb']; rfl
    have HD2 : Hid (D = c) := by show _ = _; rw [HD.out]; unfold scWord; rw [if_neg he]
    go_enter Tryd.func15, Tryd.ntmps15
    go_wp2_with fail
    go_ret
    rw [HO2.out, HD2.out]
    exact ⟨rfl, H.out, Fr.refl _ _⟩

end Go.Proofs.YtchkojdpnbecoaaDoor

/-
  The library's sort of a part, by a function of two places that may lay new blocks: the same elements, in order.
-/
import Derived.Test.YtnffjafddbbjaaaGreatDoorGHeap
import Derived.Test.YtnffjafddbbjaaaGreatDoorJ7
import Derived.Test.YtnffjafddbbjaaaGreatDoorGPart
import Derived.Test.YtnffjafddbbjaaaGreatDoorGPartE
import Derived.Test.YtnffjafddbbjaaaGreatDoorGPartial
namespace Go.Proofs.YtnffjafddbbjaaaGreatDoor
open Go.RowKit Go.Sort

section
variable {α : Type} [Inhabited α]

/-- What the library's shelf says of the two that do not compare. -/
structure SortC.Shelf (C : SortC α) (w0 : World) : Prop where
  brk : ∀ (a b : Nat) (d : Array α) (w : World), C.At w0 w d → a ≤ b → b ≤ C.n → Calls Tryz.prog 114 #[.agg #[.func (.func C.g) #[] C.lb, .func (.func C.sf) #[] C.sb], .int .i64 (a : Int), .int .i64 (b : Int)] w fun e w' => e = .returned (.tuple #[]) ∧ C.own w' (breakPatterns d a b) ∧ Fr w w' (fun j => j = C.b)
  rev : ∀ (a b : Nat) (d : Array α) (w : World), C.At w0 w d → a ≤ b → b ≤ C.n → Calls Tryz.prog 116 #[.agg #[.func (.func C.g) #[] C.lb, .func (.func C.sf) #[] C.sb], .int .i64 (a : Int), .int .i64 (b : Int)] w fun e w' => e = .returned (.tuple #[]) ∧ C.own w' (reverseRange d a b) ∧ Fr w w' (fun j => j = C.b)

/-- The sort of a part that is shorter than m. -/
def SortC.PdqAt (C : SortC α) (w0 : World) (m : Nat) : Prop := ∀ (a b lim : Nat) (d : Array α) (w : World), b - a < m → C.At w0 w d → a ≤ b → b ≤ C.n → lim ≤ 1000000000 → Below C.lt a b d →
    Calls Tryz.prog 85 #[.agg #[.func (.func C.g) #[] C.lb, .func (.func C.sf) #[] C.sb], .int .i64 (a : Int), .int .i64 (b : Int), .int .i64 (lim : Int)] w fun e w' => e = .returned (.tuple #[]) ∧ (∃ d' : Array α, PermIn a b d d' ∧ SortedIn C.lt a b d' ∧ C.own w' d') ∧ Fr w w' (fun j => j = C.b)

set_option maxRecDepth 4000 in
set_option maxHeartbeats 3200000 in
theorem gPdq_step (C : SortC α) (w0 : World) (hO : C.Ok w0) (hS : C.Shelf w0) (m : Nat) (ih : C.PdqAt w0 m) : C.PdqAt w0 (m + 1) := by
  intro a b lim d w hm hA hab hb hlim hbel
  have IH : Hid (C.PdqAt w0 m) := ih
  have HS : Hid (C.Shelf w0) := hS
  have HBel : Hid _ := hbel
  clear hS hbel ih
  have eg := hO.eg
  have hn := hO.hn
  have hbw : C.b < w.heap.size := Nat.lt_of_lt_of_le hO.hb hA.2.size
  have HO : Hid (C.Ok w0) := hO
  have HA : Hid (C.At w0 w d) := hA
  clear hO hA
  go_enter Tryz.func85, Tryz.ntmps85
  go_upto_region 1 with fail
  obtain ⟨p, hp⟩ : ∃ p, p = w.heap.size := ⟨_, rfl⟩
  obtain ⟨w1, hw1⟩ : ∃ x, x = w.alloc (.cells #[.func (.func C.g) #[] C.lb, .func (.func C.sf) #[] C.sb] 150) := ⟨_, rfl⟩
  rw [← hw1, ← hp]
  have HB : Hid (w1.heap[p]? = some (.cells #[.func (.func C.g) #[] C.lb, .func (.func C.sf) #[] C.sb] 150 (0, 0))) := by show _ = _; rw [hw1, hp]; exact heap_alloc_new _ _
  have HF : Hid (Fr w w1 (fun j => j = C.b)) := by show Fr _ _ _; rw [hw1]; exact (Fr.refl _ _).alloc _
  have HW : Hid (C.own w1 d) := by show C.own _ _; rw [hw1]; exact HA.out.1.frame ((Fr.refl _ (fun _ => False)).alloc _) (fun h => h)
  have hpb : p ≠ C.b := by omega
  clear hp hw1 hbw
  go_wp2_with fail
  go_loopg [1, 2, 3, 8, 9] (b - a) (fun g s1 s2 s3 s8 s9 wr => ∃ (a' b' l : Nat) (B P : Bool) (dk : Array α), g = b' - a' ∧ s1 = .int .i64 (a' : Int) ∧ s2 = .int .i64 (b' : Int) ∧ s3 = .int .i64 (l : Int) ∧ s8 = .bool B ∧ s9 = .bool P ∧ b' - a' ≤ b - a ∧ a' ≤ b' ∧ b' ≤ C.n ∧ l ≤ 1000000000 ∧ Below C.lt a' b' dk ∧ (C.own wr dk ∧ Fr w1 wr (fun j => j = C.b)) ∧ ∀ R, PermIn a' b' dk R → SortedIn C.lt a' b' R → PermIn a b d R ∧ SortedIn C.lt a b R)
  case atStart => exact ⟨a, b, lim, true, true, d, rfl, rfl, rfl, rfl, rfl, rfl, Nat.le_refl _, hab, hb, hlim, HBel.out, ⟨HW.out, Fr.refl _ _⟩, fun R h1 h2 => ⟨h1, h2⟩⟩
  case round =>
    obtain ⟨a', b', l, B, P, dk, hg, rfl, rfl, rfl, rfl, rfl, hle, hab', hb', hl, hbel, hst, hk⟩ := hrel
    have Hg : Hid _ := hg
    have HX : Hid (C.own wr dk ∧ Fr w1 wr (fun j => j = C.b)) := hst
    have HK : Hid _ := hk
    have HBk : Hid _ := hbel
    have hsz : b' ≤ dk.size := by rw [HX.out.1.1]; exact hb'
    have Hsz : Hid _ := hsz
    clear hg hst hk hbel hsz
    obtain ⟨x0, rfl⟩ : ∃ x, x = wr := ⟨_, rfl⟩
    by_cases h12 : b' - a' ≤ 12
    · have h12i : (b' : Int) - (a' : Int) ≤ 12 := by omega
      obtain ⟨c0, c1⟩ := box_cells HB.out HX.out.2 hpb
      have hcall := gIns_any C w0 HO.out a' b' dk x0 ((HA.out.then HW.out HF.out).then HX.out.1 HX.out.2) (by omega) hb'
      go_wp2_with fail
      refine hcall.mono ?_
      rintro e x1 ⟨rfl, ho, hf⟩
      have HE : Hid (C.own x1 (insertionSort C.lt dk a' b') ∧ Fr w x1 (fun j => j = C.b)) := ⟨ho, HF.out.trans (HX.out.2.trans hf (fun _ _ h => h)) (fun _ _ h => h)⟩
      have HR : Hid _ := insertionSort_holds HO.out.swo dk a' b' (by omega) Hsz.out
      clear hcall c0 c1 ho hf
      go_wp2_with fail
      refine bodyPost_ret (results_none rfl _ _ _) rfl ?_
      exact ⟨rfl, ⟨_, (HK.out _ HR.out.1 HR.out.2).1, (HK.out _ HR.out.1 HR.out.2).2, HE.out.1⟩, HE.out.2⟩
    · have h12i : ¬ (b' : Int) - (a' : Int) ≤ 12 := by omega
      by_cases hl0 : l = 0
      · have hl0i : ((l : Int) == 0) = true := by rw [beq_iff_eq]; omega
        subst hl0
        obtain ⟨c0, c1⟩ := box_cells HB.out HX.out.2 hpb
        have hcall := gHeap_any C w0 HO.out a' b' dk x0 ((HA.out.then HW.out HF.out).then HX.out.1 HX.out.2) (by omega) hb'
        go_wp2_with fail
        refine hcall.mono ?_
        rintro e x1 ⟨rfl, ho, hf⟩
        have HE : Hid (C.own x1 (heapSort C.lt dk a' b') ∧ Fr w x1 (fun j => j = C.b)) := ⟨ho, HF.out.trans (HX.out.2.trans hf (fun _ _ h => h)) (fun _ _ h => h)⟩
        have HR : Hid _ := heapSort_holds HO.out.swo dk a' b' (by omega) Hsz.out
        clear hcall c0 c1 ho hf
        go_wp2_with fail
        refine bodyPost_ret (results_none rfl _ _ _) rfl ?_
        exact ⟨rfl, ⟨_, (HK.out _ HR.out.1 HR.out.2).1, (HK.out _ HR.out.1 HR.out.2).2, HE.out.1⟩, HE.out.2⟩
      · have hl0i : ((l : Int) == 0) = false := by rw [beq_eq_false_iff_ne]; omega
        have hl0n : (l == 0) = false := by rw [beq_eq_false_iff_ne]; exact hl0
        go_upto_if 35 with fail
        go_cut [3, 35] from 36 to 41 (fun V _ wx => ∃ (l2 : Nat) (d1 : Array α), V = .int .i64 (l2 : Int) ∧ l2 ≤ 1000000000 ∧ PermIn a' b' dk d1 ∧ C.own wx d1 ∧ Fr w1 wx (fun j => j = C.b))
        case first =>
          cases B with
          | true =>
            go_wp2_with fail
            go_meet
            case rel => exact ⟨l, dk, rfl, hl, permIn_refl _ _ _, HX.out.1, HX.out.2⟩
          | false =>
            obtain ⟨c0, c1⟩ := box_cells HB.out HX.out.2 hpb
            have hcall := HS.out.brk a' b' dk x0 ((HA.out.then HW.out HF.out).then HX.out.1 HX.out.2) (by omega) hb'
            have HR : Hid _ := breakPatterns_holds dk a' b' (by omega) Hsz.out
            go_wp2_with fail
            refine hcall.mono ?_
            rintro e x1 ⟨rfl, ho, hf⟩
            have HE : Hid (C.own x1 (breakPatterns dk a' b') ∧ Fr w1 x1 (fun j => j = C.b)) := ⟨ho, HX.out.2.trans hf (fun _ _ h => h)⟩
            clear hcall c0 c1 ho hf
            go_wp2_with fail
            go_meet
            case rel => exact ⟨l - 1, _, by congr 1; omega, by omega, HR.out, HE.out.1, HE.out.2⟩
        case rest =>
        obtain ⟨l2, d1, rfl, hl2, hp1, ho1, hf1⟩ := hcut
        rename_i hKc
        refine hKc _ _ ?_
        clear hKc
        have HX1 : Hid (C.own wc d1 ∧ Fr w1 wc (fun j => j = C.b)) := ⟨ho1, hf1⟩
        have HP1 : Hid _ := hp1
        clear hp1 ho1 hf1
        obtain ⟨x1, rfl⟩ : ∃ x, x = wc := ⟨_, rfl⟩
        obtain ⟨c0, c1⟩ := box_cells HB.out HX1.out.2 hpb
        have hcall := gChoose_any C w0 HO.out a' b' d1 x1 ((HA.out.then HW.out HF.out).then HX1.out.1 HX1.out.2) (by omega) hb'
        go_wp2_with fail
        refine hcall.mono ?_
        rintro e x2 ⟨⟨j, h, rfl, ⟨hj1, hj2⟩, hh⟩, ho, hf⟩
        have HX2 : Hid (C.own x2 d1 ∧ Fr w1 x2 (fun j => j = C.b)) := ⟨ho, HX1.out.2.none hf⟩
        clear hcall c0 c1 ho hf
        go_upto_if 50 with fail
        go_cut [11, 12, 50] from 51 to 60 (fun V U _ wx => ∃ (pv h2 : Nat) (d2 : Array α), V = .int .i64 (pv : Int) ∧ U = .int .i64 (h2 : Int) ∧ a' ≤ pv ∧ pv < b' ∧ h2 ≤ 2 ∧ PermIn a' b' dk d2 ∧ C.own wx d2 ∧ Fr w1 wx (fun j => j = C.b))
        case first =>
          by_cases h2 : h = 2
          · subst h2
            obtain ⟨c0, c1⟩ := box_cells HB.out HX2.out.2 hpb
            have hcall := HS.out.rev a' b' d1 x2 ((HA.out.then HW.out HF.out).then HX2.out.1 HX2.out.2) (by omega) hb'
            have HR : Hid _ := reverseRange_holds d1 a' b' (by omega) (by rw [HX2.out.1.1]; exact hb')
            go_wp2_with fail
            refine hcall.mono ?_
            rintro e x3 ⟨rfl, ho, hf⟩
            have HE : Hid (C.own x3 (reverseRange d1 a' b') ∧ Fr w1 x3 (fun j => j = C.b)) := ⟨ho, HX2.out.2.trans hf (fun _ _ h => h)⟩
            clear hcall c0 c1 ho hf
            go_wp2_with fail
            go_meet
            case rel => exact ⟨b' - 1 - (j - a'), 1, _, by congr 1; omega, rfl, by omega, by omega, by omega, permIn_trans _ _ _ _ _ HP1.out HR.out, HE.out.1, HE.out.2⟩
          · have h2i : ((h : Int) == 2) = false := by rw [beq_eq_false_iff_ne]; omega
            have h2n : (h == 2) = false := by rw [beq_eq_false_iff_ne]; exact h2
            go_wp2_with fail
            go_meet
            case rel => exact ⟨j, h, d1, rfl, rfl, hj1, hj2, hh, HP1.out, HX2.out.1, HX2.out.2⟩
        case rest =>
        obtain ⟨pv, h2, d2, rfl, rfl, hpv1, hpv2, hh2, hp2, ho2, hf2⟩ := hcut
        rename_i hKc
        refine hKc _ _ ?_
        clear hKc
        have HX3 : Hid (C.own wc d2 ∧ Fr w1 wc (fun j => j = C.b)) := ⟨ho2, hf2⟩
        have HP2 : Hid _ := hp2
        clear hp2 ho2 hf2
        obtain ⟨x3, rfl⟩ : ∃ x, x = wc := ⟨_, rfl⟩
        go_upto_region 16 with fail
        go_cut [68] from 61 to 67 (fun V wx => ∃ T : Bool, V = .bool T ∧ wx = x3)
        case first =>
          cases B with
          | false =>
            go_wp2_with fail
            go_meet
            case rel => exact ⟨_, rfl, rfl⟩
          | true =>
            cases P with
            | false =>
              go_wp2_with fail
              go_meet
              case rel => exact ⟨_, rfl, rfl⟩
            | true =>
              by_cases h1 : h2 = 1
              · subst h1
                go_wp2_with fail
                go_meet
                case rel => exact ⟨_, rfl, rfl⟩
              · have h1i : ((h2 : Int) == 1) = false := by rw [beq_eq_false_iff_ne]; omega
                have h1n : (h2 == 1) = false := by rw [beq_eq_false_iff_ne]; exact h1
                go_wp2_with fail
                go_meet
                case rel => exact ⟨_, rfl, rfl⟩
        case rest =>
        obtain ⟨T, rfl, rfl⟩ := hcut
        rename_i hKc
        refine hKc _ _ ?_
        clear hKc
        obtain ⟨x3, rfl⟩ : ∃ x, x = wc := ⟨_, rfl⟩
        go_upto_if 68 with fail
        go_cut [68] from 69 to 72 (fun _ wx => ∃ d3 : Array α, PermIn a' b' dk d3 ∧ C.own wx d3 ∧ Fr w1 wx (fun j => j = C.b))
        case first =>
          cases T with
          | false =>
            go_wp2_with fail
            go_meet
            case rel => exact ⟨d2, HP2.out, HX3.out.1, HX3.out.2⟩
          | true =>
            obtain ⟨c0, c1⟩ := box_cells HB.out HX3.out.2 hpb
            have hcall := gPartial_any C w0 HO.out a' b' d2 x3 ((HA.out.then HW.out HF.out).then HX3.out.1 HX3.out.2) (by omega) hb'
            have HR : Hid _ := partialInsertionSort_holds HO.out.swo d2 a' b' (by omega) (by rw [HX3.out.1.1]; exact hb') (Below.perm HBk.out Hsz.out HP2.out)
            generalize partialInsertionSort C.lt d2 a' b' = R at hcall HR
            obtain ⟨d3, ok⟩ := R
            cases ok with
            | true =>
              go_wp2_with fail
              refine hcall.mono ?_
              rintro e x4 ⟨rfl, ho, hf⟩
              have HE : Hid (C.own x4 d3 ∧ Fr w x4 (fun j => j = C.b)) := ⟨ho, HF.out.trans (HX3.out.2.trans hf (fun _ _ h => h)) (fun _ _ h => h)⟩
              clear hcall c0 c1 ho hf
              go_wp2_with fail
              refine bodyPost_ret (results_none rfl _ _ _) rfl ?_
              have HF2 := HK.out d3 (permIn_trans _ _ _ _ _ HP2.out HR.out.1) (HR.out.2 (by first | rfl | trivial))
              exact ⟨rfl, ⟨d3, HF2.1, HF2.2, HE.out.1⟩, HE.out.2⟩
            | false =>
              go_wp2_with fail
              refine hcall.mono ?_
              rintro e x4 ⟨rfl, ho, hf⟩
              have HE : Hid (C.own x4 d3 ∧ Fr w1 x4 (fun j => j = C.b)) := ⟨ho, HX3.out.2.trans hf (fun _ _ h => h)⟩
              clear hcall c0 c1 ho hf
              go_wp2_with fail
              go_meet
              case rel => exact ⟨d3, permIn_trans _ _ _ _ _ HP2.out HR.out.1, HE.out.1, HE.out.2⟩
        case rest =>
        obtain ⟨d3, hp3, ho3, hf3⟩ := hcut
        have hKc := ‹∀ (a : Act) (w : World), Code.wp Tryz.prog _ _ a w → _›
        refine hKc _ _ ?_
        clear hKc
        have HX4 : Hid (C.own wc d3 ∧ Fr w1 wc (fun j => j = C.b)) := ⟨ho3, hf3⟩
        have HP3 : Hid _ := hp3
        have hsz : b' ≤ d3.size := by rw [ho3.1]; exact hb'
        have Hsz3 : Hid _ := hsz
        have HB3 : Hid (Below C.lt a' b' d3) := Below.perm HBk.out Hsz.out HP3.out
        clear hp3 ho3 hf3 hsz
        obtain ⟨x4, rfl⟩ : ∃ x, x = wc := ⟨_, rfl⟩
        go_upto_region 18 with fail
        go_cut [83] from 73 to 82 (fun V wx => ∃ E : Bool, V = .bool E ∧ (E = true → 0 < a' ∧ C.lt d3[a' - 1]! d3[pv]! = false) ∧ C.own wx d3 ∧ Fr w1 wx (fun j => j = C.b))
        case first =>
          by_cases ha0 : 0 < a'
          · have ha0i : (0 : Int) < (a' : Int) := by omega
            obtain ⟨c0, c1⟩ := box_cells HB.out HX4.out.2 hpb
            have hl := HO.out.less x4 d3 ((HA.out.then HW.out HF.out).then HX4.out.1 HX4.out.2) (a' - 1) (pv) (by omega) (by omega)
            rw [show ((a' - 1 : Nat) : Int) = (a' : Int) - 1 by omega, show ((pv : Nat) : Int) = (pv : Int) by omega] at hl
            cases hlv : C.lt d3[a' - 1]! d3[pv]! with
            | true =>
              rw [hlv] at hl
              go_wp2_with fail
              refine hl.mono ?_
              rintro e w5 ⟨rfl, hf5⟩
              have HE : Hid (C.own w5 d3 ∧ Fr w1 w5 (fun j => j = C.b)) := ⟨HX4.out.1.frame hf5 (fun h => h), HX4.out.2.none hf5⟩
              clear hf5 hl c0 c1 hlv
              go_wp2_with fail
              go_meet
              case rel => exact ⟨false, rfl, (fun h => Bool.noConfusion h), HE.out.1, HE.out.2⟩
            | false =>
              rw [hlv] at hl
              have Hlv : Hid _ := hlv
              clear hlv
              go_wp2_with fail
              refine hl.mono ?_
              rintro e w5 ⟨rfl, hf5⟩
              have HE : Hid (C.own w5 d3 ∧ Fr w1 w5 (fun j => j = C.b)) := ⟨HX4.out.1.frame hf5 (fun h => h), HX4.out.2.none hf5⟩
              clear hf5 hl c0 c1
              go_wp2_with fail
              go_meet
              case rel => exact ⟨true, rfl, fun _ => ⟨ha0, Hlv.out⟩, HE.out.1, HE.out.2⟩
          · have ha0i : ¬ (0 : Int) < (a' : Int) := by omega
            go_wp2_with fail
            go_meet
            case rel => exact ⟨false, rfl, (fun h => Bool.noConfusion h), HX4.out.1, HX4.out.2⟩
        case rest =>
        obtain ⟨E, rfl, hE, hoE, hfE⟩ := hcut
        rename_i hKc
        refine hKc _ _ ?_
        clear hKc
        have HX5 : Hid (C.own wc d3 ∧ Fr w1 wc (fun j => j = C.b)) := ⟨hoE, hfE⟩
        have HE0 : Hid _ := hE
        clear hE hoE hfE
        obtain ⟨x5, rfl⟩ : ∃ x, x = wc := ⟨_, rfl⟩
        obtain ⟨c0, c1⟩ := box_cells HB.out HX5.out.2 hpb
        cases E with
        | true =>
          have hcall := gPartE_any C w0 HO.out a' b' pv d3 x5 ((HA.out.then HW.out HF.out).then HX5.out.1 HX5.out.2) (by omega) hb' hpv2
          go_wp2_with fail
          refine hcall.mono ?_
          rintro e x6 ⟨⟨mid, d4, rfl, hx, ho⟩, hf⟩
          have HR : Hid _ := round_eq HO.out.swo (partitionEqual_holds C.lt) (HE0.out trivial).1 hpv1 hpv2 Hsz3.out HB3.out (HE0.out trivial).2 hx
          have HX6 : Hid (C.own x6 d4 ∧ Fr w1 x6 (fun j => j = C.b)) := ⟨ho, HX5.out.2.trans hf (fun _ _ h => h)⟩
          have hmid1 := HR.out.1
          have hmid2 := HR.out.2.1
          clear hcall c0 c1 ho hf hx
          go_wp2_with fail
          go_roundg (b' - mid)
          case rel => exact ⟨mid, b', l2, B, P, d4, rfl, rfl, rfl, rfl, rfl, rfl, by omega, by omega, hb', hl2, HR.out.2.2.2.1, HX6.out, fun R h1 h2 => by
            obtain ⟨k1, k2⟩ := HR.out.2.2.2.2 R h1 h2
            exact HK.out R (permIn_trans _ _ _ _ _ HP3.out k1) k2⟩
          case measure => rw [Hg.out]; omega
        | false =>
          have hcall := gPart_any C w0 HO.out a' b' pv d3 x5 ((HA.out.then HW.out HF.out).then HX5.out.1 HX5.out.2) (by omega) hb' hpv2
          go_wp2_with fail
          refine hcall.mono ?_
          rintro e x6 ⟨⟨mid, ap, d4, rfl, hx, ho⟩, hf⟩
          have HR : Hid _ := round_part HO.out.swo (partition_holds C.lt) hpv1 hpv2 Hsz3.out HB3.out hx
          have HX6 : Hid (C.own x6 d4 ∧ Fr w1 x6 (fun j => j = C.b)) := ⟨ho, HX5.out.2.trans hf (fun _ _ h => h)⟩
          have hmid1 := HR.out.1
          have hmid2 := HR.out.2.1
          clear hcall c0 c1 ho hf hx
          obtain ⟨c0, c1⟩ := box_cells HB.out HX6.out.2 hpb
          by_cases hlr : mid - a' < b' - mid
          · have hlri : (mid : Int) - (a' : Int) < (b' : Int) - (mid : Int) := by omega
            have hcall := IH.out a' mid l2 d4 x6 (by omega) ((HA.out.then HW.out HF.out).then HX6.out.1 HX6.out.2) (by omega) (by omega) hl2 HR.out.2.2.2.1
            go_wp2_with fail
            refine hcall.mono ?_
            rintro e x7 ⟨rfl, ⟨d5, hq1, hq2, ho⟩, hf⟩
            have HX7 : Hid (C.own x7 d5 ∧ Fr w1 x7 (fun j => j = C.b)) := ⟨ho, HX6.out.2.trans hf (fun _ _ h => h)⟩
            have HQ : Hid _ := HR.out.2.2.2.2.2.1 d5 hq1 hq2
            clear hcall c0 c1 ho hf hq1 hq2
            go_wp2_with fail
            go_roundg (b' - (mid + 1))
            case rel => exact ⟨mid + 1, b', l2, _, ap, d5, rfl, by go_num, rfl, rfl, rfl, rfl, by omega, by omega, hb', hl2, HQ.out.1, HX7.out, fun R h1 h2 => by
              obtain ⟨k1, k2⟩ := HQ.out.2 R h1 h2
              exact HK.out R (permIn_trans _ _ _ _ _ HP3.out k1) k2⟩
            case measure => rw [Hg.out]; omega
          · have hlri : ¬ (mid : Int) - (a' : Int) < (b' : Int) - (mid : Int) := by omega
            have hcall := IH.out (mid + 1) b' l2 d4 x6 (by omega) ((HA.out.then HW.out HF.out).then HX6.out.1 HX6.out.2) (by omega) hb' hl2 HR.out.2.2.2.2.1
            rw [show ((mid + 1 : Nat) : Int) = (mid : Int) + 1 by omega] at hcall
            go_wp2_with fail
            refine hcall.mono ?_
            rintro e x7 ⟨rfl, ⟨d5, hq1, hq2, ho⟩, hf⟩
            have HX7 : Hid (C.own x7 d5 ∧ Fr w1 x7 (fun j => j = C.b)) := ⟨ho, HX6.out.2.trans hf (fun _ _ h => h)⟩
            have HQ : Hid _ := HR.out.2.2.2.2.2.2 d5 hq1 hq2
            clear hcall c0 c1 ho hf hq1 hq2
            go_wp2_with fail
            go_roundg (mid - a')
            case rel => exact ⟨a', mid, l2, _, ap, d5, rfl, rfl, rfl, rfl, rfl, rfl, by omega, by omega, by omega, hl2, HQ.out.1, HX7.out, fun R h1 h2 => by
              obtain ⟨k1, k2⟩ := HQ.out.2 R h1 h2
              exact HK.out R (permIn_trans _ _ _ _ _ HP3.out k1) k2⟩
            case measure => rw [Hg.out]; omega

theorem gPdq_any (C : SortC α) (w0 : World) (hO : C.Ok w0) (hS : C.Shelf w0) : ∀ m, C.PdqAt w0 m
  | 0 => fun _ _ _ _ _ h _ _ _ _ _ => absurd h (Nat.not_lt_zero _)
  | m + 1 => gPdq_step C w0 hO hS m (gPdq_any C w0 hO hS m)

end

end Go.Proofs.YtnffjafddbbjaaaGreatDoor

/-
  The library's heap sort, by a function of two places that may lay new blocks.
-/
import Derived.Test.YtnffjafddbbjaaaGreatDoorJ7
import Derived.Deep.CutRange
namespace Go.Proofs.YtnffjafddbbjaaaGreatDoor
open Go.RowKit Go.Sort

section
variable {α : Type} [Inhabited α]

/-- Which child is the greater one. -/
def chF (lt : α → α → Bool) (hi first root : Nat) (d : Array α) : Nat := if 2 * root + 1 + 1 < hi ∧ lt d[first + (2 * root + 1)]! d[first + (2 * root + 1) + 1]! = true then 2 * root + 2 else 2 * root + 1
theorem sift_a {lt : α → α → Bool} {hi first root : Nat} {d : Array α} (h : hi ≤ 2 * root + 1) : siftDown lt hi first root d = d := by rw [siftDown, dif_pos h]
theorem sift_b {lt : α → α → Bool} {hi first root : Nat} {d : Array α} (h : 2 * root + 1 < hi) : siftDown lt hi first root d = if lt d[first + root]! d[first + chF lt hi first root d]! = true then siftDown lt hi first (chF lt hi first root d) (swp d (first + root) (first + chF lt hi first root d)) else d := by
  rw [siftDown, dif_neg (by omega)]
  unfold chF
  by_cases h1 : 2 * root + 1 + 1 < hi ∧ lt d[first + (2 * root + 1)]! d[first + (2 * root + 1) + 1]! = true
  · rw [if_pos h1, if_pos (by simp [h1])]
    cases lt d[first + root]! d[first + (2 * root + 2)]!
    · simp
    · simp; omega
  · rw [if_neg h1, if_neg (by simpa using h1)]
    cases lt d[first + root]! d[first + (2 * root + 1)]! <;> simp

set_option maxRecDepth 4000 in
set_option maxHeartbeats 1600000 in
theorem gSift_any (C : SortC α) (w0 : World) (hO : C.Ok w0) (lo hi first : Nat) (d : Array α) (w : World) (hA : C.At w0 w d) (hlo : lo ≤ 1000000000) (hb : first + hi ≤ C.n) :
    Calls Tryz.prog 128 #[.agg #[.func (.func C.g) #[] C.lb, .func (.func C.sf) #[] C.sb], .int .i64 (lo : Int), .int .i64 (hi : Int), .int .i64 (first : Int)] w fun e w' => e = .returned (.tuple #[]) ∧ C.own w' (siftDown C.lt hi first lo d) ∧ Fr w w' (fun j => j = C.b) := by
  have eg := hO.eg
  have hn := hO.hn
  have hbw : C.b < w.heap.size := Nat.lt_of_lt_of_le hO.hb hA.2.size
  have HO : Hid (C.Ok w0) := hO
  have HA : Hid (C.At w0 w d) := hA
  clear hO hA
  go_enter Tryz.func128, Tryz.ntmps128
  go_upto_region 1 with fail
  obtain ⟨p, hp⟩ : ∃ p, p = w.heap.size := ⟨_, rfl⟩
  obtain ⟨w1, hw1⟩ : ∃ x, x = w.alloc (.cells #[.func (.func C.g) #[] C.lb, .func (.func C.sf) #[] C.sb] 150) := ⟨_, rfl⟩
  rw [← hw1, ← hp]
  have HB : Hid (w1.heap[p]? = some (.cells #[.func (.func C.g) #[] C.lb, .func (.func C.sf) #[] C.sb] 150 (0, 0))) := by show _ = _; rw [hw1, hp]; exact heap_alloc_new _ _
  have HF : Hid (Fr w w1 (fun j => j = C.b)) := by show Fr _ _ _; rw [hw1]; exact (Fr.refl _ _).alloc _
  have HW : Hid (C.own w1 d) := by show C.own _ _; rw [hw1]; exact HA.out.1.frame ((Fr.refl _ (fun _ => False)).alloc _) (fun h => h)
  have hpb : p ≠ C.b := by omega
  clear hp hw1 hbw
  go_wp2_with fail
  go_loopg [8] (hi - lo) (fun g s8 wr => ∃ (root : Nat) (dk : Array α), g = hi - root ∧ s8 = .int .i64 (root : Int) ∧ root ≤ 1000000000 ∧ C.own wr dk ∧ Fr w1 wr (fun j => j = C.b) ∧ siftDown C.lt hi first root dk = siftDown C.lt hi first lo d)
  case atStart => exact ⟨lo, d, rfl, rfl, hlo, HW.out, Fr.refl _ _, rfl⟩
  case round =>
    obtain ⟨root, dk, hg, rfl, hrb, hown, hfr, hs⟩ := hrel
    have Hg : Hid _ := hg
    have Hown : Hid (C.own wr dk) := hown
    have Hfr : Hid (Fr w1 wr (fun j => j = C.b)) := hfr
    have Hs : Hid _ := hs
    clear hg hown hfr hs
    by_cases h1 : hi ≤ 2 * root + 1
    · have h1i : (hi : Int) ≤ 2 * (root : Int) + 1 := by omega
      go_wp2_with fail
      go_end0
      exact ⟨rfl, by rw [← Hs.out, sift_a h1]; exact Hown.out, HF.out.trans Hfr.out (fun _ _ h => h)⟩
    · have h1i : ¬ (hi : Int) ≤ 2 * (root : Int) + 1 := by omega
      by_cases h2 : 2 * root + 1 + 1 < hi
      · have h2i : 2 * (root : Int) + 1 + 1 < (hi : Int) := by omega
        obtain ⟨c0, c1⟩ := box_cells HB.out Hfr.out hpb
        have hl1 := HO.out.less wr dk ((HA.out.then HW.out HF.out).then Hown.out Hfr.out) (first + (2 * root + 1)) (first + (2 * root + 1) + 1) (by omega) (by omega)
        rw [show ((first + (2 * root + 1) : Nat) : Int) = (first : Int) + (2 * (root : Int) + 1) by omega, show ((first + (2 * root + 1) + 1 : Nat) : Int) = (first : Int) + (2 * (root : Int) + 1) + 1 by omega] at hl1
        cases hch : C.lt dk[first + (2 * root + 1)]! dk[first + (2 * root + 1) + 1]! with
        | true =>
          rw [hch] at hl1
          have Hc : Hid (chF C.lt hi first root dk = 2 * root + 2) := if_pos ⟨h2, hch⟩
          clear hch
          go_wp2_with fail
          refine hl1.mono ?_
          rintro e w3 ⟨rfl, hf3⟩
          have HX : Hid (C.own w3 dk ∧ Fr w1 w3 (fun j => j = C.b)) := ⟨Hown.out.frame hf3 (fun h => h), Hfr.out.none hf3⟩
          clear hf3 hl1 c0 c1
          obtain ⟨c0, c1⟩ := box_cells HB.out HX.out.2 hpb
          have hl2 := HO.out.less w3 dk ((HA.out.then HW.out HF.out).then HX.out.1 HX.out.2) (first + root) (first + (2 * root + 2)) (by omega) (by omega)
          rw [show ((first + root : Nat) : Int) = (first : Int) + (root : Int) by omega, show ((first + (2 * root + 2) : Nat) : Int) = (first : Int) + (2 * (root : Int) + 1 + 1) by omega] at hl2
          cases hlv : C.lt dk[first + root]! dk[first + (2 * root + 2)]! with
          | false =>
            rw [hlv] at hl2
            have Hlv : Hid _ := hlv
            clear hlv
            go_wp2_with fail
            refine hl2.mono ?_
            rintro e w5 ⟨rfl, hf5⟩
            have HE : Hid (C.own w5 dk ∧ Fr w1 w5 (fun j => j = C.b)) := ⟨HX.out.1.frame hf5 (fun h => h), HX.out.2.none hf5⟩
            clear hf5 hl2 c0 c1
            go_wp2_with fail
            refine bodyPost_ret (results_none rfl _ _ _) rfl ?_
            exact ⟨rfl, by rw [← Hs.out, sift_b (by omega), Hc.out, if_neg (by rw [Hlv.out]; simp)]; exact HE.out.1, HF.out.trans HE.out.2 (fun _ _ h => h)⟩
          | true =>
            rw [hlv] at hl2
            have Hlv : Hid _ := hlv
            clear hlv
            go_wp2_with fail
            refine hl2.mono ?_
            rintro e w5 ⟨rfl, hf5⟩
            have HE : Hid (C.own w5 dk ∧ Fr w1 w5 (fun j => j = C.b)) := ⟨HX.out.1.frame hf5 (fun h => h), HX.out.2.none hf5⟩
            clear hf5 hl2 c0 c1
            obtain ⟨c0, c1⟩ := box_cells HB.out HE.out.2 hpb
            obtain ⟨w6, hs, hown_, hfr_⟩ := HO.out.swap w5 dk HE.out.1 (first + root) (first + (2 * root + 2)) (by omega) (by omega)
            rw [show ((first + root : Nat) : Int) = (first : Int) + (root : Int) by omega, show ((first + (2 * root + 2) : Nat) : Int) = (first : Int) + (2 * (root : Int) + 1 + 1) by omega] at hs
            have HZ : Hid (C.own w6 (swp dk (first + root) (first + (2 * root + 2))) ∧ Fr w1 w6 (fun j => j = C.b)) := ⟨hown_, HE.out.2.trans hfr_ (fun _ _ h => h)⟩
            clear hown_ hfr_
            go_wp2_with fail
            go_roundg (hi - (2 * root + 2))
            case rel => exact ⟨2 * root + 2, swp dk (first + root) (first + (2 * root + 2)), rfl, by congr 1 <;> omega, by omega, HZ.out.1, HZ.out.2, by rw [← Hs.out, sift_b (root := root) (by omega), Hc.out, if_pos Hlv.out]⟩
            case measure => rw [Hg.out]; omega
        | false =>
          rw [hch] at hl1
          have Hc : Hid (chF C.lt hi first root dk = 2 * root + 1) := if_neg (by rw [hch]; simp)
          clear hch
          go_wp2_with fail
          refine hl1.mono ?_
          rintro e w3 ⟨rfl, hf3⟩
          have HX : Hid (C.own w3 dk ∧ Fr w1 w3 (fun j => j = C.b)) := ⟨Hown.out.frame hf3 (fun h => h), Hfr.out.none hf3⟩
          clear hf3 hl1 c0 c1
          obtain ⟨c0, c1⟩ := box_cells HB.out HX.out.2 hpb
          have hl2 := HO.out.less w3 dk ((HA.out.then HW.out HF.out).then HX.out.1 HX.out.2) (first + root) (first + (2 * root + 1)) (by omega) (by omega)
          rw [show ((first + root : Nat) : Int) = (first : Int) + (root : Int) by omega, show ((first + (2 * root + 1) : Nat) : Int) = (first : Int) + (2 * (root : Int) + 1) by omega] at hl2
          cases hlv : C.lt dk[first + root]! dk[first + (2 * root + 1)]! with
          | false =>
            rw [hlv] at hl2
            have Hlv : Hid _ := hlv
            clear hlv
            go_wp2_with fail
            refine hl2.mono ?_
            rintro e w5 ⟨rfl, hf5⟩
            have HE : Hid (C.own w5 dk ∧ Fr w1 w5 (fun j => j = C.b)) := ⟨HX.out.1.frame hf5 (fun h => h), HX.out.2.none hf5⟩
            clear hf5 hl2 c0 c1
            go_wp2_with fail
            refine bodyPost_ret (results_none rfl _ _ _) rfl ?_
            exact ⟨rfl, by rw [← Hs.out, sift_b (by omega), Hc.out, if_neg (by rw [Hlv.out]; simp)]; exact HE.out.1, HF.out.trans HE.out.2 (fun _ _ h => h)⟩
          | true =>
            rw [hlv] at hl2
            have Hlv : Hid _ := hlv
            clear hlv
            go_wp2_with fail
            refine hl2.mono ?_
            rintro e w5 ⟨rfl, hf5⟩
            have HE : Hid (C.own w5 dk ∧ Fr w1 w5 (fun j => j = C.b)) := ⟨HX.out.1.frame hf5 (fun h => h), HX.out.2.none hf5⟩
            clear hf5 hl2 c0 c1
            obtain ⟨c0, c1⟩ := box_cells HB.out HE.out.2 hpb
            obtain ⟨w6, hs, hown_, hfr_⟩ := HO.out.swap w5 dk HE.out.1 (first + root) (first + (2 * root + 1)) (by omega) (by omega)
            rw [show ((first + root : Nat) : Int) = (first : Int) + (root : Int) by omega, show ((first + (2 * root + 1) : Nat) : Int) = (first : Int) + (2 * (root : Int) + 1) by omega] at hs
            have HZ : Hid (C.own w6 (swp dk (first + root) (first + (2 * root + 1))) ∧ Fr w1 w6 (fun j => j = C.b)) := ⟨hown_, HE.out.2.trans hfr_ (fun _ _ h => h)⟩
            clear hown_ hfr_
            go_wp2_with fail
            go_roundg (hi - (2 * root + 1))
            case rel => exact ⟨2 * root + 1, swp dk (first + root) (first + (2 * root + 1)), rfl, by congr 1 <;> omega, by omega, HZ.out.1, HZ.out.2, by rw [← Hs.out, sift_b (root := root) (by omega), Hc.out, if_pos Hlv.out]⟩
            case measure => rw [Hg.out]; omega
      · have h2i : ¬ 2 * (root : Int) + 1 + 1 < (hi : Int) := by omega
        have Hc : Hid (chF C.lt hi first root dk = 2 * root + 1) := if_neg (fun h => h2 h.1)
        obtain ⟨c0, c1⟩ := box_cells HB.out Hfr.out hpb
        have hl2 := HO.out.less wr dk ((HA.out.then HW.out HF.out).then Hown.out Hfr.out) (first + root) (first + (2 * root + 1)) (by omega) (by omega)
        rw [show ((first + root : Nat) : Int) = (first : Int) + (root : Int) by omega, show ((first + (2 * root + 1) : Nat) : Int) = (first : Int) + (2 * (root : Int) + 1) by omega] at hl2
        cases hlv : C.lt dk[first + root]! dk[first + (2 * root + 1)]! with
        | false =>
          rw [hlv] at hl2
          have Hlv : Hid _ := hlv
          clear hlv
          go_wp2_with fail
          refine hl2.mono ?_
          rintro e w5 ⟨rfl, hf5⟩
          have HE : Hid (C.own w5 dk ∧ Fr w1 w5 (fun j => j = C.b)) := ⟨Hown.out.frame hf5 (fun h => h), Hfr.out.none hf5⟩
          clear hf5 hl2 c0 c1
          go_wp2_with fail
          refine bodyPost_ret (results_none rfl _ _ _) rfl ?_
          exact ⟨rfl, by rw [← Hs.out, sift_b (by omega), Hc.out, if_neg (by rw [Hlv.out]; simp)]; exact HE.out.1, HF.out.trans HE.out.2 (fun _ _ h => h)⟩
        | true =>
          rw [hlv] at hl2
          have Hlv : Hid _ := hlv
          clear hlv
          go_wp2_with fail
          refine hl2.mono ?_
          rintro e w5 ⟨rfl, hf5⟩
          have HE : Hid (C.own w5 dk ∧ Fr w1 w5 (fun j => j = C.b)) := ⟨Hown.out.frame hf5 (fun h => h), Hfr.out.none hf5⟩
          clear hf5 hl2 c0 c1
          obtain ⟨c0, c1⟩ := box_cells HB.out HE.out.2 hpb
          obtain ⟨w6, hs, hown_, hfr_⟩ := HO.out.swap w5 dk HE.out.1 (first + root) (first + (2 * root + 1)) (by omega) (by omega)
          rw [show ((first + root : Nat) : Int) = (first : Int) + (root : Int) by omega, show ((first + (2 * root + 1) : Nat) : Int) = (first : Int) + (2 * (root : Int) + 1) by omega] at hs
          have HZ : Hid (C.own w6 (swp dk (first + root) (first + (2 * root + 1))) ∧ Fr w1 w6 (fun j => j = C.b)) := ⟨hown_, HE.out.2.trans hfr_ (fun _ _ h => h)⟩
          clear hown_ hfr_
          go_wp2_with fail
          go_roundg (hi - (2 * root + 1))
          case rel => exact ⟨2 * root + 1, swp dk (first + root) (first + (2 * root + 1)), rfl, by congr 1 <;> omega, by omega, HZ.out.1, HZ.out.2, by rw [← Hs.out, sift_b (root := root) (by omega), Hc.out, if_pos Hlv.out]⟩
          case measure => rw [Hg.out]; omega

set_option maxRecDepth 4000 in
set_option maxHeartbeats 1600000 in
theorem gHeap_any (C : SortC α) (w0 : World) (hO : C.Ok w0) (a b : Nat) (d : Array α) (w : World) (hA : C.At w0 w d) (hab : a < b) (hb : b ≤ C.n) :
    Calls Tryz.prog 113 #[.agg #[.func (.func C.g) #[] C.lb, .func (.func C.sf) #[] C.sb], .int .i64 (a : Int), .int .i64 (b : Int)] w fun e w' => e = .returned (.tuple #[]) ∧ C.own w' (heapSort C.lt d a b) ∧ Fr w w' (fun j => j = C.b) := by
  have eg := hO.eg
  have hn := hO.hn
  have hbw : C.b < w.heap.size := Nat.lt_of_lt_of_le hO.hb hA.2.size
  have HO : Hid (C.Ok w0) := hO
  have HA : Hid (C.At w0 w d) := hA
  clear hO hA
  go_enter Tryz.func113, Tryz.ntmps113
  go_upto_region 1 with fail
  obtain ⟨p, hp⟩ : ∃ p, p = w.heap.size := ⟨_, rfl⟩
  obtain ⟨w1, hw1⟩ : ∃ x, x = w.alloc (.cells #[.func (.func C.g) #[] C.lb, .func (.func C.sf) #[] C.sb] 150) := ⟨_, rfl⟩
  rw [← hw1, ← hp]
  have HB : Hid (w1.heap[p]? = some (.cells #[.func (.func C.g) #[] C.lb, .func (.func C.sf) #[] C.sb] 150 (0, 0))) := by show _ = _; rw [hw1, hp]; exact heap_alloc_new _ _
  have HF : Hid (Fr w w1 (fun j => j = C.b)) := by show Fr _ _ _; rw [hw1]; exact (Fr.refl _ _).alloc _
  have HW : Hid (C.own w1 d) := by show C.own _ _; rw [hw1]; exact HA.out.1.frame ((Fr.refl _ (fun _ => False)).alloc _) (fun h => h)
  have hpb : p ≠ C.b := by omega
  clear hp hw1 hbw
  obtain ⟨H, hH⟩ : ∃ H, b = a + H := ⟨b - a, by omega⟩
  subst hH
  have eH : ((a + H : Nat) : Int) - (a : Int) = (H : Int) := by omega
  obtain ⟨K, hK⟩ : ∃ K, K = (H - 1) / 2 + 1 := ⟨_, rfl⟩
  have eK : ((a : Int) + (H : Int) - (a : Int) - 1) / 2 = (K : Int) - 1 := by omega
  have hKb : K ≤ 1000000000 := by omega
  have HK : Hid (heapSort C.lt d a (a + H) = heapPop C.lt a H (heapBuild C.lt H a K d)) := by
    show _ = _
    unfold heapSort
    rw [Nat.add_sub_cancel_left, hK]
  have EK : Hid _ := eK
  clear hK eK eH
  go_wp2_with fail
  go_loopg [9] K (fun g s9 wr => ∃ (k : Nat) (z : Int) (dk : Array α), g = k ∧ s9 = .int .i64 z ∧ z = (k : Int) - 1 ∧ k ≤ K ∧ C.own wr dk ∧ Fr w1 wr (fun j => j = C.b) ∧ heapBuild C.lt H a k dk = heapBuild C.lt H a K d)
  case atStart => exact ⟨K, _, d, rfl, rfl, EK.out, Nat.le_refl _, HW.out, Fr.refl _ _, rfl⟩
  case round =>
    obtain ⟨k, z, dk, hg, rfl, hz, hk, hown, hfr, hs⟩ := hrel
    have Hg : Hid _ := hg
    have Hown : Hid (C.own wr dk) := hown
    have Hfr : Hid (Fr w1 wr (fun j => j = C.b)) := hfr
    have Hs : Hid _ := hs
    clear hg hown hfr hs
    cases k with
    | succ k =>
      obtain rfl : z = (k : Int) := by omega
      clear hz
      obtain ⟨c0, c1⟩ := box_cells HB.out Hfr.out hpb
      have hsf := gSift_any C w0 HO.out k H a dk wr ((HA.out.then HW.out HF.out).then Hown.out Hfr.out) (by omega) (by omega)
      rw [show ((H : Nat) : Int) = (a : Int) + (H : Int) - (a : Int) by omega] at hsf
      go_wp2_with fail
      refine hsf.mono ?_
      rintro e w3 ⟨rfl, ho3, hf3⟩
      have HX : Hid (C.own w3 (siftDown C.lt H a k dk) ∧ Fr w1 w3 (fun j => j = C.b)) := ⟨ho3, Hfr.out.trans hf3 (fun _ _ h => h)⟩
      clear ho3 hf3 hsf c0 c1
      go_wp2_with fail
      go_roundg k
      case rel => exact ⟨k, _, siftDown C.lt H a k dk, rfl, rfl, rfl, by omega, HX.out.1, HX.out.2, Hs.out⟩
      case measure => rw [Hg.out]; omega
    | zero =>
      obtain rfl : z = -1 := by omega
      clear hz
      have HY : Hid (heapSort C.lt d a (a + H) = heapPop C.lt a H dk) := by show _ = _; rw [HK.out, ← Hs.out]; rfl
      go_wp2_with fail
      obtain ⟨w0', rfl⟩ : ∃ x, x = wr := ⟨_, rfl⟩
      go_loopg [10] H (fun g s10 wr => ∃ (k : Nat) (z : Int) (dj : Array α), g = k ∧ s10 = .int .i64 z ∧ z = (k : Int) - 1 ∧ k ≤ H ∧ C.own wr dj ∧ Fr w1 wr (fun j => j = C.b) ∧ heapPop C.lt a k dj = heapPop C.lt a H dk)
      case atStart => exact ⟨H, _, dk, rfl, rfl, by omega, Nat.le_refl _, Hown.out, Hfr.out, rfl⟩
      case round =>
        obtain ⟨k, z, dj, hg2, rfl, hz, hk, hown, hfr, hs⟩ := hrel
        have Hg2 : Hid _ := hg2
        have Hown2 : Hid (C.own wr dj) := hown
        have Hfr2 : Hid (Fr w1 wr (fun j => j = C.b)) := hfr
        have Hs2 : Hid _ := hs
        clear hg2 hown hfr hs
        cases k with
        | succ k =>
          obtain rfl : z = (k : Int) := by omega
          clear hz
          obtain ⟨c0, c1⟩ := box_cells HB.out Hfr2.out hpb
          obtain ⟨w3, hs, hown_, hfr_⟩ := HO.out.swap wr dj Hown2.out (a) (a + k) (by omega) (by omega)
          rw [show ((a : Nat) : Int) = (a : Int) by omega, show ((a + k : Nat) : Int) = (a : Int) + (k : Int) by omega] at hs
          have HZ : Hid (C.own w3 (swp dj (a) (a + k)) ∧ Fr w1 w3 (fun j => j = C.b)) := ⟨hown_, Hfr2.out.trans hfr_ (fun _ _ h => h)⟩
          clear hown_ hfr_
          obtain ⟨c2, c3⟩ := box_cells HB.out HZ.out.2 hpb
          have hsf := gSift_any C w0 HO.out 0 k a (swp dj a (a + k)) w3 ((HA.out.then HW.out HF.out).then HZ.out.1 HZ.out.2) (by omega) (by omega)
          go_wp2_with fail
          refine hsf.mono ?_
          rintro e w4 ⟨rfl, ho4, hf4⟩
          have HX : Hid (C.own w4 (siftDown C.lt k a 0 (swp dj a (a + k))) ∧ Fr w1 w4 (fun j => j = C.b)) := ⟨ho4, HZ.out.2.trans hf4 (fun _ _ h => h)⟩
          clear ho4 hf4 hsf c0 c1 c2 c3 hs
          go_wp2_with fail
          go_roundg k
          case rel => exact ⟨k, _, siftDown C.lt k a 0 (swp dj a (a + k)), rfl, rfl, rfl, by omega, HX.out.1, HX.out.2, Hs2.out⟩
          case measure => rw [Hg2.out]; omega
        | zero =>
          obtain rfl : z = -1 := by omega
          clear hz
          go_wp2_with fail
          go_end0
          exact ⟨rfl, by rw [HY.out, ← Hs2.out]; exact Hown2.out, HF.out.trans Hfr2.out (fun _ _ h => h)⟩

end

end Go.Proofs.YtnffjafddbbjaaaGreatDoor

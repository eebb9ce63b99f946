/-
  The library's partial insertion sort, by a function of two places that may lay new blocks.
-/
import Derived.Test.YtnffjafddbbjaaaGreatDoorJ7
import Derived.Deep.CutRange
import Derived.Deep.CutBlock
namespace Go.Proofs.YtnffjafddbbjaaaGreatDoor
open Go.RowKit Go.Sort

section
variable {α : Type} [Inhabited α]

theorem ss_go {lt : α → α → Bool} {d : Array α} {b i : Nat} (h : i < b) (hp : lt d[i]! d[i - 1]! = false) : scanSorted lt d b i = scanSorted lt d b (i + 1) := by rw [scanSorted, if_pos (by simp [h, hp])]
theorem ss_stop {lt : α → α → Bool} {d : Array α} {b i : Nat} (h : ¬ i < b ∨ lt d[i]! d[i - 1]! = true) : scanSorted lt d b i = i := by rw [scanSorted, if_neg (by rcases h with h | h <;> simp [h])]
theorem sd_go {lt : α → α → Bool} {d : Array α} {j : Nat} (h : 1 ≤ j) (hp : lt d[j]! d[j - 1]! = true) : shiftDown lt j d = shiftDown lt (j - 1) (swp d j (j - 1)) := by
  obtain ⟨m, rfl⟩ : ∃ m, j = m + 1 := ⟨j - 1, by omega⟩
  rw [Nat.add_sub_cancel] at hp ⊢
  rw [shiftDown, hp]
  rfl
theorem sd_stop {lt : α → α → Bool} {d : Array α} {j : Nat} (h : ¬ 1 ≤ j ∨ lt d[j]! d[j - 1]! = false) : shiftDown lt j d = d := by
  cases j with
  | zero => rfl
  | succ m =>
    rcases h with h | h
    · omega
    · rw [Nat.add_sub_cancel] at h
      rw [shiftDown, h]
      rfl
theorem su_go {lt : α → α → Bool} {d : Array α} {b j : Nat} (h : j < b) (hp : lt d[j]! d[j - 1]! = true) : shiftUp lt b j d = shiftUp lt b (j + 1) (swp d j (j - 1)) := by rw [shiftUp, if_pos h, hp]; rfl
theorem su_stop {lt : α → α → Bool} {d : Array α} {b j : Nat} (h : ¬ j < b ∨ lt d[j]! d[j - 1]! = false) : shiftUp lt b j d = d := by
  rw [shiftUp]
  rcases h with h | h
  · rw [if_neg h]
  · rw [h]; simp

set_option maxRecDepth 4000 in
set_option maxHeartbeats 1600000 in
theorem gPartial_any (C : SortC α) (w0 : World) (hO : C.Ok w0) (a b : Nat) (d : Array α) (w : World) (hA : C.At w0 w d) (hab : a + 1 < b) (hb : b ≤ C.n) :
    Calls Tryz.prog 117 #[.agg #[.func (.func C.g) #[] C.lb, .func (.func C.sf) #[] C.sb], .int .i64 (a : Int), .int .i64 (b : Int)] w fun e w' => e = .returned (.bool (partialInsertionSort C.lt d a b).2) ∧ C.own w' (partialInsertionSort C.lt d a b).1 ∧ Fr w w' (fun j => j = C.b) := by
  obtain ⟨⟨R1, R2⟩, hR⟩ : ∃ R, R = partialInsertionSort C.lt d a b := ⟨_, rfl⟩
  rw [← hR]
  have HRR : Hid _ := hR
  clear hR
  dsimp only
  have eg := hO.eg
  have hn := hO.hn
  have hbw : C.b < w.heap.size := Nat.lt_of_lt_of_le hO.hb hA.2.size
  have HO : Hid (C.Ok w0) := hO
  have HA : Hid (C.At w0 w d) := hA
  clear hO hA
  go_enter Tryz.func117, Tryz.ntmps117
  go_upto_region 1 with fail
  obtain ⟨p, hp⟩ : ∃ p, p = w.heap.size := ⟨_, rfl⟩
  obtain ⟨w1, hw1⟩ : ∃ x, x = w.alloc (.cells #[.func (.func C.g) #[] C.lb, .func (.func C.sf) #[] C.sb] 150) := ⟨_, rfl⟩
  rw [← hw1, ← hp]
  have HB : Hid (w1.heap[p]? = some (.cells #[.func (.func C.g) #[] C.lb, .func (.func C.sf) #[] C.sb] 150 (0, 0))) := by show _ = _; rw [hw1, hp]; exact heap_alloc_new _ _
  have HF : Hid (Fr w w1 (fun j => j = C.b)) := by show Fr _ _ _; rw [hw1]; exact (Fr.refl _ _).alloc _
  have HW : Hid (C.own w1 d) := by show C.own _ _; rw [hw1]; exact HA.out.1.frame ((Fr.refl _ (fun _ => False)).alloc _) (fun h => h)
  have hpb : p ≠ C.b := by omega
  clear hp hw1 hbw
  go_wp2_with fail
  go_loopg [7, 8] 5 (fun g s7 s8 wr => ∃ (i m : Nat) (z : Int) (dk : Array α), g = m ∧ s7 = .int .i64 (i : Int) ∧ s8 = .int .i64 z ∧ z = 5 - (m : Int) ∧ m ≤ 5 ∧ a + 1 ≤ i ∧ i ≤ b ∧ (C.own wr dk ∧ Fr w1 wr (fun j => j = C.b)) ∧ partialIns C.lt a b m i dk = partialInsertionSort C.lt d a b)
  case atStart => exact ⟨a + 1, 5, _, d, rfl, by go_num, rfl, by omega, by omega, by omega, by omega, ⟨HW.out, Fr.refl _ _⟩, rfl⟩
  case round =>
    obtain ⟨i0, m, z, dk, hg, rfl, rfl, hz, hm, hai, hib, hst, hs⟩ := hrel
    have Hg : Hid _ := hg
    have HS : Hid (C.own wr dk ∧ Fr w1 wr (fun j => j = C.b)) := hst
    have Hs : Hid _ := hs
    clear hg hst hs
    cases m with
    | zero =>
      have hz5 : ¬ z < 5 := by omega
      have HR : (R1, R2) = (dk, false) := HRR.out.trans Hs.out.symm
      simp only [Prod.mk.injEq] at HR
      obtain ⟨rfl, rfl⟩ := HR
      clear hz
      go_wp2_with fail
      go_ret
      exact ⟨rfl, HS.out.1, HF.out.trans HS.out.2 (fun _ _ h => h)⟩
    | succ m =>
      have hz5 : z < 5 := by omega
      have hzd : decide (z < 5) = true := decide_eq_true hz5
      have hz0 : 0 ≤ z := by omega
      have Hz : Hid _ := hz
      clear hz
      obtain ⟨x0, rfl⟩ : ∃ x, x = wr := ⟨_, rfl⟩
      go_upto_block 2 with fail
      go_cut [7] from 17 to 30 (fun V wx => ∃ k : Nat, V = .int .i64 (k : Int) ∧ k = scanSorted C.lt dk b i0 ∧ i0 ≤ k ∧ k ≤ b ∧ C.own wx dk ∧ Fr w1 wx (fun j => j = C.b))
      case first =>
        go_wp2_with fail
        go_loopg [7] (b - i0) (fun g sv wr => ∃ (k : Nat), g = b - k ∧ sv = .int .i64 (k : Int) ∧ i0 ≤ k ∧ k ≤ b ∧ (C.own wr dk ∧ Fr w1 wr (fun j => j = C.b)) ∧ scanSorted C.lt dk b k = scanSorted C.lt dk b i0)
        case atStart => exact ⟨i0, rfl, rfl, Nat.le_refl _, hib, HS.out, rfl⟩
        case round =>
          obtain ⟨k, hg, rfl, hk0, hk1, hst, hs⟩ := hrel
          have Gg : Hid _ := hg
          have GS : Hid (C.own wr dk ∧ Fr w1 wr (fun j => j = C.b)) := hst
          have Gs : Hid _ := hs
          clear hg hst hs
          by_cases hkb : k < b
          · have hkx : (k : Int) < (b : Int) := by omega
            obtain ⟨c0, c1⟩ := box_cells HB.out GS.out.2 hpb
            have hl := HO.out.less wr dk ((HA.out.then HW.out HF.out).then GS.out.1 GS.out.2) (k) (k - 1) (by omega) (by omega)
            rw [show ((k : Nat) : Int) = (k : Int) by omega, show ((k - 1 : Nat) : Int) = (k : Int) - 1 by omega] at hl
            cases hlv : C.lt dk[k]! dk[k - 1]! with
            | false =>
              rw [hlv] at hl
              have Hs2 : Hid (scanSorted C.lt dk b (k + 1) = scanSorted C.lt dk b i0) := by show _ = _; rw [← Gs.out]; exact (ss_go hkb hlv).symm
              clear hlv
              go_wp2_with fail
              refine hl.mono ?_
              rintro e w5 ⟨rfl, hf5⟩
              have HX : Hid (C.own w5 dk ∧ Fr w1 w5 (fun j => j = C.b)) := ⟨GS.out.1.frame hf5 (fun h => h), GS.out.2.none hf5⟩
              clear hf5 hl c0 c1
              go_wp2_with fail
              go_roundg (b - (k + 1))
              case rel => exact ⟨k + 1, rfl, by go_num, by omega, by omega, HX.out, Hs2.out⟩
              case measure => rw [Gg.out]; omega
            | true =>
              rw [hlv] at hl
              have Hs2 : Hid (k = scanSorted C.lt dk b i0) := by show _ = _; rw [← Gs.out]; exact (ss_stop (.inr hlv)).symm
              clear hlv
              go_wp2_with fail
              refine hl.mono ?_
              rintro e w5 ⟨rfl, hf5⟩
              have HX : Hid (C.own w5 dk ∧ Fr w1 w5 (fun j => j = C.b)) := ⟨GS.out.1.frame hf5 (fun h => h), GS.out.2.none hf5⟩
              clear hf5 hl c0 c1
              go_wp2_with fail
              go_meet
              case rel => exact ⟨k, rfl, Hs2.out, by omega, by omega, HX.out.1, HX.out.2⟩
          · have hkx : ¬ (k : Int) < (b : Int) := by omega
            have Hs2 : Hid (k = scanSorted C.lt dk b i0) := by show _ = _; rw [← Gs.out]; exact (ss_stop (.inl hkb)).symm
            go_wp2_with fail
            go_meet
            case rel => exact ⟨k, rfl, Hs2.out, by omega, by omega, GS.out.1, GS.out.2⟩
      case rest =>
      obtain ⟨i, rfl, hi, hi0, hi1, hoI, hfI⟩ := hcut
      rename_i hKc
      refine hKc _ _ ?_
      clear hKc
      have Hi : Hid _ := hi
      have H3 : Hid (C.own wc dk ∧ Fr w1 wc (fun j => j = C.b)) := ⟨hoI, hfI⟩
      clear hi hoI hfI
      obtain ⟨w3, rfl⟩ : ∃ x, x = wc := ⟨_, rfl⟩
      by_cases hIb : i = b
      · have hIi : ((i : Int) == (b : Int)) = true := by rw [beq_iff_eq]; omega
        have HR : Hid (partialInsertionSort C.lt d a b = (dk, true)) := by show _ = _; rw [← Hs.out, partialIns_succ, ← Hi.out, if_pos hIb]
        have HR := HRR.out.trans HR.out
        simp only [Prod.mk.injEq] at HR
        obtain ⟨rfl, rfl⟩ := HR
        subst hIb
        go_wp2_with fail
        go_ret
        exact ⟨rfl, H3.out.1, HF.out.trans H3.out.2 (fun _ _ h => h)⟩
      · have hIi : ((i : Int) == (b : Int)) = false := by rw [beq_eq_false_iff_ne]; omega
        have hIn : (i == b) = false := by rw [beq_eq_false_iff_ne]; exact hIb
        by_cases h50 : b - a < 50
        · have h50i : (b : Int) - (a : Int) < 50 := by omega
          have HR : Hid (partialInsertionSort C.lt d a b = (dk, false)) := by show _ = _; rw [← Hs.out, partialIns_succ, ← Hi.out, if_neg hIb, if_pos h50]
          have HR := HRR.out.trans HR.out
          simp only [Prod.mk.injEq] at HR
          obtain ⟨rfl, rfl⟩ := HR
          go_wp2_with fail
          go_ret
          exact ⟨rfl, H3.out.1, HF.out.trans H3.out.2 (fun _ _ h => h)⟩
        · have h50i : ¬ (b : Int) - (a : Int) < 50 := by omega
          have HR : Hid (partialInsertionSort C.lt d a b = partialIns C.lt a b m i (fixUp C.lt b i (fixDown C.lt a i (swp dk i (i - 1))))) := by show _ = _; rw [← Hs.out, partialIns_succ, ← Hi.out, if_neg hIb, if_neg h50]
          obtain ⟨c0, c1⟩ := box_cells HB.out H3.out.2 hpb
          obtain ⟨w4, hs, hown_, hfr_⟩ := HO.out.swap w3 dk H3.out.1 (i) (i - 1) (by omega) (by omega)
          rw [show ((i : Nat) : Int) = (i : Int) by omega, show ((i - 1 : Nat) : Int) = (i : Int) - 1 by omega] at hs
          have H4 : Hid (C.own w4 (swp dk (i) (i - 1)) ∧ Fr w1 w4 (fun j => j = C.b)) := ⟨hown_, H3.out.2.trans hfr_ (fun _ _ h => h)⟩
          clear hown_ hfr_
          generalize swp dk i (i - 1) = d2 at H4 HR
          go_upto_if 47 with fail
          clear hs c0 c1
          go_cut [9, 47] from 48 to 66 (fun _ _ wx => True ∧ C.own wx (fixDown C.lt a i d2) ∧ Fr w1 wx (fun j => j = C.b))
          case first =>
            by_cases h2 : 2 ≤ i - a
            · have h2i : (2 : Int) ≤ (i : Int) - (a : Int) := by omega
              have h2d : decide ((2 : Int) ≤ (i : Int) - (a : Int)) = true := decide_eq_true h2i
              have HD : Hid (fixDown C.lt a i d2 = shiftDown C.lt (i - 1) d2) := if_pos h2
              go_wp2_with fail
              go_loopg [9] (i - 1) (fun g sv wr => ∃ (k : Nat) (y : Int) (dj : Array α), g = k ∧ sv = .int .i64 y ∧ y = (k : Int) ∧ k ≤ i - 1 ∧ (C.own wr dj ∧ Fr w1 wr (fun j => j = C.b)) ∧ shiftDown C.lt k dj = shiftDown C.lt (i - 1) d2)
              case atStart => exact ⟨i - 1, _, d2, rfl, rfl, by omega, Nat.le_refl _, H4.out, rfl⟩
              case round =>
                obtain ⟨k, y, dj, hg, rfl, hy, hk, hst, hs⟩ := hrel
                obtain rfl : y = (k : Int) := hy
                have Gg : Hid _ := hg
                have GS : Hid (C.own wr dj ∧ Fr w1 wr (fun j => j = C.b)) := hst
                have Gs : Hid _ := hs
                clear hg hst hs
                by_cases hk1 : 1 ≤ k
                · have hkx : (1 : Int) ≤ (k : Int) := by omega
                  obtain ⟨c0, c1⟩ := box_cells HB.out GS.out.2 hpb
                  have hl := HO.out.less wr dj ((HA.out.then HW.out HF.out).then GS.out.1 GS.out.2) (k) (k - 1) (by omega) (by omega)
                  rw [show ((k : Nat) : Int) = (k : Int) by omega, show ((k - 1 : Nat) : Int) = (k : Int) - 1 by omega] at hl
                  cases hlv : C.lt dj[k]! dj[k - 1]! with
                  | true =>
                    rw [hlv] at hl
                    have Hs2 : Hid (shiftDown C.lt (k - 1) (swp dj k (k - 1)) = shiftDown C.lt (i - 1) d2) := by show _ = _; rw [← Gs.out]; exact (sd_go hk1 hlv).symm
                    clear hlv
                    go_wp2_with fail
                    refine hl.mono ?_
                    rintro e w5 ⟨rfl, hf5⟩
                    have HX : Hid (C.own w5 dj ∧ Fr w1 w5 (fun j => j = C.b)) := ⟨GS.out.1.frame hf5 (fun h => h), GS.out.2.none hf5⟩
                    clear hf5 hl c0 c1
                    obtain ⟨c0, c1⟩ := box_cells HB.out HX.out.2 hpb
                    obtain ⟨w6, hs, hown_, hfr_⟩ := HO.out.swap w5 dj HX.out.1 (k) (k - 1) (by omega) (by omega)
                    rw [show ((k : Nat) : Int) = (k : Int) by omega, show ((k - 1 : Nat) : Int) = (k : Int) - 1 by omega] at hs
                    have HZ : Hid (C.own w6 (swp dj (k) (k - 1)) ∧ Fr w1 w6 (fun j => j = C.b)) := ⟨hown_, HX.out.2.trans hfr_ (fun _ _ h => h)⟩
                    clear hown_ hfr_
                    go_wp2_with fail
                    go_roundg (k - 1)
                    case rel => exact ⟨k - 1, _, swp dj k (k - 1), rfl, rfl, by omega, by omega, HZ.out, Hs2.out⟩
                    case measure => rw [Gg.out]; omega
                  | false =>
                    rw [hlv] at hl
                    have Hs2 : Hid (fixDown C.lt a i d2 = dj) := by show _ = _; rw [HD.out, ← Gs.out]; exact sd_stop (.inr hlv)
                    clear hlv
                    go_wp2_with fail
                    refine hl.mono ?_
                    rintro e w5 ⟨rfl, hf5⟩
                    have HX : Hid (C.own w5 dj ∧ Fr w1 w5 (fun j => j = C.b)) := ⟨GS.out.1.frame hf5 (fun h => h), GS.out.2.none hf5⟩
                    clear hf5 hl c0 c1
                    go_wp2_with fail
                    go_meet
                    case rel => exact ⟨trivial, by rw [Hs2.out]; exact HX.out.1, HX.out.2⟩
                · have hkx : ¬ (1 : Int) ≤ (k : Int) := by omega
                  have Hs2 : Hid (fixDown C.lt a i d2 = dj) := by show _ = _; rw [HD.out, ← Gs.out]; exact sd_stop (.inl hk1)
                  go_wp2_with fail
                  go_meet
                  case rel => exact ⟨trivial, by rw [Hs2.out]; exact GS.out.1, GS.out.2⟩
            · have h2i : ¬ (2 : Int) ≤ (i : Int) - (a : Int) := by omega
              have h2d : decide ((2 : Int) ≤ (i : Int) - (a : Int)) = false := decide_eq_false h2i
              have Hs2 : Hid (fixDown C.lt a i d2 = d2) := if_neg h2
              go_wp2_with fail
              go_meet
              case rel => exact ⟨trivial, by rw [Hs2.out]; exact H4.out.1, H4.out.2⟩
          case rest =>
          obtain ⟨-, hoI, hfI⟩ := hcut
          rename_i hKc
          refine hKc _ _ ?_
          clear hKc
          generalize fixDown C.lt a i d2 = d3 at hoI HR
          have H5 : Hid (C.own wc d3 ∧ Fr w1 wc (fun j => j = C.b)) := ⟨hoI, hfI⟩
          clear hoI hfI
          obtain ⟨w5, rfl⟩ : ∃ x, x = wc := ⟨_, rfl⟩
          go_upto_if 70 with fail
          by_cases h2 : 2 ≤ b - i
          · have h2i : (2 : Int) ≤ (b : Int) - (i : Int) := by omega
            have h2d : decide ((2 : Int) ≤ (b : Int) - (i : Int)) = true := decide_eq_true h2i
            have HD : Hid (fixUp C.lt b i d3 = shiftUp C.lt b (i + 1) d3) := if_pos h2
            go_wp2_with fail
            go_loopg [10] (b - (i + 1)) (fun g sv wr => ∃ (k : Nat) (y : Int) (dj : Array α), g = b - k ∧ sv = .int .i64 y ∧ y = (k : Int) ∧ i + 1 ≤ k ∧ k ≤ b ∧ (C.own wr dj ∧ Fr w1 wr (fun j => j = C.b)) ∧ shiftUp C.lt b k dj = shiftUp C.lt b (i + 1) d3)
            case atStart => exact ⟨i + 1, _, d3, rfl, rfl, by omega, Nat.le_refl _, by omega, H5.out, rfl⟩
            case round =>
              obtain ⟨k, y, dj, hg, rfl, hy, hk0, hk, hst, hs⟩ := hrel
              obtain rfl : y = (k : Int) := hy
              have Gg : Hid _ := hg
              have GS : Hid (C.own wr dj ∧ Fr w1 wr (fun j => j = C.b)) := hst
              have Gs : Hid _ := hs
              clear hg hst hs
              by_cases hk1 : k < b
              · have hkx : (k : Int) < (b : Int) := by omega
                obtain ⟨c0, c1⟩ := box_cells HB.out GS.out.2 hpb
                have hl := HO.out.less wr dj ((HA.out.then HW.out HF.out).then GS.out.1 GS.out.2) (k) (k - 1) (by omega) (by omega)
                rw [show ((k : Nat) : Int) = (k : Int) by omega, show ((k - 1 : Nat) : Int) = (k : Int) - 1 by omega] at hl
                cases hlv : C.lt dj[k]! dj[k - 1]! with
                | true =>
                  rw [hlv] at hl
                  have Hs2 : Hid (shiftUp C.lt b (k + 1) (swp dj k (k - 1)) = shiftUp C.lt b (i + 1) d3) := by show _ = _; rw [← Gs.out]; exact (su_go hk1 hlv).symm
                  clear hlv
                  go_wp2_with fail
                  refine hl.mono ?_
                  rintro e w6 ⟨rfl, hf5⟩
                  have HX : Hid (C.own w6 dj ∧ Fr w1 w6 (fun j => j = C.b)) := ⟨GS.out.1.frame hf5 (fun h => h), GS.out.2.none hf5⟩
                  clear hf5 hl c0 c1
                  obtain ⟨c0, c1⟩ := box_cells HB.out HX.out.2 hpb
                  obtain ⟨w7, hs, hown_, hfr_⟩ := HO.out.swap w6 dj HX.out.1 (k) (k - 1) (by omega) (by omega)
                  rw [show ((k : Nat) : Int) = (k : Int) by omega, show ((k - 1 : Nat) : Int) = (k : Int) - 1 by omega] at hs
                  have HZ : Hid (C.own w7 (swp dj (k) (k - 1)) ∧ Fr w1 w7 (fun j => j = C.b)) := ⟨hown_, HX.out.2.trans hfr_ (fun _ _ h => h)⟩
                  clear hown_ hfr_
                  go_wp2_with fail
                  go_roundg (b - (k + 1))
                  case rel => exact ⟨k + 1, _, swp dj k (k - 1), rfl, rfl, by omega, by omega, by omega, HZ.out, Hs2.out⟩
                  case measure => rw [Gg.out]; omega
                | false =>
                  rw [hlv] at hl
                  have Hs2 : Hid (fixUp C.lt b i d3 = dj) := by show _ = _; rw [HD.out, ← Gs.out]; exact su_stop (.inr hlv)
                  clear hlv
                  go_wp2_with fail
                  refine hl.mono ?_
                  rintro e w6 ⟨rfl, hf5⟩
                  have HX : Hid (C.own w6 dj ∧ Fr w1 w6 (fun j => j = C.b)) := ⟨GS.out.1.frame hf5 (fun h => h), GS.out.2.none hf5⟩
                  clear hf5 hl c0 c1
                  go_wp2_with fail
                  go_roundg m
                  case rel => exact ⟨i, m, _, dj, rfl, rfl, rfl, by have := Hz.out; omega, by omega, by omega, by omega, HX.out, by rw [HR.out, Hs2.out]⟩
                  case measure => rw [Hg.out]; omega
              · have hkx : ¬ (k : Int) < (b : Int) := by omega
                have Hs2 : Hid (fixUp C.lt b i d3 = dj) := by show _ = _; rw [HD.out, ← Gs.out]; exact su_stop (.inl hk1)
                go_wp2_with fail
                go_roundg m
                case rel => exact ⟨i, m, _, dj, rfl, rfl, rfl, by have := Hz.out; omega, by omega, by omega, by omega, GS.out, by rw [HR.out, Hs2.out]⟩
                case measure => rw [Hg.out]; omega
          · have h2i : ¬ (2 : Int) ≤ (b : Int) - (i : Int) := by omega
            have h2d : decide ((2 : Int) ≤ (b : Int) - (i : Int)) = false := decide_eq_false h2i
            have Hs2 : Hid (fixUp C.lt b i d3 = d3) := if_neg h2
            go_wp2_with fail
            go_roundg m
            case rel => exact ⟨i, m, _, d3, rfl, rfl, rfl, by have := Hz.out; omega, by omega, by omega, by omega, H5.out, by rw [HR.out, Hs2.out]⟩
            case measure => rw [Hg.out]; omega

end

end Go.Proofs.YtnffjafddbbjaaaGreatDoor

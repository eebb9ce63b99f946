/-
  The library's partition into equal and greater ones, by a function of two places that may lay new blocks.
-/
import Derived.Test.YtnffjafddbbjaaaGreatDoorGPart
namespace Go.Proofs.YtnffjafddbbjaaaGreatDoor
open Go.RowKit Go.Sort

section
variable {α : Type} [Inhabited α]

theorem pe_done {lt : α → α → Bool} {d : Array α} {a i j I J : Nat} (hI : I = scanUp (fun x => !lt d[a]! x) d j i) (hJ : J = scanDown (fun x => lt d[a]! x) d I j) (h : J < I) : partEqLoop lt a i j d = (I, d) := by
  rw [partEqLoop_eq, ← hI, ← hJ, if_pos h]
theorem pe_more {lt : α → α → Bool} {d : Array α} {a i j I J : Nat} (hI : I = scanUp (fun x => !lt d[a]! x) d j i) (hJ : J = scanDown (fun x => lt d[a]! x) d I j) (h : ¬ J < I) : partEqLoop lt a i j d = partEqLoop lt a (I + 1) (J - 1) (swp d I J) := by
  rw [partEqLoop_eq, ← hI, ← hJ, if_neg h]

set_option maxRecDepth 4000 in
set_option maxHeartbeats 1600000 in
theorem gPartE_any (C : SortC α) (w0 : World) (hO : C.Ok w0) (a b pv : Nat) (d : Array α) (w : World) (hA : C.At w0 w d) (hab : a + 1 < b) (hb : b ≤ C.n) (hp2 : pv < b) :
    Calls Tryz.prog 118 #[.agg #[.func (.func C.g) #[] C.lb, .func (.func C.sf) #[] C.sb], .int .i64 (a : Int), .int .i64 (b : Int), .int .i64 (pv : Int)] w fun e w' => (∃ (mid : Nat) (d4 : Array α), e = .returned (.int .i64 (mid : Int)) ∧ partitionEqual C.lt d a b pv = (mid, d4) ∧ C.own w' d4) ∧ Fr w w' (fun j => j = C.b) := by
  have eg := hO.eg
  have hn := hO.hn
  have hbw : C.b < w.heap.size := Nat.lt_of_lt_of_le hO.hb hA.2.size
  have HO : Hid (C.Ok w0) := hO
  have HA : Hid (C.At w0 w d) := hA
  clear hO hA
  go_enter Tryz.func118, Tryz.ntmps118
  go_upto_region 1 with fail
  obtain ⟨p, hp⟩ : ∃ p, p = w.heap.size := ⟨_, rfl⟩
  obtain ⟨w1, hw1⟩ : ∃ x, x = w.alloc (.cells #[.func (.func C.g) #[] C.lb, .func (.func C.sf) #[] C.sb] 150) := ⟨_, rfl⟩
  rw [← hw1, ← hp]
  have HB : Hid (w1.heap[p]? = some (.cells #[.func (.func C.g) #[] C.lb, .func (.func C.sf) #[] C.sb] 150 (0, 0))) := by show _ = _; rw [hw1, hp]; exact heap_alloc_new _ _
  have HF : Hid (Fr w w1 (fun j => j = C.b)) := by show Fr _ _ _; rw [hw1]; exact (Fr.refl _ _).alloc _
  have HW : Hid (C.own w1 d) := by show C.own _ _; rw [hw1]; exact HA.out.1.frame ((Fr.refl _ (fun _ => False)).alloc _) (fun h => h)
  have hpb : p ≠ C.b := by omega
  clear hp hw1 hbw
  obtain ⟨c0, c1⟩ := box_cells HB.out (Fr.refl w1 (fun j => j = C.b)) hpb
  obtain ⟨w2, hs, hown_, hfr_⟩ := HO.out.swap w1 d HW.out (a) (pv) (by omega) (by omega)
  rw [show ((a : Nat) : Int) = (a : Int) by omega, show ((pv : Nat) : Int) = (pv : Int) by omega] at hs
  have H2 : Hid (C.own w2 (swp d (a) (pv)) ∧ Fr w1 w2 (fun j => j = C.b)) := ⟨hown_, (Fr.refl w1 (fun j => j = C.b)).trans hfr_ (fun _ _ h => h)⟩
  clear hown_ hfr_
  go_wp2_with fail
  go_loopg [9, 10] (b - 1 + 1 - (a + 1)) (fun g s10 s11 wr => ∃ (i j : Nat) (z y : Int) (dk : Array α), g = j + 1 - i ∧ s10 = .int .i64 z ∧ z = (i : Int) ∧ s11 = .int .i64 y ∧ y = (j : Int) ∧ a + 1 ≤ i ∧ i ≤ j + 2 ∧ j ≤ b - 1 ∧ (C.own wr dk ∧ Fr w1 wr (fun j => j = C.b)) ∧ partEqLoop C.lt a i j dk = partEqLoop C.lt a (a + 1) (b - 1) (swp d a pv))
  case atStart => exact ⟨a + 1, b - 1, _, _, swp d a pv, rfl, rfl, by omega, rfl, by omega, by omega, by omega, by omega, H2.out, rfl⟩
  case round =>
    obtain ⟨i, j, z, y, dk, hg, rfl, hz, rfl, hy, hai, hij, hjb, hst, hs⟩ := hrel
    obtain rfl : z = (i : Int) := hz
    obtain rfl : y = (j : Int) := hy
    have Hg : Hid _ := hg
    have HS : Hid (C.own wr dk ∧ Fr w1 wr (fun j => j = C.b)) := hst
    have Hs : Hid _ := hs
    clear hg hst hs
    obtain ⟨x0, rfl⟩ : ∃ x, x = wr := ⟨_, rfl⟩
    go_upto_block 2 with fail
    go_cut [9] from 20 to 32 (fun V wx => ∃ k : Nat, V = .int .i64 (k : Int) ∧ k = scanUp (fun x => !C.lt dk[a]! x) dk (j) (i) ∧ i ≤ k ∧ k ≤ j + 2 ∧ C.own wx dk ∧ Fr w1 wx (fun j => j = C.b))
    case first =>
      go_wp2_with fail
      go_loopg [9] (j + 1 - i) (fun g sv wr => ∃ (k : Nat) (z : Int), g = j + 1 - k ∧ sv = .int .i64 z ∧ z = (k : Int) ∧ i ≤ k ∧ k ≤ j + 2 ∧ C.own wr dk ∧ Fr w1 wr (fun j => j = C.b) ∧ scanUp (fun x => !C.lt dk[a]! x) dk (j) k = scanUp (fun x => !C.lt dk[a]! x) dk (j) (i))
      case atStart => exact ⟨i, _, rfl, rfl, by omega, by omega, by omega, HS.out.1, HS.out.2, rfl⟩
      case round =>
        obtain ⟨k, z, hg, rfl, hz, hk0, hk, hown, hfr, hs⟩ := hrel
        obtain rfl : z = (k : Int) := hz
        have Gg : Hid _ := hg
        have Gown : Hid (C.own wr dk) := hown
        have Gfr : Hid (Fr w1 wr (fun j => j = C.b)) := hfr
        have Gs : Hid _ := hs
        clear hg hown hfr hs
        by_cases hkj : k ≤ j
        · have hkx : (k : Int) ≤ (j : Int) := by omega
          obtain ⟨c0, c1⟩ := box_cells HB.out Gfr.out hpb
          have hl := HO.out.less wr dk ((HA.out.then HW.out HF.out).then Gown.out Gfr.out) (a) (k) (by omega) (by omega)
          rw [show ((a : Nat) : Int) = (a : Int) by omega, show ((k : Nat) : Int) = (k : Int) by omega] at hl
          cases hlv : C.lt dk[a]! dk[k]! with
          | true =>
            rw [hlv] at hl
            have Hs2 : Hid (k = scanUp (fun x => !C.lt dk[a]! x) dk (j) (i)) := by show _ = _; rw [← Gs.out]; exact (up_stop (.inr (by show (!C.lt dk[a]! dk[k]!) = false; rw [hlv]; rfl))).symm
            clear hlv
            go_wp2_with fail
            refine hl.mono ?_
            rintro e w5 ⟨rfl, hf5⟩
            have HX : Hid (C.own w5 dk ∧ Fr w1 w5 (fun j => j = C.b)) := ⟨Gown.out.frame hf5 (fun h => h), Gfr.out.none hf5⟩
            clear hf5 hl c0 c1
            go_wp2_with fail
            go_meet
            case rel => exact ⟨k, rfl, Hs2.out, by omega, by omega, HX.out.1, HX.out.2⟩
          | false =>
            rw [hlv] at hl
            have Hs2 : Hid (scanUp (fun x => !C.lt dk[a]! x) dk (j) (k + 1) = scanUp (fun x => !C.lt dk[a]! x) dk (j) (i)) := by show _ = _; rw [← Gs.out]; exact (up_go hkj (by show (!C.lt dk[a]! dk[k]!) = true; rw [hlv]; rfl)).symm
            clear hlv
            go_wp2_with fail
            refine hl.mono ?_
            rintro e w5 ⟨rfl, hf5⟩
            have HX : Hid (C.own w5 dk ∧ Fr w1 w5 (fun j => j = C.b)) := ⟨Gown.out.frame hf5 (fun h => h), Gfr.out.none hf5⟩
            clear hf5 hl c0 c1
            go_wp2_with fail
            go_roundg (j + 1 - (k + 1))
            case rel => exact ⟨k + 1, _, rfl, rfl, by omega, by omega, by omega, HX.out.1, HX.out.2, Hs2.out⟩
            case measure => rw [Gg.out]; omega
        · have hkx : ¬ (k : Int) ≤ (j : Int) := by omega
          have Hs2 : Hid (k = scanUp (fun x => !C.lt dk[a]! x) dk (j) (i)) := by show _ = _; rw [← Gs.out]; exact (up_stop (.inl hkj)).symm
          go_wp2_with fail
          go_meet
          case rel => exact ⟨k, rfl, Hs2.out, by omega, by omega, Gown.out, Gfr.out⟩
    case rest =>
    obtain ⟨I2, rfl, hI, hI3, hI4, hoI, hfI⟩ := hcut
    rename_i hKc
    refine hKc _ _ ?_
    clear hKc
    have HI2 : Hid _ := hI
    have H6 : Hid (C.own wc dk ∧ Fr w1 wc (fun j => j = C.b)) := ⟨hoI, hfI⟩
    clear hI hoI hfI
    obtain ⟨w6, rfl⟩ : ∃ x, x = wc := ⟨_, rfl⟩
    go_upto_block 4 with fail
    go_cut [10] from 33 to 44 (fun V wx => ∃ k : Nat, V = .int .i64 (k : Int) ∧ k = scanDown (fun x => C.lt dk[a]! x) dk (I2) (j) ∧ k ≤ j ∧ C.own wx dk ∧ Fr w1 wx (fun j => j = C.b))
    case first =>
      go_wp2_with fail
      go_loopg [10] (j) (fun g sv wr => ∃ (k : Nat) (z : Int), g = k ∧ sv = .int .i64 z ∧ z = (k : Int) ∧ k ≤ j ∧ C.own wr dk ∧ Fr w1 wr (fun j => j = C.b) ∧ scanDown (fun x => C.lt dk[a]! x) dk (I2) k = scanDown (fun x => C.lt dk[a]! x) dk (I2) (j))
      case atStart => exact ⟨j, _, rfl, rfl, by omega, Nat.le_refl _, H6.out.1, H6.out.2, rfl⟩
      case round =>
        obtain ⟨k, z, hg, rfl, hz, hk, hown, hfr, hs⟩ := hrel
        obtain rfl : z = (k : Int) := hz
        have Gg : Hid _ := hg
        have Gown : Hid (C.own wr dk) := hown
        have Gfr : Hid (Fr w1 wr (fun j => j = C.b)) := hfr
        have Gs : Hid _ := hs
        clear hg hown hfr hs
        by_cases hkj : I2 ≤ k
        · have hkx : (I2 : Int) ≤ (k : Int) := by omega
          obtain ⟨c0, c1⟩ := box_cells HB.out Gfr.out hpb
          have hl := HO.out.less wr dk ((HA.out.then HW.out HF.out).then Gown.out Gfr.out) (a) (k) (by omega) (by omega)
          rw [show ((a : Nat) : Int) = (a : Int) by omega, show ((k : Nat) : Int) = (k : Int) by omega] at hl
          cases hlv : C.lt dk[a]! dk[k]! with
          | true =>
            rw [hlv] at hl
            have Hs2 : Hid (scanDown (fun x => C.lt dk[a]! x) dk (I2) (k - 1) = scanDown (fun x => C.lt dk[a]! x) dk (I2) (j)) := by show _ = _; rw [← Gs.out]; exact (down_go hkj (by omega) (by show C.lt dk[a]! dk[k]! = true; rw [hlv])).symm
            clear hlv
            go_wp2_with fail
            refine hl.mono ?_
            rintro e w5 ⟨rfl, hf5⟩
            have HX : Hid (C.own w5 dk ∧ Fr w1 w5 (fun j => j = C.b)) := ⟨Gown.out.frame hf5 (fun h => h), Gfr.out.none hf5⟩
            clear hf5 hl c0 c1
            go_wp2_with fail
            go_roundg ((k - 1))
            case rel => exact ⟨k - 1, _, rfl, rfl, by omega, by omega, HX.out.1, HX.out.2, Hs2.out⟩
            case measure => rw [Gg.out]; omega
          | false =>
            rw [hlv] at hl
            have Hs2 : Hid (k = scanDown (fun x => C.lt dk[a]! x) dk (I2) (j)) := by show _ = _; rw [← Gs.out]; exact (down_stop (.inr (by show C.lt dk[a]! dk[k]! = false; rw [hlv]))).symm
            clear hlv
            go_wp2_with fail
            refine hl.mono ?_
            rintro e w5 ⟨rfl, hf5⟩
            have HX : Hid (C.own w5 dk ∧ Fr w1 w5 (fun j => j = C.b)) := ⟨Gown.out.frame hf5 (fun h => h), Gfr.out.none hf5⟩
            clear hf5 hl c0 c1
            go_wp2_with fail
            go_meet
            case rel => exact ⟨k, rfl, Hs2.out, by omega, HX.out.1, HX.out.2⟩
        · have hkx : ¬ (I2 : Int) ≤ (k : Int) := by omega
          have Hs2 : Hid (k = scanDown (fun x => C.lt dk[a]! x) dk (I2) (j)) := by show _ = _; rw [← Gs.out]; exact (down_stop (.inl hkj)).symm
          go_wp2_with fail
          go_meet
          case rel => exact ⟨k, rfl, Hs2.out, by omega, Gown.out, Gfr.out⟩
    case rest =>
    obtain ⟨J2, rfl, hJ, hJ2, hoJ, hfJ⟩ := hcut
    rename_i hKc
    refine hKc _ _ ?_
    clear hKc
    have HJ2 : Hid _ := hJ
    have H7 : Hid (C.own wc dk ∧ Fr w1 wc (fun j => j = C.b)) := ⟨hoJ, hfJ⟩
    clear hJ hoJ hfJ
    obtain ⟨w7, rfl⟩ : ∃ x, x = wc := ⟨_, rfl⟩
    by_cases hIJ2 : J2 < I2
    · have hIJi2 : (J2 : Int) < (I2 : Int) := by omega
      go_wp2_with fail
      go_ret
      exact ⟨⟨I2, dk, rfl, (Hs.out).symm.trans (pe_done HI2.out HJ2.out hIJ2), H7.out.1⟩, HF.out.trans H7.out.2 (fun _ _ h => h)⟩
    · have hIJi2 : ¬ (J2 : Int) < (I2 : Int) := by omega
      obtain ⟨c0, c1⟩ := box_cells HB.out H7.out.2 hpb
      obtain ⟨w8, hs, hown_, hfr_⟩ := HO.out.swap w7 dk H7.out.1 (I2) (J2) (by omega) (by omega)
      rw [show ((I2 : Nat) : Int) = (I2 : Int) by omega, show ((J2 : Nat) : Int) = (J2 : Int) by omega] at hs
      have H8 : Hid (C.own w8 (swp dk (I2) (J2)) ∧ Fr w1 w8 (fun j => j = C.b)) := ⟨hown_, H7.out.2.trans hfr_ (fun _ _ h => h)⟩
      clear hown_ hfr_
      go_wp2_with fail
      go_roundg (J2 - 1 + 1 - (I2 + 1))
      case rel => exact ⟨I2 + 1, J2 - 1, _, _, swp dk I2 J2, rfl, rfl, by omega, rfl, by omega, by omega, by omega, by omega, H8.out, (pe_more HI2.out HJ2.out hIJ2).symm.trans Hs.out⟩
      case measure => rw [Hg.out]; omega

end

end Go.Proofs.YtnffjafddbbjaaaGreatDoor

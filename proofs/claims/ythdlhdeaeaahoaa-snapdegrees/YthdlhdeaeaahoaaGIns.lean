/-
  The library's insertion sort, by a function of two places that may lay new blocks.
-/
import Derived.Test.YthdlhdeaeaahoaaGState
import Derived.Deep.LoopGhost
import Derived.BigCall
import Derived.BigGuard
namespace Go.Proofs.Ythdlhdeaeaahoaa
open Go.RowKit Go.Sort

theorem box_cells {w1 z : World} {p : Nat} {x y : Value} {T : TypeId} {S : Nat → Prop} (h : w1.heap[p]? = some (.cells #[x, y] T (0, 0))) (f : Fr w1 z S) (hs : ¬ S p) : z.cell? ⟨p, 0, none⟩ = some x ∧ z.cell? ⟨p, 1, none⟩ = some y :=
  ⟨two_cell0 (f.kept h hs), two_cell1 (f.kept h hs)⟩
section
variable {α : Type} [Inhabited α]

set_option maxRecDepth 4000 in
set_option maxHeartbeats 800000 in
theorem gIns_any (C : SortC α) (w0 : World) (hO : C.Ok w0) (a b : Nat) (d : Array α) (w : World) (hA : C.At w0 w d) (hab : a ≤ b) (hb : b ≤ C.n) :
    Calls Try.prog 70 #[.agg #[.func (.func C.g) #[] C.lb, .func (.func C.sf) #[] C.sb], .int .i64 (a : Int), .int .i64 (b : Int)] w fun e w' => e = .returned (.tuple #[]) ∧ C.own w' (insertionSort C.lt d a b) ∧ Fr w w' (fun j => j = C.b) := by
  have eg := hO.eg
  have hn := hO.hn
  have hbw : C.b < w.heap.size := Nat.lt_of_lt_of_le hO.hb hA.2.size
  have HO : Hid (C.Ok w0) := hO
  have HA : Hid (C.At w0 w d) := hA
  clear hO hA
  go_enter Try.func70, Try.ntmps70
  go_wp2
  obtain ⟨p, hp⟩ : ∃ p, p = w.heap.size := ⟨_, rfl⟩
  obtain ⟨w1, hw1⟩ : ∃ x, x = w.alloc (.cells #[.func (.func C.g) #[] C.lb, .func (.func C.sf) #[] C.sb] 99) := ⟨_, rfl⟩
  rw [← hw1, ← hp]
  have HB : Hid (w1.heap[p]? = some (.cells #[.func (.func C.g) #[] C.lb, .func (.func C.sf) #[] C.sb] 99 (0, 0))) := by show _ = _; rw [hw1, hp]; exact heap_alloc_new _ _
  have HF : Hid (Fr w w1 (fun j => j = C.b)) := by show Fr _ _ _; rw [hw1]; exact (Fr.refl _ _).alloc _
  have HW : Hid (C.own w1 d) := by show C.own _ _; rw [hw1]; exact HA.out.1.frame ((Fr.refl _ (fun _ => False)).alloc _) (fun h => h)
  have hpb : p ≠ C.b := by omega
  clear hp hw1 hbw
  go_loopg [6] (b + 1 - (a + 1)) (fun g s6 wr => ∃ (i : Nat) (dk : Array α), g = b + 1 - i ∧ s6 = .int .i64 (i : Int) ∧ a < i ∧ i ≤ b + 1 ∧ C.own wr dk ∧ Fr w1 wr (fun j => j = C.b) ∧ insOuter C.lt a b i dk = insOuter C.lt a b (a + 1) d)
  case atStart => exact ⟨a + 1, d, by omega, by go_num, by omega, by omega, HW.out, Fr.refl _ _, rfl⟩
  case round =>
    obtain ⟨i, dk, hg, rfl, hai, hib, hown, hfr, hins⟩ := hrel
    have Hg : Hid _ := hg
    have Hown : Hid (C.own wr dk) := hown
    have Hfr : Hid (Fr w1 wr (fun j => j = C.b)) := hfr
    have Hins : Hid _ := hins
    clear hg hown hfr hins
    by_cases hlt : i < b
    · have hin : (i : Int) < (b : Int) := by omega
      have hin' : decide (i < b) = true := decide_eq_true hlt
      go_wp2_with fail
      go_loopg [7] i (fun g s7 wx => ∃ (j : Nat) (dj : Array α), g = j ∧ s7 = .int .i64 (j : Int) ∧ a ≤ j ∧ j ≤ i ∧ C.own wx dj ∧ Fr w1 wx (fun j => j = C.b) ∧ insInner C.lt a j dj = insInner C.lt a i dk)
      case atStart => exact ⟨i, dk, rfl, rfl, by omega, Nat.le_refl _, Hown.out, Hfr.out, rfl⟩
      case round =>
        obtain ⟨j, dj, hg2, rfl, haj, hji, hown, hfr, hi2⟩ := hrel
        have Hg2 : Hid _ := hg2
        have Hown2 : Hid (C.own wr dj) := hown
        have Hfr2 : Hid (Fr w1 wr (fun j => j = C.b)) := hfr
        have Hi2 : Hid _ := hi2
        clear hg2 hown hfr hi2
        have HOUT : Hid ((j ≤ a ∨ C.lt dj[j]! dj[j - 1]! = false) → insOuter C.lt a b (i + 1) dj = insOuter C.lt a b (a + 1) d) := fun hs => by
          rw [← Hins.out, insOuter_go _ _ _ _ _ hlt, ← Hi2.out, insInner_stop _ _ _ _ hs]
        have hAt : C.At w0 wr dj := (HA.out.then HW.out HF.out).then Hown2.out Hfr2.out
        obtain ⟨c0, c1⟩ := box_cells HB.out Hfr2.out hpb
        by_cases hja : a < j
        · have hja2 : (a : Int) < (j : Int) := by omega
          have hl := HO.out.less wr dj hAt j (j - 1) (by omega) (by omega)
          rw [show (((j - 1 : Nat) : Int)) = (j : Int) - 1 by omega] at hl
          clear hAt
          cases hlv : C.lt dj[j]! dj[j - 1]! with
          | true =>
            rw [hlv] at hl
            have Hlv : Hid _ := hlv
            clear hlv
            go_wp2_with fail
            refine hl.mono ?_
            rintro e w' ⟨rfl, hf'⟩
            obtain ⟨-, c1'⟩ := box_cells HB.out (Hfr2.out.none hf') hpb
            obtain ⟨w2, hs, hown', hf2⟩ := HO.out.swap w' dj (Hown2.out.frame hf' (fun h => h)) j (j - 1) (by omega) (by omega)
            rw [show (((j - 1 : Nat) : Int)) = (j : Int) - 1 by omega] at hs
            have HA2 : Hid (C.own w2 (swp dj j (j - 1)) ∧ Fr w1 w2 (fun j => j = C.b)) := ⟨hown', (Hfr2.out.none hf').trans hf2 (fun _ _ h => h)⟩
            clear hown' hf2 hf' hl c0 c1
            go_wp2_with fail
            go_roundg (j - 1)
            case rel => exact ⟨j - 1, swp dj j (j - 1), rfl, by congr 1; omega, by omega, by omega, HA2.out.1, HA2.out.2, by rw [← Hi2.out, insInner_go _ _ _ _ hja Hlv.out]⟩
            case measure => rw [Hg2.out]; omega
          | false =>
            rw [hlv] at hl
            have HOUT := HOUT.out (.inr hlv)
            have HOUT2 : Hid _ := HOUT
            clear hlv HOUT
            go_wp2_with fail
            refine hl.mono ?_
            rintro e w' ⟨rfl, hf'⟩
            have HA2 : Hid (C.own w' dj ∧ Fr w1 w' (fun j => j = C.b)) := ⟨Hown2.out.frame hf' (fun h => h), Hfr2.out.none hf'⟩
            clear hf' hl c0 c1
            go_wp2_with fail
            go_roundg (b + 1 - (i + 1))
            case rel => exact ⟨i + 1, dj, rfl, by go_num, by omega, by omega, HA2.out.1, HA2.out.2, HOUT2.out⟩
            case measure => rw [Hg.out]; omega
        · have HOUT := HOUT.out (.inl (by omega))
          have HOUT2 : Hid _ := HOUT
          clear HOUT
          have hja2 : ¬ (a : Int) < (j : Int) := by omega
          clear c0 c1 hAt
          go_wp2_with fail
          go_roundg (b + 1 - (i + 1))
          case rel => exact ⟨i + 1, dj, rfl, by go_num, by omega, by omega, Hown2.out, Hfr2.out, HOUT2.out⟩
          case measure => rw [Hg.out]; omega
    · have hin : ¬ (i : Int) < (b : Int) := by omega
      have hin' : decide (i < b) = false := decide_eq_false hlt
      go_wp2_with fail
      go_end0
      exact ⟨rfl, by unfold insertionSort; rw [← Hins.out, insOuter_stop _ _ _ _ _ hlt]; exact Hown.out, HF.out.trans Hfr.out (fun _ _ h => h)⟩
end

end Go.Proofs.Ythdlhdeaeaahoaa

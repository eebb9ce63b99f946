/-
  A slice of bytes as a string; the contract of the law's own first test, known: it returns true and touches nothing that was there.
-/
import Derived.Test.YtimegheijfnkaaaTake
namespace Go.Proofs.Ytimegheijfnkaaa
open Go.RowKit

/-- Bytes as a string. -/
def strOf (bs : List Nat) : ByteArray := strOfNums (bs.map fun (b : Nat) => (b : Int))

theorem conv_reads {w : World} {v : Value} {bs : List Nat} (h : Reads .u8 w v bs) : (convert 23 9 v).run Try.prog w = .ok (.string (strOf bs)) w := by
  obtain ⟨ao, cap, rfl, hlc, hc⟩ := h
  rw [length_row] at hlc hc ⊢
  by_cases h0 : 0 < bs.length
  · obtain ⟨b, off, rfl, hcell⟩ := hc h0
    refine run_convert_bytes_arg w 23 5 Try.underlying23 Try.underlying5 b off bs.length cap _ (by simp) (fun i hi => ?_) 9 Try.underlying9
    rw [hcell i _ (row_get .u8 bs i hi)]
    simp [List.getD_eq_getElem?_getD, hi]
  · have e : bs = [] := List.eq_nil_of_length_eq_zero (by omega)
    subst e
    rw [run_convert_bytes_string w 23 9 5 _ _ cap Try.underlying23 Try.underlying5 Try.underlying9]
    cases ao with
    | none => simp [Conv.bytesToString, strOf, strOfNums]; rfl
    | some a =>
      have := run_bytesToString (P := Try.prog) w a 0 cap [] (by simp [loadCells, loadCellsFrom])
      exact this

theorem encs_known : encs [300, 0] = [172, 2, 0] := by simp [encs, enc_big 300 (by decide), enc_small 2 (by decide), enc_small 0 (by decide)]
theorem took_known : took [172, 2, 0] 300 = (300, 2, 0) := by decide +kernel
theorem took_known2 : took [128, 0] 9 = (0, 0, 21) := by decide +kernel
theorem took_known3 : took [172, 2, 0] 299 = (0, 0, 22) := by decide +kernel
theorem str_known : strOf [172, 2, 0] = { data := #[172, 2, 0] } := by rfl

set_option maxRecDepth 4000 in
set_option maxHeartbeats 1600000 in
theorem known_any (w : World) : Calls Try.prog 8 #[] w fun e w' => e = .returned (.bool true) ∧ Fr w w' (fun _ => False) := by
  go_enter Try.func8, Try.ntmps8
  go_wp2_with fail
  refine (puts_any _ [300, 0] _ (holds_lit w 24 [.int .u64 300, .int .u64 0] (by simp)) (by simp) (by simp)).mono ?_
  rw [encs_known]
  rintro e w1 ⟨sv, rfl, ho, hf, hn⟩
  have hr := ho.reads
  have hf1 := ((Fr.refl w (fun _ => False)).alloc (.cells #[.int .u64 300, .int .u64 0] 24)).none hf
  clear hf ho hn
  go_wp2_with fail
  refine (take_any sv [172, 2, 0] 300 w1 hr (by simp) (by simp) (by decide)).mono ?_
  rw [took_known]
  rintro e w2 ⟨rfl, rfl⟩
  go_wp2_with fail
  have hr2 := hr.keep ((Fr.refl w2 (fun _ => False)).alloc (.cells #[.int .u8 128, .int .u8 0] 5))
  have hf2 := hf1.alloc (.cells #[.int .u8 128, .int .u8 0] 5)
  have hl2 := holds_lit w2 5 [.int .u8 128, .int .u8 0] (by simp)
  simp only [List.length_cons, List.length_nil] at hl2
  clear hr hf1
  refine (take_any _ [128, 0] 9 _ hl2 (by simp) (by simp) (by decide)).mono ?_
  rw [took_known2]
  rintro e w3 ⟨rfl, rfl⟩
  generalize w2.alloc (.cells #[.int .u8 128, .int .u8 0] 5) = w3 at *
  clear hl2
  go_wp2_with fail
  refine (take_any sv [172, 2, 0] 299 w3 hr2 (by simp) (by simp) (by decide)).mono ?_
  rw [took_known3]
  rintro e w4 ⟨rfl, rfl⟩
  have hcv := conv_reads hr2
  rw [str_known] at hcv
  go_wp2_with fail
  refine (size_any 127 w4 (by decide)).mono ?_
  rw [enc_small 127 (by decide)]
  rintro e w5 ⟨rfl, rfl⟩
  go_wp2
  go_ret
  exact ⟨rfl, hf2⟩
end Go.Proofs.Ytimegheijfnkaaa

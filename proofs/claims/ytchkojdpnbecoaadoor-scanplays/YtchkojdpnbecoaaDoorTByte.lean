/-
  The reference scanner's bytes; a new scanner.
-/
import Derived.Test.YtchkojdpnbecoaaDoorTWord
import Derived.Test.YtchkojdpnbecoaaDoorStr
namespace Go.Proofs.YtchkojdpnbecoaaDoor
open Go.RowKit

theorem strOf_length (bs : List Nat) : (strOf bs).size = bs.length := by simp [strOf, strOfNums, ByteArray.size]
theorem strOf_one (b : Nat) (hb : b < 256) : chAt (strOf [b]) 0 = b := by
  have : (strOf [b])[0]? = some (UInt8.ofNat b) := by
    rw [ByteArray.getElem?_lt' _ 0 (by rw [strOf_length]; exact Nat.one_pos)]
    rfl
  unfold chAt
  rw [this]
  simp
  omega
/-- One byte as a string. -/
theorem conv_one (w : World) (b : Nat) : (convert 22 9 (.slice (some ⟨w.heap.size, 0, none⟩) 1 1)).run Tryd.prog (w.alloc (.cells #[.int .u8 (b : Int)] 5)) = .ok (.string (strOf [b])) (w.alloc (.cells #[.int .u8 (b : Int)] 5)) := by
  refine conv_reads (bs := [b]) ⟨_, _, rfl, Nat.le_refl 1, fun _ => ⟨_, 0, rfl, fun k v hk => ?_⟩⟩
  match k, hk with
  | 0, hk => cases hk; exact cell_one_new w _ _ 0 _ rfl
  | k + 1, hk => simp [row] at hk

def scByteOk (s : ByteArray) (b : Nat) (c : Sc) : Bool := scWordOk s (strOf [b]) c
def scByte (s : ByteArray) (b : Nat) (c : Sc) : Sc := scWord s (strOf [b]) c

set_option maxRecDepth 4000 in
set_option maxHeartbeats 800000 in
theorem refByte_any (p b : Nat) (s : ByteArray) (c : Sc) (w : World) (h : RSc w p s c) (hok : ScOk s c) (hs : s.size ≤ 1000000000) : Calls Tryd.prog 19 #[.pointer (some ⟨p, 0, none⟩), .int .u8 (b : Int)] w fun r w' => r = .returned (.bool (scByteOk s b c)) ∧ RSc w' p s (scByte s b c) ∧ Fr w w' (fun k => k = p) := by
  obtain ⟨V, hV⟩ : ∃ V, V = strOf [b] := ⟨_, rfl⟩
  have hconv := conv_one w b
  have HVs : Hid (V.size ≤ 1000000000) := by show _ ≤ _; rw [hV, strOf_length]; exact (show 1 ≤ 1000000000 by decide)
  unfold scByteOk scByte
  rw [← hV] at hconv ⊢
  obtain ⟨O, hO⟩ : ∃ O, O = scWordOk s V c := ⟨_, rfl⟩
  obtain ⟨D, hD⟩ : ∃ D, D = scWord s V c := ⟨_, rfl⟩
  rw [← hO, ← hD]
  have HO : Hid _ := hO
  have HD : Hid _ := hD
  have H : Hid (RSc w p s c) := h
  have Hok : Hid (ScOk s c) := hok
  have Hs : Hid (s.size ≤ 1000000000) := hs
  clear hV hO hD h hok hs
  go_enter Tryd.func19, Tryd.ntmps19
  go_wp2_with fail
  have Hf1 : Hid (Fr w (w.alloc (.cells #[.int .u8 (b : Int)] 5)) (fun _ => False)) := (Fr.refl w (fun _ => False)).alloc _
  have CW := refWord_any p s V c (w.alloc (.cells #[.int .u8 (b : Int)] 5)) (Hf1.out.kept H.out (fun h => h)) Hok.out Hs.out HVs.out
  go_at_call 15
  refine CW.mono ?_
  rintro e w2 ⟨rfl, hr2, hf2⟩
  rw [← HO.out]
  rw [← HD.out] at hr2
  have Hr2 : Hid (RSc w2 p s D) := hr2
  have Hf2 : Hid (Fr w w2 (fun k => k = p)) := (Hf1.out.mono (fun _ _ h => h.elim)).trans hf2 (fun _ _ h => h)
  clear hr2 hf2 CW
  go_wp2_with fail
  go_ret
  exact ⟨rfl, Hr2.out, Hf2.out⟩

set_option maxRecDepth 4000 in
set_option maxHeartbeats 800000 in
theorem refNew_any (s : ByteArray) (w : World) : Calls Tryd.prog 11 #[.string s] w fun r w' => ∃ p, r = .returned (.pointer (some ⟨p, 0, none⟩)) ∧ w.heap.size ≤ p ∧ RSc w' p s ⟨0, 1, 1, 0⟩ ∧ Fr w w' (fun _ => False) := by
  go_enter Tryd.func11, Tryd.ntmps11
  go_wp2_with fail
  go_ret
  refine ⟨w.heap.size, rfl, Nat.le_refl _, ?_, ?_⟩
  · exact heap_alloc_new w _
  · exact (Fr.refl w _).alloc _

end Go.Proofs.YtchkojdpnbecoaaDoor

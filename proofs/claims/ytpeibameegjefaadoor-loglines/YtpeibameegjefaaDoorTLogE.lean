/-
  The contracts of the reference scanner's edge and event (a line of a log).
-/
import Derived.Test.YtpeibameegjefaaDoorJ2
import Derived.Test.YtpeibameegjefaaDoorXHist
import Derived.Test.YtpeibameegjefaaDoorJ4
import Derived.Test.YtpeibameegjefaaDoorJ5
namespace Go.Proofs.YtpeibameegjefaaDoor
open Go.RowKit

theorem numVal_le (s : ByteArray) (pos most : Nat) : ∀ (k i v : Nat), v ≤ most → (numVal s pos most i v k).getD 0 ≤ most
  | 0, i, v, h => by rw [numVal]; exact h
  | k + 1, i, v, h => by
    rw [numVal]
    split
    · exact Nat.zero_le _
    · exact numVal_le s pos most k (i + 1) _ (by omega)
theorem scNumVal_le (s : ByteArray) (most : Nat) (c : Sc) : scNumVal s most c ≤ most := by
  unfold scNumVal
  split
  · split
    · exact Nat.zero_le _
    · split
      · exact Nat.zero_le _
      · exact numVal_le s c.pos most _ 0 0 (Nat.zero_le _)
  · exact Nat.zero_le _
theorem refNumV (p : Nat) (s : ByteArray) (c : Sc) (w : World) (h : RSc w p s c) (hok : ScOk s c) (hs : s.size ≤ 1000000000) : Calls Tryd.prog 43 #[.pointer (some ⟨p, 0, none⟩), .int .u64 4294967295] w fun r w' => r = .returned (.int .u64 (scNumVal s maxV c : Int)) ∧ RSc w' p s (scNum s maxV c) ∧ Fr w w' (fun k => k = p) :=
  refNumber_any p 4294967295 s c w h hok hs (by decide)
theorem refNumN (p : Nat) (s : ByteArray) (c : Sc) (w : World) (h : RSc w p s c) (hok : ScOk s c) (hs : s.size ≤ 1000000000) : Calls Tryd.prog 43 #[.pointer (some ⟨p, 0, none⟩), .int .u64 4294967296] w fun r w' => r = .returned (.int .u64 (scNumVal s maxN c : Int)) ∧ RSc w' p s (scNum s maxN c) ∧ Fr w w' (fun k => k = p) :=
  refNumber_any p 4294967296 s c w h hok hs (by decide)
theorem refNumT (p : Nat) (s : ByteArray) (c : Sc) (w : World) (h : RSc w p s c) (hok : ScOk s c) (hs : s.size ≤ 1000000000) : Calls Tryd.prog 43 #[.pointer (some ⟨p, 0, none⟩), .int .u64 4611686018427387903] w fun r w' => r = .returned (.int .u64 (scNumVal s maxT c : Int)) ∧ RSc w' p s (scNum s maxT c) ∧ Fr w w' (fun k => k = p) :=
  refNumber_any p 4611686018427387903 s c w h hok hs (by decide)
theorem refB (b : Nat) (b' : Int) (hb : (b : Int) = b') (p : Nat) (s : ByteArray) (c : Sc) (w : World) (h : RSc w p s c) (hok : ScOk s c) (hs : s.size ≤ 1000000000) : Calls Tryd.prog 42 #[.pointer (some ⟨p, 0, none⟩), .int .u8 b'] w fun r w' => r = .returned (.bool (scByteOk s b c)) ∧ RSc w' p s (scByte s b c) ∧ Fr w w' (fun k => k = p) := by
  subst hb
  exact refByte_any p b s c w h hok hs
theorem scByte_ok {s : ByteArray} {c : Sc} (h : ScOk s c) (b : Nat) : ScOk s (scByte s b c) := scWord_ok h _

set_option maxRecDepth 4000 in
set_option maxHeartbeats 1600000 in
theorem refEdge_any (p : Nat) (s : ByteArray) (c : Sc) (w : World) (h : RSc w p s c) (hok : ScOk s c) (hs : s.size ≤ 1000000000) : Calls Tryd.prog 65 #[.pointer (some ⟨p, 0, none⟩)] w fun r w' =>
    r = .returned (edgeV (scNumVal s maxV c, scNumVal s maxV (scByte s 32 (scNum s maxV c)))) ∧ RSc w' p s (scNum s maxV (scByte s 32 (scNum s maxV c))) ∧ Fr w w' (fun k => k = p) := by
  obtain ⟨U, hU⟩ : ∃ x, x = scNumVal s maxV c := ⟨_, rfl⟩
  obtain ⟨c1, hc1⟩ : ∃ x, x = scNum s maxV c := ⟨_, rfl⟩
  obtain ⟨c2, hc2⟩ : ∃ x, x = scByte s 32 c1 := ⟨_, rfl⟩
  obtain ⟨V, hV⟩ : ∃ x, x = scNumVal s maxV c2 := ⟨_, rfl⟩
  obtain ⟨c3, hc3⟩ : ∃ x, x = scNum s maxV c2 := ⟨_, rfl⟩
  have Ok1 : Hid (ScOk s c1) := by show ScOk _ _; rw [hc1]; exact scNum_ok hok _
  have Ok2 : Hid (ScOk s c2) := by show ScOk _ _; rw [hc2]; exact scByte_ok Ok1.out _
  have HU : Hid (U ≤ 4294967295) := by show _ ≤ _; rw [hU]; exact scNumVal_le s maxV c
  have HV : Hid (V ≤ 4294967295) := by show _ ≤ _; rw [hV]; exact scNumVal_le s maxV c2
  have k1 := fun z hz => refNumV p s c z hz hok hs
  have k2 := fun z hz => refB 32 32 rfl p s c1 z hz Ok1.out hs
  have k3 := fun z hz => refNumV p s c2 z hz Ok2.out hs
  rw [← hc1, ← hc2, ← hU, ← hV, ← hc3]
  rw [← hU, ← hc1] at k1
  rw [← hc2] at k2
  rw [← hV, ← hc3] at k3
  obtain ⟨O2, hO2⟩ : ∃ x, x = scByteOk s 32 c1 := ⟨_, rfl⟩
  rw [← hO2] at k2
  have H : Hid (RSc w p s c) := h
  unfold edgeV
  dsimp only
  clear hU hV hc1 hc2 hc3 hO2 h
  go_enter Tryd.func65, Tryd.ntmps65
  go_upto_region 1 with fail
  obtain ⟨q, hq⟩ : ∃ q, q = w.heap.size := ⟨_, rfl⟩
  obtain ⟨w1, hw1⟩ : ∃ x, x = w.alloc (.cells #[.int .u32 0, .int .u32 0] 57) := ⟨_, rfl⟩
  rw [← hw1, ← hq]
  have Hq : Hid (w1.heap[q]? = some (.cells #[.int .u32 0, .int .u32 0] 57 (0, 0))) := by show _ = _; rw [hw1, hq]; exact heap_alloc_new _ _
  have Hw1 : Hid (Fr w w1 (fun k => k = p)) := by show Fr _ _ _; rw [hw1]; exact (Fr.refl _ _).alloc _
  have Hqp : Hid (q ≠ p ∧ w.heap.size ≤ q) := ⟨fun e => by have := lt_of_block H.out; omega, by omega⟩
  have Hr1 : Hid (RSc w1 p s c) := by show RSc _ _ _ _; rw [hw1]; exact blk_alloc _ H.out
  clear hq hw1
  have k1' := k1 w1 Hr1.out
  clear k1
  go_wp2_with fail
  refine k1'.mono ?_
  rintro r w2 ⟨rfl, r2, f2⟩
  have Hr2 : Hid (RSc w2 p s c1) := r2
  have Hq2 : Hid (w2.heap[q]? = some (.cells #[.int .u32 0, .int .u32 0] 57 (0, 0))) := f2.kept Hq.out Hqp.out.1
  have Hf2 : Hid (Fr w w2 (fun k => k = p)) := Hw1.out.trans f2 (fun _ _ h => h)
  clear k1' r2 f2
  have k2' := k2 w2 Hr2.out
  clear k2
  go_wp2_with fail
  refine k2'.mono ?_
  rintro r w3 ⟨rfl, r3, f3⟩
  have Hr3 : Hid (RSc w3 p s c2) := r3
  have Hq3 : Hid (w3.heap[q]? = some (.cells #[.int .u32 0, .int .u32 0] 57 (0, 0))) := f3.kept Hq2.out Hqp.out.1
  have Hf3 : Hid (Fr w w3 (fun k => k = p)) := Hf2.out.trans f3 (fun _ _ h => h)
  clear k2' r3 f3
  have k3' := k3 w3 Hr3.out
  clear k3
  have wU : IntKind.u32.wrap (U : Int) = (U : Int) := by rw [IntKind.wrap_u32]; have := HU.out; omega
  have wV : IntKind.u32.wrap (V : Int) = (V : Int) := by rw [IntKind.wrap_u32]; have := HV.out; omega
  go_wp2_with fail
  refine k3'.mono ?_
  rintro r w4 ⟨rfl, r4, f4⟩
  have Hr4 : Hid (RSc w4 p s c3) := r4
  have Hq4 : Hid (w4.heap[q]? = some (.cells #[.int .u32 0, .int .u32 0] 57 (0, 0))) := f4.kept Hq3.out Hqp.out.1
  have Hf4 : Hid (Fr w w4 (fun k => k = p)) := Hf3.out.trans f4 (fun _ _ h => h)
  clear k3' r4 f4
  obtain ⟨z0, z1⟩ : w4.cell? ⟨q, 0, none⟩ = some (.int .u32 0) ∧ w4.cell? ⟨q, 1, none⟩ = some (.int .u32 0) := ⟨two_cell0 Hq4.out, two_cell1 Hq4.out⟩
  have y0 : w4.frozen? ⟨q, 0, none⟩ = false := two_free Hq4.out 0
  have y1 : w4.frozen? ⟨q, 1, none⟩ = false := two_free Hq4.out 1
  have Hrow : Hid _ := two_set1 (two_set0 Hq4.out (u := .int .u32 (U : Int))) (u := .int .u32 (V : Int))
  have hfz : Fr w4 ((w4.setCell ⟨q, 0, none⟩ (.int .u32 (U : Int))).setCell ⟨q, 1, none⟩ (.int .u32 (V : Int))) (fun k => k = q) := (fr_put _ _ _ _).trans (fr_put _ _ _ _) (fun _ _ h => h)
  have Hr5 : Hid (RSc ((w4.setCell ⟨q, 0, none⟩ (.int .u32 (U : Int))).setCell ⟨q, 1, none⟩ (.int .u32 (V : Int))) p s c3) := hfz.kept Hr4.out (fun h => Hqp.out.1 h.symm)
  have Hf5 : Hid (Fr w ((w4.setCell ⟨q, 0, none⟩ (.int .u32 (U : Int))).setCell ⟨q, 1, none⟩ (.int .u32 (V : Int))) (fun k => k = p)) := Hf4.out.newer hfz (fun k hk => by rw [hk]; exact Hqp.out.2)
  clear hfz
  go_wp2
  refine bodyPost_ret (results_cell1 rfl rfl (run_loadVar_row _ _ 57 _ _ (0, 0) _ Hrow.out Tryd.underlying57 rfl edgeSize2)) rfl ?_
  exact ⟨rfl, Hr5.out, Hf5.out⟩

end Go.Proofs.YtpeibameegjefaaDoor

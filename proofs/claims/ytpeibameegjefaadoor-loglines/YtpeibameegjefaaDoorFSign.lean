/-
  The contract of logfmt's sign.
-/
import Derived.Test.YtpeibameegjefaaDoorFScan
import Derived.Test.YtpeibameegjefaaDoorFRead
namespace Go.Proofs.YtpeibameegjefaaDoor
open Go.RowKit

set_option maxRecDepth 4000 in
set_option maxHeartbeats 3200000 in
theorem logSign_any (p : Nat) (s : ByteArray) (c : Sc) (w : World) (h : LSc w p s c) (hok : ScOk s c) (hs : s.size ≤ 1000000000) : Calls Tryd.prog 79 #[.pointer (some ⟨p, 0, none⟩)] w fun r w' =>
    r = .returned (.bool (evPlus s c)) ∧ LSc w' p s (evSg s c) ∧ Fr w w' (fun k => k = p) := by
  obtain ⟨sg, pl⟩ := sign43 s c
  have kn := fun z hz => scanNext_any p s c z hz
  have k3p := fun z hz => sB 43 43 rfl p s c z hz hok hs
  have k3m := fun z hz => sB 45 45 rfl p s c z hz hok hs
  obtain ⟨NB, hNB⟩ : ∃ x, x = (scNext s c).1 := ⟨_, rfl⟩
  obtain ⟨NO, hNO⟩ : ∃ x, x = (scNext s c).2 := ⟨_, rfl⟩
  obtain ⟨O3p, hO3p⟩ : ∃ x, x = scByteOk s 43 c := ⟨_, rfl⟩
  obtain ⟨O3m, hO3m⟩ : ∃ x, x = scByteOk s 45 c := ⟨_, rfl⟩
  rw [← hNB, ← hNO] at kn
  rw [← hNB] at sg pl
  rw [← hO3p] at k3p pl
  rw [← hO3m] at k3m
  have H : Hid (LSc w p s c) := h
  have Hsg : Hid _ := sg
  have Hpl : Hid _ := pl
  have K3p : Hid _ := k3p
  have K3m : Hid _ := k3m
  clear hNB hNO hO3p hO3m sg pl k3p k3m h
  go_enter Tryd.func79, Tryd.ntmps79
  have kk := kn w H.out
  clear kn
  go_wp2_with fail
  refine kk.mono ?_
  rintro r w1 ⟨rfl, f⟩
  have H1 : Hid (LSc w1 p s c) := f.kept H.out (fun h => h)
  have Hf1 : Hid (Fr w w1 (fun k => k = p)) := f.mono (fun _ _ h => h.elim)
  clear kk f H
  by_cases hm : NB = 43
  · have Hs2 : Hid (evSg s c = scByte s 43 c) := by show _ = _; rw [Hsg.out, if_pos hm]
    have Hp2 : Hid (evPlus s c = O3p) := by show _ = _; rw [Hpl.out, if_pos hm]
    subst hm
    have kk := K3p.out w1 H1.out
    go_wp2_with fail
    refine kk.mono ?_
    rintro r w2 ⟨rfl, h2, f⟩
    have H2 : Hid (LSc w2 p s (scByte s 43 c)) := h2
    have Hf2 : Hid (Fr w w2 (fun k => k = p)) := Hf1.out.trans f (fun _ _ h => h)
    clear kk h2 f
    go_wp2
    go_ret
    exact ⟨by rw [Hp2.out]; rfl, by rw [Hs2.out]; exact H2.out, Hf2.out⟩
  · have e43 : ((NB : Int) == 43) = false := by rw [beq_eq_false_iff_ne]; omega
    have e43n : (NB == 43) = false := by rw [beq_eq_false_iff_ne]; exact hm
    have Hs2 : Hid (evSg s c = scByte s 45 c) := by show _ = _; rw [Hsg.out, if_neg hm]
    have Hp2 : Hid (evPlus s c = false) := by show _ = _; rw [Hpl.out, if_neg hm]
    clear hm
    have kk := K3m.out w1 H1.out
    go_wp2_with fail
    refine kk.mono ?_
    rintro r w2 ⟨rfl, h2, f⟩
    have H2 : Hid (LSc w2 p s (scByte s 45 c)) := h2
    have Hf2 : Hid (Fr w w2 (fun k => k = p)) := Hf1.out.trans f (fun _ _ h => h)
    clear kk h2 f
    go_wp2
    go_ret
    exact ⟨by rw [Hp2.out]; rfl, by rw [Hs2.out]; exact H2.out, Hf2.out⟩

end Go.Proofs.YtpeibameegjefaaDoor

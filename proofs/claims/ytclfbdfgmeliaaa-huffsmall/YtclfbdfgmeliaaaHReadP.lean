/-
  The contract of huff's Read; bytes.Equal.
-/
import Derived.Test.YtclfbdfgmeliaaaHPutP
import Derived.Test.YtclfbdfgmeliaaaHTakeP
namespace Go.Proofs.Ytclfbdfgmeliaaa
open Go.RowKit

set_option maxRecDepth 4000 in
set_option maxHeartbeats 800000 in
theorem equal_any (u v : Value) (xs bs : List Nat) (w : World) (hu : Reads .u8 w u xs) (hv : Reads .u8 w v bs) (ha : ∀ x ∈ xs, x < 256) (hb : ∀ x ∈ bs, x < 256) :
    Calls Try.prog 27 #[u, v] w fun e w' => e = .returned (.bool (decide (xs = bs))) ∧ w' = w := by
  have hcu := conv_reads hu
  have hcv := conv_reads hv
  by_cases hEq : xs = bs
  · have Hd : Hid (decide (xs = bs) = true) := decide_eq_true hEq
    rw [hEq] at hcu
    clear hEq hu hv ha hb
    generalize strOf bs = S at hcu hcv
    go_enter Try.func27, Try.ntmps27
    go_wp2
    go_ret
    exact ⟨by rw [Hd.out]; rfl, rfl⟩
  · have hSn : strOf xs ≠ strOf bs := fun e => hEq (strOf_inj ha hb e)
    have Hd : Hid (decide (xs = bs) = false) := decide_eq_false hEq
    clear hEq hu hv ha hb
    generalize strOf xs = S1 at hSn hcu
    generalize strOf bs = S2 at hSn hcv
    have hSd := str_ne hSn
    go_enter Try.func27, Try.ntmps27
    go_wp2
    go_ret
    exact ⟨by rw [Hd.out]; rfl, rfl⟩

set_option maxRecDepth 4000 in
set_option maxHeartbeats 1600000 in
theorem hreadP_any (v : Value) (bs : List Nat) (w : World) (h : Reads .u8 w v bs) (hb : ∀ x ∈ bs, x < 256) (hl : bs.length ≤ 100000) :
    Calls Try.prog 15 #[v] w fun e w' => Fr w w' (fun _ => False) ∧ ((hread bs = none ∧ e = .returned (.tuple #[.slice none 0 0, .int .i64 21])) ∨
      ∃ x, hread bs = some x ∧ ∃ sv, e = .returned (.tuple #[sv, .int .i64 0]) ∧ Own w' sv x) := by
  have Hr : Hid (Reads .u8 w v bs) := h
  have Hb : Hid _ := hb
  clear h hb
  go_enter Try.func15, Try.ntmps15
  go_wp2_with fail
  refine (takeP_any _ bs w Hr.out Hb.out hl).mono ?_
  rintro e w1 ⟨hf1, hcase⟩
  have Hf1 : Hid (Fr w w1 (fun _ => False)) := hf1
  clear hf1
  rcases hcase with ⟨hpn, rfl⟩ | ⟨x, hx, sv, rfl, ho, hxl⟩
  · have Hnone : Hid (hread bs = none) := by show _ = _; unfold hread; rw [hpn]
    clear hpn
    go_wp2
    go_ret2
    exact ⟨Hf1.out, .inl ⟨Hnone.out, rfl⟩⟩
  · have Hx : Hid _ := hx
    have Ho : Hid (Own w1 sv x) := ho
    have Hxl : Hid (x.length ≤ 800000) := hxl
    clear hx ho hxl
    go_wp2_with fail
    have HxB : Hid (∀ s ∈ x, s < 256) := (rawDec_is Hx.out).2
    refine (hputP_any sv x w1 Ho.out.reads HxB.out (by have := Hxl.out; omega)).mono ?_
    rintro e w2 ⟨s2, rfl, ho2, hf2, -⟩
    have Hf2 : Hid (Fr w w2 (fun _ => False)) := Hf1.out.none hf2
    have Hox : Hid (Own w2 sv x) := Ho.out.frame hf2 (fun _ _ h => h)
    have Ho2 : Hid (Own w2 s2 (hput x)) := ho2
    clear ho2 hf2
    go_wp2_with fail
    refine (equal_any s2 v (hput x) bs w2 Ho2.out.reads (Hr.out.keep Hf2.out) (hput_bytes x) Hb.out).mono ?_
    rintro e w3 ⟨rfl, hw3⟩
    obtain rfl : w2 = w3 := hw3.symm
    by_cases hEq : hput x = bs
    · have Hres : Hid (hread bs = some x) := by show _ = _; unfold hread; rw [Hx.out]; simp [hEq]
      rw [decide_eq_true hEq]
      clear hEq
      go_wp2
      go_ret2
      exact ⟨Hf2.out, .inr ⟨x, Hres.out, _, rfl, Hox.out⟩⟩
    · have Hres : Hid (hread bs = none) := by show _ = _; unfold hread; rw [Hx.out]; simp [hEq]
      rw [decide_eq_false hEq]
      clear hEq
      go_wp2
      go_ret2
      exact ⟨Hf2.out, .inl ⟨Hres.out, rfl⟩⟩

end Go.Proofs.Ytclfbdfgmeliaaa

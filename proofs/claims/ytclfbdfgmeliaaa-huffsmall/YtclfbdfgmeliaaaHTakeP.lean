/-
  The contract of huff's take: what is read, ahead of the look whether it is written so.
-/
import Derived.Test.YtclfbdfgmeliaaaHTakeL
import Derived.Test.YtclfbdfgmeliaaaHTakeC
namespace Go.Proofs.Ytclfbdfgmeliaaa
open Go.RowKit

theorem rawDec_by (bs : List Nat) (hl : bs.length ≤ 1000000) : rawDec bs = if (took bs (8 * bs.length)).2.2 ≠ 0 then none
    else if (took bs (8 * bs.length)).1 = 0 then some []
    else match parsed (bs.drop (took bs (8 * bs.length)).2.1) with
      | none => none
      | some (l, r) => if rightB (l.map fun (n : Nat) => (n : Int)) = true then takeN l (took bs (8 * bs.length)).1 (unpack r) else none := by
  unfold rawDec
  rcases took_less bs (8 * bs.length) (2 ^ 62) (by have : (2 : Nat) ^ 62 = 4611686018427387904 := by decide
                                                   omega) with ⟨h1, h2⟩ | ⟨h1, h2, h3⟩
  · rw [if_pos h1, if_pos h2]
  · rw [h1, if_neg (by simp only [ne_eq, h2, not_true_eq_false, false_or]; omega)]
    simp only [ne_eq, h2, not_true_eq_false, if_false]
    rfl

set_option maxRecDepth 4000 in
set_option maxHeartbeats 1600000 in
theorem takeP_any (v : Value) (bs : List Nat) (w : World) (h : Reads .u8 w v bs) (hb : ∀ x ∈ bs, x < 256) (hl : bs.length ≤ 100000) :
    Calls Try.prog 26 #[v] w fun e w' => Fr w w' (fun _ => False) ∧ ((rawDec bs = none ∧ e = .returned (.tuple #[.slice none 0 0, .bool false])) ∨
      ∃ x, rawDec bs = some x ∧ ∃ sv, e = .returned (.tuple #[sv, .bool true]) ∧ Own w' sv x ∧ x.length ≤ 800000) := by
  obtain ⟨a0, c0, rfl, hc0, -⟩ := id h
  rw [length_row] at h hc0 ⊢
  obtain ⟨n, hn⟩ : ∃ n, n = bs.length := ⟨_, rfl⟩
  rw [← hn] at h hc0 ⊢
  have Hr : Hid (Reads .u8 w (.slice a0 n c0) bs) := h
  have Hn : Hid _ := hn
  have Hb : Hid _ := hb
  have Hraw : Hid (rawDec bs = _) := rawDec_by bs (by omega)
  rw [← hn] at Hraw hl
  clear h hn hb
  have htl := took_len bs (8 * n)
  have htm := took_most bs (8 * n)
  rcases hT : took bs (8 * n) with ⟨N0, k0, e0⟩
  rw [hT] at htl htm
  simp only [hT] at Hraw
  rw [← Hn.out] at htl
  dsimp only at htl htm
  have HT : Hid _ := hT
  clear hT
  have w8 : IntKind.u64.wrap (8 * (n : Int)) = ((8 * n : Nat) : Int) := by rw [IntKind.wrap_u64]; omega
  have wn : IntKind.u64.wrap (n : Int) = (n : Int) := by rw [IntKind.wrap_u64]; omega
  go_enter Try.func26, Try.ntmps26
  go_wp2_with fail
  refine (vtake_any _ bs (8 * n) w Hr.out Hb.out (by rw [← Hn.out]; omega) (by omega)).mono ?_
  rw [HT.out]
  rintro e w1 ⟨rfl, hw1⟩
  obtain rfl : w = w1 := hw1.symm
  clear HT
  by_cases he0 : e0 = 0
  · subst he0
    by_cases hN0 : N0 = 0
    · subst hN0
      have Hraw2 : Hid (rawDec bs = some []) := by show _ = _; rw [Hraw.out, if_neg (by simp), if_pos rfl]
      clear Hraw
      go_wp2_with fail
      go_ret2
      exact ⟨Fr.refl _ _, .inr ⟨[], Hraw2.out, _, rfl, Own.nil w, by simp⟩⟩
    · have hNz : ((N0 : Int) == 0) = false := by rw [beq_eq_false_iff_ne]; omega
      have Hraw1 : Hid (rawDec bs = match parsed (bs.drop k0) with
          | none => none
          | some (l, r) => if rightB (l.map fun (n : Nat) => (n : Int)) = true then takeN l N0 (unpack r) else none) := by
        show _ = _
        rw [Hraw.out, if_neg (by simp), if_neg hN0]
      clear Hraw
      have hk0i : (k0 : Int) ≤ (n : Int) := by omega
      have hdr := reads_drop Hr.out k0 htl.1
      obtain ⟨A1, hA1⟩ : ∃ A, (if c0 = k0 then a0 else Option.map (fun x => x.add k0) a0) = A := ⟨_, rfl⟩
      rw [hA1] at hdr
      have Hdr : Hid (Reads .u8 w (.slice A1 (n - k0) (c0 - k0)) (bs.drop k0)) := hdr
      have wN : IntKind.i64.wrap (N0 : Int) = (N0 : Int) := IntWalk.i64_in _ (by omega)
      clear hdr
      go_wp2_with fail
      refine (takeLengths_any _ (bs.drop k0) w Hdr.out (mem_drop_lt Hb.out) (by rw [List.length_drop, ← Hn.out]; omega)).mono ?_
      rintro e w2 ⟨hf2, hcase⟩
      clear hA1 Hdr
      rcases hcase with ⟨hpn, rfl⟩ | ⟨l, r, sl, rv, hps, rfl, hrl, hnl, hrr, hrlen, hrb⟩
      · have Hnone : Hid (rawDec bs = none) := by show _ = _; rw [Hraw1.out, hpn]
        clear hpn
        go_wp2_with fail
        go_ret2
        exact ⟨hf2, .inl ⟨Hnone.out, rfl⟩⟩
      · have hll := parsed_len hps
        have Hraw2 : Hid (rawDec bs = if rightB (l.map fun (n : Nat) => (n : Int)) = true then takeN l N0 (unpack r) else none) := by show _ = _; rw [Hraw1.out, hps]
        rw [List.length_drop, ← Hn.out] at hrlen
        clear hps Hraw1 hnl
        go_wp2_with fail
        refine (takeCodes_any _ _ l r N0 w2 hrl (hrr.keep hf2) hll hrb (by omega) (by omega)).mono ?_
        rw [← Hraw2.out]
        rintro e w3 ⟨hf3, hcase⟩
        have Hf3 : Hid (Fr w w3 (fun _ => False)) := hf2.none hf3
        rcases hcase with ⟨hpn, rfl⟩ | ⟨x, sv, hx, rfl, ho⟩
        · have Hpn : Hid _ := hpn
          clear hpn
          go_wp2_with fail
          go_ret2
          exact ⟨Hf3.out, .inl ⟨Hpn.out, rfl⟩⟩
        · have Hxl : Hid (x.length ≤ 800000) := by
            have h1 := Hraw2.out
            rw [hx] at h1
            split at h1
            · have := (takeN_is N0 _ x h1.symm).1
              show _ ≤ _
              omega
            · cases h1
          have Hx : Hid _ := hx
          clear hx
          go_wp2_with fail
          go_ret2
          exact ⟨Hf3.out, .inr ⟨x, Hx.out, _, rfl, ho, Hxl.out⟩⟩
  · have hd : ((e0 : Int) != 0) = true := by simp; omega
    have hd2 : ((e0 : Int) == 0) = false := by rw [beq_eq_false_iff_ne]; omega
    have Hnone : Hid (rawDec bs = none) := by show _ = _; rw [Hraw.out, if_pos he0]
    go_wp2_with fail
    go_ret2
    exact ⟨Fr.refl _ _, .inl ⟨Hnone.out, rfl⟩⟩

end Go.Proofs.Ytclfbdfgmeliaaa

/-
  The contract of merge's Kraft.
-/
import Derived.Test.YtclfbdfgmeliaaaRIntsP
namespace Go.Proofs.Ytclfbdfgmeliaaa
open Go.RowKit

set_option maxRecDepth 4000 in
set_option maxHeartbeats 800000 in
theorem kraft_any (v : Value) (zs : List Int) (w : World) (h : ReadsZ w v zs) (hl : zs.length ≤ 1000000) :
    Calls Try.prog 69 #[v] w fun e w' => e = .returned (.int .i64 (kraftZ zs : Nat)) ∧ w' = w := by
  obtain ⟨a0, c0, rfl, hc0⟩ := h.form
  have Hz : Hid (ReadsZ w (.slice a0 zs.length c0) zs) := h
  obtain ⟨n, hn⟩ : ∃ n, n = zs.length := ⟨_, rfl⟩
  rw [← hn] at Hz hc0 hl ⊢
  have Hn : Hid _ := hn
  clear h hn
  go_enter Try.func69, Try.ntmps69
  go_wp2_with fail
  go_loopg [3, 8] n (fun g K I wr => ∃ i k : Nat, g = n - i ∧ i ≤ n ∧ I = .int .i64 (i : Int) ∧ K = .int .i64 (k : Int) ∧ k = kraftZ (zs.take i) ∧ wr = w)
  case atStart => exact ⟨0, 0, rfl, by omega, rfl, rfl, by simp [kraftZ], rfl⟩
  case round =>
    obtain ⟨i, k, hg, hi, rfl, rfl, hk, rfl⟩ := hrel
    have Hg : Hid _ := hg
    have Hk : Hid _ := hk
    have hkb : k ≤ 16384000000 := by
      have := kraftZ_le (zs.take i)
      rw [← hk, List.length_take, ← Hn.out] at this
      omega
    clear hg hk
    by_cases hlt : i < n
    · obtain ⟨x, hx⟩ : ∃ x, zs[i]? = some x := ⟨_, List.getElem?_eq_getElem (by rw [← Hn.out]; exact hlt)⟩
      obtain ⟨b, off, cp, e, hb0, kx⟩ := Hz.out.get i x hx
      simp only [Value.slice.injEq] at e
      obtain ⟨rfl, -, rfl⟩ := e
      have cx := kx wr (Fr.refl _ _)
      have Hst : Hid (kraftZ (zs.take (i + 1)) = k + if 1 ≤ x ∧ x ≤ 15 then 2 ^ (15 - x.toNat) else 0) := by
        show _ = _
        rw [takeZ_step hx, kraftZ_snoc, ← Hk.out]
      clear kx hx
      by_cases h1 : 1 ≤ x
      · by_cases h15 : x ≤ 15
        · obtain ⟨d, hd⟩ : ∃ d, d = 15 - x.toNat := ⟨_, rfl⟩
          have hde : 15 - x = (d : Int) := by omega
          have hd14 : d ≤ 14 := by omega
          have Hs2 : Hid (kraftZ (zs.take (i + 1)) = k + 2 ^ d) := by show _ = _; rw [Hst.out, if_pos ⟨h1, h15⟩, hd]
          have hpw : 2 ^ d ≤ 16384 := Nat.le_trans (Nat.pow_le_pow_right (by omega) hd14) (by decide)
          clear hd Hst
          go_wp2
          go_roundg (n - (i + 1))
          case rel =>
            refine ⟨i + 1, k + 2 ^ d, rfl, by omega, by go_num, ?_, Hs2.out.symm, rfl⟩
            have e1 : (2 : Int) ^ d = ((2 ^ d : Nat) : Int) := by simp
            rw [e1]
            generalize 2 ^ d = y at hpw ⊢
            rw [wrap64_small (y : Int) (by omega) (by omega), wrap64_small ((k : Int) + (y : Int)) (by omega) (by omega)]
            rfl
          case measure => rw [Hg.out]; omega
        · have Hs2 : Hid (kraftZ (zs.take (i + 1)) = k) := by show _ = _; rw [Hst.out, if_neg (by omega)]; rfl
          clear Hst
          go_wp2
          go_roundg (n - (i + 1))
          case rel => exact ⟨i + 1, k, rfl, by omega, by go_num, rfl, Hs2.out.symm, rfl⟩
          case measure => rw [Hg.out]; omega
      · have Hs2 : Hid (kraftZ (zs.take (i + 1)) = k) := by show _ = _; rw [Hst.out, if_neg (by omega)]; rfl
        clear Hst
        go_wp2
        go_roundg (n - (i + 1))
        case rel => exact ⟨i + 1, k, rfl, by omega, by go_num, rfl, Hs2.out.symm, rfl⟩
        case measure => rw [Hg.out]; omega
    · go_wp2
      go_ret
      refine ⟨?_, rfl⟩
      have : k = kraftZ zs := by rw [Hk.out, List.take_of_length_le (by rw [← Hn.out]; omega)]
      rw [← this]; rfl

end Go.Proofs.Ytclfbdfgmeliaaa

/-
  The reference's clamp and Kraft.
-/
import Derived.Test.YtclfbdfgmeliaaaRIntsP
namespace Go.Proofs.Ytclfbdfgmeliaaa
open Go.RowKit
set_option maxRecDepth 4000

set_option maxHeartbeats 400000 in
theorem refClamp_any (z : Int) (w : World) : Calls Try.prog 32 #[.int .i64 z] w fun e w' => e = .returned (.int .i64 (clampN z : Nat)) ∧ w' = w := by
  obtain ⟨c, hc⟩ : ∃ c, c = clampN z := ⟨_, rfl⟩
  rw [← hc]
  have Hc : Hid ((c : Int) = min (max z 0) 1099511627776) := by show _ = _; rw [hc]; unfold clampN; omega
  clear hc
  by_cases h0 : z < 0
  · have He : Hid ((c : Int) = 0) := by show _ = _; rw [Hc.out]; omega
    go_enter Try.func32, Try.ntmps32
    go_wp2
    go_ret
    exact ⟨by rw [He.out]; rfl, rfl⟩
  · by_cases h1 : 1099511627776 < z
    · have He : Hid ((c : Int) = 1099511627776) := by show _ = _; rw [Hc.out]; omega
      go_enter Try.func32, Try.ntmps32
      go_wp2
      go_ret
      exact ⟨by rw [He.out]; rfl, rfl⟩
    · have He : Hid ((c : Int) = z) := by show _ = _; rw [Hc.out]; omega
      go_enter Try.func32, Try.ntmps32
      go_wp2
      go_ret
      exact ⟨by rw [He.out]; rfl, rfl⟩

set_option maxHeartbeats 800000 in
theorem refKraft_any (v : Value) (zs : List Int) (w : World) (h : ReadsZ w v zs) (hl : zs.length ≤ 1000000) :
    Calls Try.prog 45 #[v] w fun e w' => e = .returned (.int .i64 (kraftZ zs : Nat)) ∧ w' = w := by
  obtain ⟨a0, c0, rfl, hc0⟩ := h.form
  have Hz : Hid (ReadsZ w (.slice a0 zs.length c0) zs) := h
  obtain ⟨n, hn⟩ : ∃ n, n = zs.length := ⟨_, rfl⟩
  rw [← hn] at Hz hc0 hl ⊢
  have Hn : Hid _ := hn
  clear h hn
  go_enter Try.func45, Try.ntmps45
  go_wp2_with fail
  go_loopg [3, 4] n (fun g K I wr => ∃ i k : Nat, g = n - i ∧ i ≤ n ∧ I = .int .i64 (i : Int) ∧ K = .int .i64 (k : Int) ∧ k = kraftZ (zs.take i) ∧ wr = w)
  case atStart => exact ⟨0, 0, rfl, by omega, rfl, rfl, by simp [kraftZ], rfl⟩
  case round =>
    obtain ⟨i, k, hg, hi, rfl, rfl, hk, rfl⟩ := hrel
    have Hg : Hid _ := hg
    have Hk : Hid _ := hk
    have hkb : k ≤ 16384000000 := by
      have := kraftZ_le (zs.take i)
      rw [← hk, List.length_take, ← Hn.out] at this
      omega
    clear hg hk
    by_cases hlt : i < n
    · obtain ⟨x, hx⟩ : ∃ x, zs[i]? = some x := ⟨_, List.getElem?_eq_getElem (by rw [← Hn.out]; exact hlt)⟩
      obtain ⟨b, off, cp, e, hb0, kx⟩ := Hz.out.get i x hx
      simp only [Value.slice.injEq] at e
      obtain ⟨rfl, -, rfl⟩ := e
      have cx := kx wr (Fr.refl _ _)
      have Hst : Hid (kraftZ (zs.take (i + 1)) = k + if 1 ≤ x ∧ x ≤ 15 then 2 ^ (15 - x.toNat) else 0) := by
        show _ = _
        rw [takeZ_step hx, kraftZ_snoc, ← Hk.out]
      clear kx hx
      by_cases h1 : 1 ≤ x
      · by_cases h15 : x ≤ 15
        · obtain ⟨d, hd⟩ : ∃ d, d = 15 - x.toNat := ⟨_, rfl⟩
          have hde : 15 - x = (d : Int) := by omega
          have hd14 : d ≤ 14 := by omega
          have Hs2 : Hid (kraftZ (zs.take (i + 1)) = k + 2 ^ d) := by show _ = _; rw [Hst.out, if_pos ⟨h1, h15⟩, hd]
          have hpw : 2 ^ d ≤ 16384 := Nat.le_trans (Nat.pow_le_pow_right (by omega) hd14) (by decide)
          clear hd Hst
          go_wp2
          go_roundg (n - (i + 1))
          case rel =>
            refine ⟨i + 1, k + 2 ^ d, rfl, by omega, by go_num, ?_, Hs2.out.symm, rfl⟩
            have e1 : (2 : Int) ^ d = ((2 ^ d : Nat) : Int) := by simp
            rw [e1]
            generalize 2 ^ d = y at hpw ⊢
            rw [wrap64_small (y : Int) (by omega) (by omega), wrap64_small ((k : Int) + (y : Int)) (by omega) (by omega)]
            rfl
          case measure => rw [Hg.out]; omega
        · have Hs2 : Hid (kraftZ (zs.take (i + 1)) = k) := by show _ = _; rw [Hst.out, if_neg (by omega)]; rfl
          clear Hst
          go_wp2
          go_roundg (n - (i + 1))
          case rel => exact ⟨i + 1, k, rfl, by omega, by go_num, rfl, Hs2.out.symm, rfl⟩
          case measure => rw [Hg.out]; omega
      · have Hs2 : Hid (kraftZ (zs.take (i + 1)) = k) := by show _ = _; rw [Hst.out, if_neg (by omega)]; rfl
        clear Hst
        go_wp2
        go_roundg (n - (i + 1))
        case rel => exact ⟨i + 1, k, rfl, by omega, by go_num, rfl, Hs2.out.symm, rfl⟩
        case measure => rw [Hg.out]; omega
    · go_wp2
      go_ret
      refine ⟨?_, rfl⟩
      have : k = kraftZ zs := by rw [Hk.out, List.take_of_length_le (by rw [← Hn.out]; omega)]
      rw [← this]; rfl


end Go.Proofs.Ytclfbdfgmeliaaa

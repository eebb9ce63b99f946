/-
  The contracts of merge's counted, Cost and Kraft.
-/
import Derived.Test.YtjjanlpkhoeejaaRInts
namespace Go.Proofs.Ytjjanlpkhoeejaa
open Go.RowKit

set_option maxHeartbeats 400000 in
theorem counted_any (z : Int) (w : World) : Calls Try.prog 23 #[.int .i64 z] w fun e w' => e = .returned (.int .i64 (clampN z : Nat)) ∧ w' = w := by
  obtain ⟨c, hc⟩ : ∃ c, c = clampN z := ⟨_, rfl⟩
  rw [← hc]
  have Hc : Hid ((c : Int) = min (max z 0) 1099511627776) := by show _ = _; rw [hc]; unfold clampN; omega
  clear hc
  by_cases h0 : z < 0
  · have He : Hid ((c : Int) = 0) := by show _ = _; rw [Hc.out]; omega
    go_enter Try.func23, Try.ntmps23
    go_wp2
    go_ret
    exact ⟨by rw [He.out]; rfl, rfl⟩
  · by_cases h1 : 1099511627776 < z
    · have He : Hid ((c : Int) = 1099511627776) := by show _ = _; rw [Hc.out]; omega
      go_enter Try.func23, Try.ntmps23
      go_wp2
      go_ret
      exact ⟨by rw [He.out]; rfl, rfl⟩
    · have He : Hid ((c : Int) = z) := by show _ = _; rw [Hc.out]; omega
      go_enter Try.func23, Try.ntmps23
      go_wp2
      go_ret
      exact ⟨by rw [He.out]; rfl, rfl⟩

set_option maxHeartbeats 800000 in
theorem kraft_any (v : Value) (zs : List Int) (w : World) (h : ReadsZ w v zs) (hl : zs.length ≤ 1000000) :
    Calls Try.prog 14 #[v] w fun e w' => e = .returned (.int .i64 (kraftZ zs : Nat)) ∧ w' = w := by
  obtain ⟨a0, c0, rfl, hc0⟩ := h.form
  have Hz : Hid (ReadsZ w (.slice a0 zs.length c0) zs) := h
  obtain ⟨n, hn⟩ : ∃ n, n = zs.length := ⟨_, rfl⟩
  rw [← hn] at Hz hc0 hl ⊢
  have Hn : Hid _ := hn
  clear h hn
  go_enter Try.func14, Try.ntmps14
  go_wp2_with fail
  go_loopg [3, 8] n (fun g K I wr => ∃ i k : Nat, g = n - i ∧ i ≤ n ∧ I = .int .i64 (i : Int) ∧ K = .int .i64 (k : Int) ∧ k = kraftZ (zs.take i) ∧ wr = w)
  case atStart => exact ⟨0, 0, rfl, by omega, rfl, rfl, by simp [kraftZ], rfl⟩
  case round =>
    obtain ⟨i, k, hg, hi, rfl, rfl, hk, rfl⟩ := hrel
    have Hg : Hid _ := hg
    have Hk : Hid _ := hk
    have hkb : k ≤ 16384000000 := by
      have := kraftZ_le (zs.take i)
      rw [← hk, List.length_take, ← Hn.out] at this
      omega
    clear hg hk
    by_cases hlt : i < n
    · obtain ⟨x, hx⟩ : ∃ x, zs[i]? = some x := ⟨_, List.getElem?_eq_getElem (by rw [← Hn.out]; exact hlt)⟩
      obtain ⟨b, off, cp, e, hb0, kx⟩ := Hz.out.get i x hx
      simp only [Value.slice.injEq] at e
      obtain ⟨rfl, -, rfl⟩ := e
      have cx := kx wr (Fr.refl _ _)
      have Hst : Hid (kraftZ (zs.take (i + 1)) = k + if 1 ≤ x ∧ x ≤ 15 then 2 ^ (15 - x.toNat) else 0) := by
        show _ = _
        rw [takeZ_step hx, kraftZ_snoc, ← Hk.out]
      clear kx hx
      by_cases h1 : 1 ≤ x
      · by_cases h15 : x ≤ 15
        · obtain ⟨d, hd⟩ : ∃ d, d = 15 - x.toNat := ⟨_, rfl⟩
          have hde : 15 - x = (d : Int) := by omega
          have hd14 : d ≤ 14 := by omega
          have Hs2 : Hid (kraftZ (zs.take (i + 1)) = k + 2 ^ d) := by show _ = _; rw [Hst.out, if_pos ⟨h1, h15⟩, hd]
          have hpw : 2 ^ d ≤ 16384 := Nat.le_trans (Nat.pow_le_pow_right (by omega) hd14) (by decide)
          clear hd Hst
          go_wp2
          go_roundg (n - (i + 1))
          case rel =>
            refine ⟨i + 1, k + 2 ^ d, rfl, by omega, by go_num, ?_, Hs2.out.symm, rfl⟩
            have e1 : (2 : Int) ^ d = ((2 ^ d : Nat) : Int) := by simp
            rw [e1]
            generalize 2 ^ d = y at hpw ⊢
            rw [wrap64_small (y : Int) (by omega) (by omega), wrap64_small ((k : Int) + (y : Int)) (by omega) (by omega)]
            rfl
          case measure => rw [Hg.out]; omega
        · have Hs2 : Hid (kraftZ (zs.take (i + 1)) = k) := by show _ = _; rw [Hst.out, if_neg (by omega)]; rfl
          clear Hst
          go_wp2
          go_roundg (n - (i + 1))
          case rel => exact ⟨i + 1, k, rfl, by omega, by go_num, rfl, Hs2.out.symm, rfl⟩
          case measure => rw [Hg.out]; omega
      · have Hs2 : Hid (kraftZ (zs.take (i + 1)) = k) := by show _ = _; rw [Hst.out, if_neg (by omega)]; rfl
        clear Hst
        go_wp2
        go_roundg (n - (i + 1))
        case rel => exact ⟨i + 1, k, rfl, by omega, by go_num, rfl, Hs2.out.symm, rfl⟩
        case measure => rw [Hg.out]; omega
    · go_wp2
      go_ret
      refine ⟨?_, rfl⟩
      have : k = kraftZ zs := by rw [Hk.out, List.take_of_length_le (by rw [← Hn.out]; omega)]
      rw [← this]; rfl

set_option maxHeartbeats 800000 in
theorem cost_any (v u : Value) (zs : List Int) (ls : List Nat) (w : World) (h : ReadsZ w v zs) (k : Reads .i64 w u ls) (hl : zs.length ≤ 1000) (hl63 : ∀ l ∈ ls, l ≤ 63) :
    Calls Try.prog 16 #[v, u] w fun e w' => e = .returned (.int .i64 (costZ zs ls : Nat)) ∧ Fr w w' (fun _ => False) := by
  obtain ⟨a0, c0, rfl, hc0⟩ := h.form
  have kz := k.z
  obtain ⟨a1, c1, rfl, hc1⟩ := kz.form
  rw [List.length_map] at kz hc1 ⊢
  have Hz : Hid (ReadsZ w (.slice a0 zs.length c0) zs) := h
  have Hk : Hid (ReadsZ w (.slice a1 ls.length c1) (ls.map fun (b : Nat) => (b : Int))) := kz
  obtain ⟨n, hn⟩ : ∃ n, n = zs.length := ⟨_, rfl⟩
  obtain ⟨m, hm⟩ : ∃ m, m = ls.length := ⟨_, rfl⟩
  rw [← hn] at Hz hc0 hl ⊢
  rw [← hm] at Hk hc1 ⊢
  have Hn : Hid _ := hn
  have Hm : Hid _ := hm
  have H63 : Hid _ := hl63
  clear h k kz hn hm hl63
  go_enter Try.func16, Try.ntmps16
  obtain ⟨L, hL⟩ : ∃ L, L = min n m := ⟨_, rfl⟩
  go_wp2_with fail
  all_goals
    go_loopg [5, 12] L (fun g C I wr => ∃ i c : Nat, g = L - i ∧ i ≤ L ∧ I = .int .i64 (i : Int) ∧ C = .int .i64 (c : Int) ∧ c = costZ (zs.take i) (ls.take i) ∧ Fr w wr (fun _ => False))
    case atStart => exact ⟨0, 0, rfl, by omega, rfl, rfl, by simp [costZ], Fr.refl _ _⟩
    case round =>
      obtain ⟨i, c, hg, hi, rfl, rfl, hc, hf⟩ := hrel
      have Hg : Hid _ := hg
      have Hc : Hid _ := hc
      have hcb : c ≤ 69269232549888000 := by
        have := costZ_le (zs.take i) (ls.take i) (fun l hl => H63.out l (List.mem_of_mem_take hl))
        rw [← hc, List.length_take, ← Hn.out] at this
        omega
      clear hg hc
      by_cases hlt : i < L
      · obtain ⟨x, hx⟩ : ∃ x, zs[i]? = some x := ⟨_, List.getElem?_eq_getElem (by rw [← Hn.out]; omega)⟩
        obtain ⟨y, hy⟩ : ∃ y, ls[i]? = some y := ⟨_, List.getElem?_eq_getElem (by rw [← Hm.out]; omega)⟩
        obtain ⟨b, off, cp, e, hb0, kx⟩ := (Hz.out.keep hf).get i x hx
        obtain ⟨b', off', cp', e', hb1, ky⟩ := (Hk.out.keep hf).get i (y : Int) (by rw [List.getElem?_map, hy]; rfl)
        simp only [Value.slice.injEq] at e e'
        obtain ⟨rfl, -, rfl⟩ := e
        obtain ⟨rfl, -, rfl⟩ := e'
        have kx' : ∀ z, Fr wr.drew z (fun _ => False) → z.cell? ⟨b, off + i, none⟩ = some (.int .i64 x) := fun z hz => kx z ((Fr.refl wr _).drew.none hz)
        have ky' : ∀ z, Fr wr.drew z (fun _ => False) → z.cell? ⟨b', off' + i, none⟩ = some (.int .i64 (y : Int)) := fun z hz => ky z ((Fr.refl wr _).drew.none hz)
        have hi1 : (i : Int) < (n : Int) := by omega
        have hi2 : (i : Int) < (m : Int) := by omega
        have Hst : Hid (costZ (zs.take (i + 1)) (ls.take (i + 1)) = c + clampN x * y) := by show _ = _; rw [costZ_step hx hy, ← Hc.out]
        have hy63 := H63.out y (List.mem_of_getElem? hy)
        have hcl := clampN_le x
        have Hcl : Hid (∀ z, Calls Try.prog 23 #[.int .i64 x] z fun e w' => e = .returned (.int .i64 (clampN x : Nat)) ∧ w' = z) := fun z => counted_any x z
        generalize clampN x = q at Hst hcl Hcl
        have hqy : q * y ≤ 69269232549888 := Nat.mul_le_mul hcl hy63
        have hw1 : IntKind.i64.wrap ((q : Int) * (y : Int)) = ((q * y : Nat) : Int) := by rw [← Int.natCast_mul, IntWalk.i64_in _ (by omega)]
        have hw2 : IntKind.i64.wrap ((c : Int) + ((q * y : Nat) : Int)) = ((c + q * y : Nat) : Int) := by rw [IntWalk.i64_in _ (by omega)]; omega
        generalize q * y = qy at hqy hw1 hw2 Hst
        clear kx ky hx hy
        go_wp2
        refine wp_region_all (fun _ => False) [.c ?_, .c ?_, .c ?_, .c ?_, .c ?_, .c (.int .i64 (q : Int)), .c ?_, .c ?_, .c ?_, .c ?_, .c ?_, .c ?_, .c ?_] (by kernel_rfl) (by kernel_rfl) rfl ?last ?walk
        case last => repeat (first | exact Lasts.nil | refine Lasts.c ?_)
        case walk =>
          repeat (refine wpAll_take rfl rfl (fun x hx => ?_) ?_; (focus (go_simp; with_reducible rfl)); simp only [Act.put, List.setIfInBounds_toArray, List.set_cons_zero, List.set_cons_succ])
          refine wpAll_call rfl rfl (fun x hx hR K hK => ?_) ?_
          · go_simp
            refine (Hcl.out _).mono ?_
            rintro e w' ⟨rfl, rfl⟩
            exact hK _ (Fr.refl _ _)
          simp only [Act.put, List.setIfInBounds_toArray, List.set_cons_zero, List.set_cons_succ]
          repeat (refine wpAll_take rfl rfl (fun x hx => ?_) ?_; (focus (go_simp; with_reducible rfl)); simp only [Act.put, List.setIfInBounds_toArray, List.set_cons_zero, List.set_cons_succ])
          refine wpAll_nil (fun wx hfx _ => ?_)
          replace hfx := hf.drew.none hfx
          go_wp2
          go_roundg (L - (i + 1))
          case rel => exact ⟨i + 1, c + qy, rfl, by omega, by go_num, by first | rfl | (rw [← hw2]), Hst.out.symm, hfx⟩
          case measure => rw [Hg.out]; omega
      · go_wp2
        go_ret
        refine ⟨?_, hf⟩
        have : c = costZ zs ls := by rw [Hc.out, costZ_all _ _ _ (by rw [← Hn.out, ← Hm.out]; omega)]
        rw [← this]; rfl

end Go.Proofs.Ytjjanlpkhoeejaa

/-
  The contract of code.Right.
-/
import Derived.Test.YtclfbdfgmeliaaaRRight
import Derived.Test.YtclfbdfgmeliaaaMKraft
namespace Go.Proofs.Ytclfbdfgmeliaaa
open Go.RowKit

theorem beq_16384 (k : Nat) : (((k : Nat) : Int) == 16384) = decide (k = 16384) := by
  by_cases h : k = 16384
  · subst h; rfl
  · rw [decide_eq_false h, beq_eq_false_iff_ne]; omega
/-- A single code takes half of all just if it has 1 bit. -/
theorem half_one : ∀ (zs : List Int), inZ zs = true → someZ zs = 1 → (oneZ zs = true ↔ kraftZ zs = 16384)
  | [], _, h => by simp [someZ] at h
  | z :: zs, hin, h => by
    have hz : 0 ≤ z ∧ z ≤ 15 := by
      have := List.all_eq_true.1 hin z (by simp)
      simpa using this
    have hin2 : inZ zs = true := by
      unfold inZ at hin ⊢
      rw [List.all_cons, Bool.and_eq_true] at hin
      exact hin.2
    have hs : someZ (z :: zs) = someZ zs + if 0 < z then 1 else 0 := by
      unfold someZ
      rw [List.countP_cons]
      by_cases h0 : 0 < z <;> simp [h0]
    have hk : kraftZ (z :: zs) = (if 1 ≤ z ∧ z ≤ 15 then 2 ^ (15 - z.toNat) else 0) + kraftZ zs := by unfold kraftZ; rw [List.map_cons, List.sum_cons]
    have ho : oneZ (z :: zs) = (decide (0 < z → z = 1) && oneZ zs) := by unfold oneZ; rw [List.all_cons]
    rw [hs] at h
    by_cases h0 : 0 < z
    · rw [if_pos h0] at h
      have hz0 : ∀ y ∈ zs, ¬ 0 < y := by
        have h1 : someZ zs = 0 := by omega
        unfold someZ at h1
        rw [List.countP_eq_zero] at h1
        intro y hy
        simpa using h1 y hy
      have hk0 : kraftZ zs = 0 := by
        clear h hs hk ho hin hin2
        induction zs with
        | nil => rfl
        | cons y ys ih =>
          have h1 : kraftZ (y :: ys) = (if 1 ≤ y ∧ y ≤ 15 then 2 ^ (15 - y.toNat) else 0) + kraftZ ys := by unfold kraftZ; rw [List.map_cons, List.sum_cons]
          rw [h1, if_neg (by have := hz0 y (by simp); omega), ih (fun x hx => hz0 x (by simp [hx]))]
      have ho0 : oneZ zs = true := by
        unfold oneZ
        rw [List.all_eq_true]
        intro y hy
        exact decide_eq_true fun h2 => absurd h2 (hz0 y hy)
      rw [hk, hk0, ho, ho0, if_pos ⟨by omega, hz.2⟩]
      simp only [Bool.and_true, decide_eq_true_eq, Nat.add_zero]
      obtain ⟨m, rfl⟩ := Int.eq_ofNat_of_zero_le hz.1
      have hm : m = 1 ∨ m = 2 ∨ m = 3 ∨ m = 4 ∨ m = 5 ∨ m = 6 ∨ m = 7 ∨ m = 8 ∨ m = 9 ∨ m = 10 ∨ m = 11 ∨ m = 12 ∨ m = 13 ∨ m = 14 ∨ m = 15 := by omega
      rcases hm with rfl | rfl | rfl | rfl | rfl | rfl | rfl | rfl | rfl | rfl | rfl | rfl | rfl | rfl | rfl <;> decide
    · rw [if_neg h0] at h
      rw [hk, ho, if_neg (by omega), decide_eq_true (fun h2 => absurd h2 h0), Nat.zero_add, Bool.true_and]
      exact half_one zs hin2 h
theorem right_half {zs : List Int} (hl : zs.length ≤ 256) (hin : inZ zs = true) : rightB zs = (decide (kraftZ zs = 32768) || (decide (someZ zs = 1) && decide (kraftZ zs = 16384))) := by
  unfold rightB
  rw [decide_eq_true hl, hin, Bool.true_and, Bool.true_and, Bool.or_comm]
  congr 1
  by_cases h : someZ zs = 1
  · rw [decide_eq_true h, Bool.true_and, Bool.true_and]
    have := half_one zs hin h
    by_cases h2 : kraftZ zs = 16384
    · rw [decide_eq_true h2]; exact this.2 h2
    · rw [decide_eq_false h2]
      cases h3 : oneZ zs with
      | false => rfl
      | true => exact absurd (this.1 h3) h2
  · rw [decide_eq_false h]; rfl

set_option maxRecDepth 4000 in
set_option maxHeartbeats 800000 in
theorem rightC_any (v : Value) (zs : List Int) (w : World) (h : ReadsZ w v zs) :
    Calls Try.prog 54 #[v] w fun e w' => e = .returned (.bool (rightB zs)) ∧ w' = w := by
  obtain ⟨a0, c0, rfl, hc0⟩ := h.form
  have Hz : Hid (ReadsZ w (.slice a0 zs.length c0) zs) := h
  obtain ⟨n, hn⟩ : ∃ n, n = zs.length := ⟨_, rfl⟩
  rw [← hn] at Hz hc0 ⊢
  have Hn : Hid _ := hn
  clear h hn
  go_enter Try.func54, Try.ntmps54
  by_cases h256 : 256 < n
  · have He : Hid (rightB zs = false) := by show _ = _; unfold rightB; rw [decide_eq_false (by rw [← Hn.out]; omega)]; rfl
    go_wp2_with fail
    go_ret
    exact ⟨by rw [He.out]; rfl, rfl⟩
  · go_wp2_with fail
    go_loopg [3, 12] n (fun g C I wr => ∃ (i c : Nat), g = n - i ∧ i ≤ n ∧ I = .int .i64 (i : Int) ∧ C = .int .i64 (c : Int) ∧ c = someZ (zs.take i) ∧ inZ (zs.take i) = true ∧ wr = w)
    case atStart => exact ⟨0, 0, rfl, by omega, rfl, rfl, rfl, rfl, rfl⟩
    case round =>
      obtain ⟨i, c, hg, hi, rfl, rfl, hc, hin, rfl⟩ := hrel
      have Hg : Hid _ := hg
      have Hc : Hid _ := hc
      have Hin : Hid _ := hin
      have hcb : c ≤ 256 := by have := someZ_le (zs.take i); rw [List.length_take] at this; omega
      clear hg hc hin
      by_cases hlt : i < n
      · obtain ⟨x, hx⟩ : ∃ x, zs[i]? = some x := ⟨_, List.getElem?_eq_getElem (by rw [← Hn.out]; exact hlt)⟩
        obtain ⟨b, off, cp, e, hb0, kx⟩ := Hz.out.get i x hx
        simp only [Value.slice.injEq] at e
        obtain ⟨rfl, -, rfl⟩ := e
        have cx := kx _ (Fr.refl _ _)
        have hi1 : (i : Int) < (n : Int) := by omega
        have htk := takeZ_step hx
        have Hx : Hid _ := hx
        clear kx hx
        by_cases hx0 : x < 0
        · have He : Hid (rightB zs = false) := by show _ = _; unfold rightB; rw [inZ_bad (List.mem_of_getElem? Hx.out) (.inl hx0)]; simp
          have hd1 : decide (x < 0) = true := decide_eq_true hx0
          clear htk
          go_wp2_with fail
          go_ret
          exact ⟨by rw [He.out]; rfl, rfl⟩
        · by_cases hx15 : 15 < x
          · have He : Hid (rightB zs = false) := by show _ = _; unfold rightB; rw [inZ_bad (List.mem_of_getElem? Hx.out) (.inr hx15)]; simp
            have hd1 : decide (x < 0) = false := decide_eq_false hx0
            have hd2 : decide (15 < x) = true := decide_eq_true hx15
            clear htk
            go_wp2_with fail
            go_ret
            exact ⟨by rw [He.out]; rfl, rfl⟩
          · have hd1 : decide (x < 0) = false := decide_eq_false hx0
            have hd2 : decide (15 < x) = false := decide_eq_false hx15
            have Hin2 : Hid (inZ (zs.take (i + 1)) = true) := by show _ = _; rw [htk, inZ_snoc, Hin.out, decide_eq_true ⟨by omega, by omega⟩]; rfl
            by_cases hxp : 0 < x
            · have hd3 : decide (0 < x) = true := decide_eq_true hxp
              have Hc2 : Hid (c + 1 = someZ (zs.take (i + 1))) := by show _ = _; rw [htk, someZ_snoc, if_pos hxp, ← Hc.out]
              have hcw : IntKind.i64.wrap ((c : Int) + 1) = ((c + 1 : Nat) : Int) := by rw [IntWalk.i64_in _ (by omega)]; omega
              clear htk
              go_wp2_with fail
              go_roundg (n - (i + 1))
              case rel => exact ⟨i + 1, c + 1, rfl, by omega, by go_num, by first | rfl | (rw [← hcw]), Hc2.out, Hin2.out, rfl⟩
              case measure => rw [Hg.out]; omega
            · have hd3 : decide (0 < x) = false := decide_eq_false hxp
              have Hc2 : Hid (c = someZ (zs.take (i + 1))) := by show _ = _; rw [htk, someZ_snoc, if_neg hxp, ← Hc.out]; rfl
              clear htk
              go_wp2_with fail
              go_roundg (n - (i + 1))
              case rel => exact ⟨i + 1, c, rfl, by omega, by go_num, rfl, Hc2.out, Hin2.out, rfl⟩
              case measure => rw [Hg.out]; omega
      · have htl : zs.take i = zs := List.take_of_length_le (by rw [← Hn.out]; omega)
        have hd0 : ¬ (i : Int) < (n : Int) := by omega
        have Hfin : Hid (rightB zs = (decide (kraftZ zs = 32768) || (decide (c = 1) && decide (kraftZ zs = 16384)))) := by
          show _ = _
          have h1 := Hin.out
          have h2 := Hc.out
          rw [htl] at h1 h2
          rw [right_half (by rw [← Hn.out]; omega) h1, ← h2]
        clear htl
        go_wp2_with fail
        refine (kraft_any _ zs _ Hz.out (by rw [← Hn.out]; omega)).mono ?_
        rintro e w1 ⟨rfl, rfl⟩
        generalize kraftZ zs = K at Hfin
        by_cases hK : K = 32768
        · subst hK
          have He : Hid (rightB zs = true) := by show _ = _; rw [Hfin.out]; rfl
          go_wp2_with fail
          go_ret
          exact ⟨by rw [He.out]; rfl, rfl⟩
        · have hK1 : ((K : Int) == 32768) = false := by rw [beq_eq_false_iff_ne]; omega
          by_cases hc1 : c = 1
          · subst hc1
            have He : Hid (rightB zs = decide (K = 16384)) := by show _ = _; rw [Hfin.out, decide_eq_false hK]; rfl
            by_cases hK2 : K = 16384
            · subst hK2
              go_wp2_with fail
              go_ret
              exact ⟨by rw [He.out]; rfl, rfl⟩
            · have hK3 : ((K : Int) == 16384) = false := by rw [beq_eq_false_iff_ne]; omega
              go_wp2_with fail
              go_ret
              exact ⟨by rw [He.out, decide_eq_false hK2]; rfl, rfl⟩
          · have hc2 : ((c : Int) == 1) = false := by rw [beq_eq_false_iff_ne]; omega
            have He : Hid (rightB zs = false) := by show _ = _; rw [Hfin.out, decide_eq_false hK, decide_eq_false hc1]; rfl
            go_wp2_with fail
            go_ret
            exact ⟨by rw [He.out]; rfl, rfl⟩

end Go.Proofs.Ytclfbdfgmeliaaa

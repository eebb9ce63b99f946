/-
  The contract of the reference's Right.
-/
import Derived.Test.YtclfbdfgmeliaaaKRight
import Derived.Test.YtclfbdfgmeliaaaRKraft
namespace Go.Proofs.Ytclfbdfgmeliaaa
open Go.RowKit

theorem beq_32768 (k : Nat) : (((k : Nat) : Int) == 32768) = decide (k = 32768) := by
  by_cases h : k = 32768
  · subst h; rfl
  · rw [decide_eq_false h, beq_eq_false_iff_ne]; omega

set_option maxRecDepth 4000 in
set_option maxHeartbeats 800000 in
theorem refRight_any (v : Value) (zs : List Int) (w : World) (h : ReadsZ w v zs) :
    Calls Try.prog 30 #[v] w fun e w' => e = .returned (.bool (rightB zs)) ∧ Fr w w' (fun _ => False) := by
  obtain ⟨a0, c0, rfl, hc0⟩ := h.form
  have Hz : Hid (ReadsZ w (.slice a0 zs.length c0) zs) := h
  obtain ⟨n, hn⟩ : ∃ n, n = zs.length := ⟨_, rfl⟩
  rw [← hn] at Hz hc0 ⊢
  have Hn : Hid _ := hn
  clear h hn
  go_enter Try.func30, Try.ntmps30
  by_cases h256 : 256 < n
  · have He : Hid (rightB zs = false) := by show _ = _; unfold rightB; rw [decide_eq_false (by rw [← Hn.out]; omega)]; rfl
    go_wp2_with fail
    go_ret
    exact ⟨by rw [He.out]; rfl, Fr.refl _ _⟩
  · go_wp2_with fail
    go_loopg [3, 4, 5] n (fun g C O I wr => ∃ (i c : Nat), g = n - i ∧ i ≤ n ∧ I = .int .i64 (i : Int) ∧ C = .int .i64 (c : Int) ∧ c = someZ (zs.take i) ∧ O = .bool (oneZ (zs.take i)) ∧ inZ (zs.take i) = true ∧ wr = w)
    case atStart => exact ⟨0, 0, rfl, by omega, rfl, rfl, rfl, rfl, rfl, rfl⟩
    case round =>
      obtain ⟨i, c, hg, hi, rfl, rfl, hc, rfl, hin, rfl⟩ := hrel
      have Hg : Hid _ := hg
      have Hc : Hid _ := hc
      have Hin : Hid _ := hin
      have hcb : c ≤ 256 := by have := someZ_le (zs.take i); rw [List.length_take] at this; omega
      obtain ⟨o, ho⟩ : ∃ o, o = oneZ (zs.take i) := ⟨_, rfl⟩
      rw [← ho]
      have Ho : Hid _ := ho
      clear hg hc hin ho
      by_cases hlt : i < n
      · obtain ⟨x, hx⟩ : ∃ x, zs[i]? = some x := ⟨_, List.getElem?_eq_getElem (by rw [← Hn.out]; exact hlt)⟩
        obtain ⟨b, off, cp, e, hb0, kx⟩ := Hz.out.get i x hx
        simp only [Value.slice.injEq] at e
        obtain ⟨rfl, -, rfl⟩ := e
        have cx := kx _ (Fr.refl _ _)
        have hi1 : (i : Int) < (n : Int) := by omega
        have htk := takeZ_step hx
        have Hx : Hid _ := hx
        clear kx hx
        by_cases hx0 : x < 0
        · have He : Hid (rightB zs = false) := by show _ = _; unfold rightB; rw [inZ_bad (List.mem_of_getElem? Hx.out) (.inl hx0)]; simp
          have hd1 : decide (x < 0) = true := decide_eq_true hx0
          clear htk
          go_wp2_with fail
          go_ret
          exact ⟨by rw [He.out]; rfl, Fr.refl _ _⟩
        · by_cases hx15 : 15 < x
          · have He : Hid (rightB zs = false) := by show _ = _; unfold rightB; rw [inZ_bad (List.mem_of_getElem? Hx.out) (.inr hx15)]; simp
            have hd1 : decide (x < 0) = false := decide_eq_false hx0
            have hd2 : decide (15 < x) = true := decide_eq_true hx15
            clear htk
            go_wp2_with fail
            go_ret
            exact ⟨by rw [He.out]; rfl, Fr.refl _ _⟩
          · have hd1 : decide (x < 0) = false := decide_eq_false hx0
            have hd2 : decide (15 < x) = false := decide_eq_false hx15
            have Hin2 : Hid (inZ (zs.take (i + 1)) = true) := by show _ = _; rw [htk, inZ_snoc, Hin.out, decide_eq_true ⟨by omega, by omega⟩]; rfl
            by_cases hxp : 0 < x
            · have hd3 : decide (0 < x) = true := decide_eq_true hxp
              have Hc2 : Hid (c + 1 = someZ (zs.take (i + 1))) := by show _ = _; rw [htk, someZ_snoc, if_pos hxp, ← Hc.out]
              have Ho2 : Hid (oneZ (zs.take (i + 1)) = (o && decide (x = 1))) := by
                show _ = _
                rw [htk, oneZ_snoc, ← Ho.out]
                congr 1
                exact decide_eq_decide.2 ⟨fun h => h hxp, fun h _ => h⟩
              have hcw : IntKind.i64.wrap ((c : Int) + 1) = ((c + 1 : Nat) : Int) := by rw [IntWalk.i64_in _ (by omega)]; omega
              clear htk
              cases o
              · go_wp2_with fail
                go_roundg (n - (i + 1))
                case rel => exact ⟨i + 1, c + 1, rfl, by omega, by go_num, by first | rfl | (rw [← hcw]), Hc2.out, by rw [Ho2.out]; rfl, Hin2.out, rfl⟩
                case measure => rw [Hg.out]; omega
              · go_wp2_with fail
                all_goals
                  go_roundg (n - (i + 1))
                  case rel => exact ⟨i + 1, c + 1, rfl, by omega, by go_num, by first | rfl | (rw [← hcw]), Hc2.out, by rw [Ho2.out]; first | rfl | (congr 1; simp), Hin2.out, rfl⟩
                  case measure => rw [Hg.out]; omega
            · have hd3 : decide (0 < x) = false := decide_eq_false hxp
              have Hc2 : Hid (c = someZ (zs.take (i + 1))) := by show _ = _; rw [htk, someZ_snoc, if_neg hxp, ← Hc.out]; rfl
              have Ho2 : Hid (oneZ (zs.take (i + 1)) = o) := by
                show _ = _
                rw [htk, oneZ_snoc, ← Ho.out, decide_eq_true (fun h => absurd h hxp), Bool.and_true]
              clear htk
              go_wp2_with fail
              go_roundg (n - (i + 1))
              case rel => exact ⟨i + 1, c, rfl, by omega, by go_num, rfl, Hc2.out, by rw [Ho2.out], Hin2.out, rfl⟩
              case measure => rw [Hg.out]; omega
      · have hie : i = n := by omega
        have htl : zs.take i = zs := List.take_of_length_le (by rw [← Hn.out]; omega)
        have hd0 : ¬ (i : Int) < (n : Int) := by omega
        have Hfin : Hid (rightB zs = ((decide (c = 1) && o) || decide (kraftZ zs = 32768))) := by
          show _ = _
          have h1 := Hin.out
          have h2 := Hc.out
          have h3 := Ho.out
          rw [htl] at h1 h2 h3
          unfold rightB
          rw [h1, ← h2, ← h3, decide_eq_true (by rw [← Hn.out]; omega)]
          simp
        clear htl
        by_cases hc1 : c = 1
        · subst hc1
          cases o
          · go_wp2_with fail
            refine (refKraft_any _ zs _ Hz.out (by rw [← Hn.out]; omega)).mono ?_
            rintro e w1 ⟨rfl, rfl⟩
            go_wp2_with fail
            go_ret
            refine ⟨?_, Fr.refl _ _⟩
            rw [Hfin.out, ← beq_32768]
            simp
          · go_wp2_with fail
            go_ret
            exact ⟨by rw [Hfin.out]; rfl, Fr.refl _ _⟩
        · have hc2 : ((c : Int) == 1) = false := by rw [beq_eq_false_iff_ne]; omega
          go_wp2_with fail
          refine (refKraft_any _ zs _ Hz.out (by rw [← Hn.out]; omega)).mono ?_
          rintro e w1 ⟨rfl, rfl⟩
          go_wp2_with fail
          go_ret
          refine ⟨?_, Fr.refl _ _⟩
          rw [Hfin.out, ← beq_32768]
          simp [hc1]

end Go.Proofs.Ytclfbdfgmeliaaa

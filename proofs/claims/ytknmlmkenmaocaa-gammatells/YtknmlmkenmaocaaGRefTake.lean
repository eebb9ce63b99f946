/-
  The contract of the reference's GammaTake: as that of package gamma; at most 10^11 bytes.
-/
import Derived.Test.YtknmlmkenmaocaaGTake
import Derived.Test.YtknmlmkenmaocaaBRefRead
namespace Go.Proofs.Ytknmlmkenmaocaa
open Go.RowKit

/-- A reader whose place is set anew. -/
theorem Rd.place {T : TypeId} {w : World} {p : Nat} {sv : Value} {bs : List Nat} {j : Nat} (h : Rd T w p sv bs j) (i : Nat) (hi : i ≤ 8 * bs.length) : Rd T (w.setCell ⟨p, 1, none⟩ (.int .i64 (i : Int))) p sv bs i := by
  obtain ⟨hp, hr, _, hl, hsm, hne⟩ := h
  exact ⟨two_set1 hp, hr.frame' (Fr.setCell (S := fun k => k = p) (Fr.refl w _) ⟨p, 1, none⟩ (fun _ => rfl) _) (fun h0 k hk e => hne h0 (by rw [hk, e])), hi, hl, hsm, hne⟩

set_option maxHeartbeats 1600000 in
theorem refGtake_any (p : Nat) (sv : Value) (bs : List Nat) (i : Nat) (w : World) (h : Rd 42 w p sv bs i) :
    Calls Try.prog 18 #[.pointer (some ⟨p, 0, none⟩)] w fun e w' => e = .returned (.tuple #[.int .u64 (gval (rest bs i) : Nat), .bool (gok (rest bs i))]) ∧ Rd 42 w' p sv bs (i + glen (rest bs i)) ∧ Fr w w' (fun k => k = p) := by
  have c1 := two_cell1 h.1
  have hi8 := h.2.2.1
  have hle := length_rest bs i
  have hll := lead_le (rest bs i)
  have Hle : Hid _ := hle
  have Hok : Hid (gok (rest bs i) = decide (lead (rest bs i) ≤ 63 ∧ 2 * lead (rest bs i) + 1 ≤ (rest bs i).length)) := rfl
  have Hval : Hid (gval (rest bs i) = if gok (rest bs i) = true then 2 ^ lead (rest bs i) + num (((rest bs i).drop (lead (rest bs i) + 1)).take (lead (rest bs i))) else 0) := rfl
  have Hlen : Hid (glen (rest bs i) = if gok (rest bs i) = true then 2 * lead (rest bs i) + 1 else 0) := rfl
  obtain ⟨z, hzz⟩ : ∃ z, z = lead (rest bs i) := ⟨_, rfl⟩
  rw [← hzz] at hll
  have Hzz : Hid (z = lead (rest bs i)) := hzz
  have Hll : Hid _ := hll
  have Hi8 : Hid _ := hi8
  -- what is told where there is none
  have Hbad : Hid (¬ (z ≤ 63 ∧ 2 * z + 1 ≤ (rest bs i).length) → ∀ wx j, Rd 42 wx p sv bs j → Fr w wx (fun k => k = p) → 
      Ending.returned (.tuple #[.int .u64 0, .bool false]) = .returned (.tuple #[.int .u64 (gval (rest bs i) : Nat), .bool (gok (rest bs i))]) ∧ Rd 42 (wx.setCell ⟨p, 1, none⟩ (.int .i64 (i : Int))) p sv bs (i + glen (rest bs i)) ∧ Fr w (wx.setCell ⟨p, 1, none⟩ (.int .i64 (i : Int))) (fun k => k = p)) := by
    intro hn wx j hj hfx
    have hokf : gok (rest bs i) = false := by rw [Hok.out, ← Hzz.out]; exact decide_eq_false hn
    have hv : gval (rest bs i) = 0 := by rw [Hval.out, if_neg (by rw [hokf]; decide)]
    have hlen : glen (rest bs i) = 0 := by rw [Hlen.out, if_neg (by rw [hokf]; decide)]
    exact ⟨by rw [hokf, hv]; rfl, by rw [hlen]; exact hj.place i Hi8.out, Fr.setCell (S := fun k => k = p) hfx ⟨p, 1, none⟩ (fun _ => rfl) _⟩
  clear hle hll hzz hi8
  go_enter Try.func18, Try.ntmps18
  go_wp2_with fail
  clear c1
  go_loopg [5] 65 (fun g n wr => ∃ k : Nat, g = 65 - k ∧ n = .int .i64 (k : Int) ∧ k ≤ z ∧ k ≤ 64 ∧ Rd 42 wr p sv bs (i + k) ∧ Fr w wr (fun k => k = p))
  case atStart => exact ⟨0, rfl, rfl, by omega, by omega, h, Fr.refl _ _⟩
  case round =>
    clear h
    obtain ⟨k, rfl, rfl, hk, hk64, hrd, hf⟩ := hrel
    by_cases hc : k < 64
    · go_wp2_with fail
      by_cases hr : k < (rest bs i).length
      · refine (refTake_yes p sv bs (i + k) 1 _ hrd ?_).mono ?_
        · have := Hle.out; rw [wide_one]; omega
        rintro e w1 ⟨rfl, hrd1, hf1⟩
        rw [wide_one] at hrd1 ⊢
        replace hf1 := hf.trans hf1 (fun _ _ h => h)
        clear hrd hf
        rcases lead_next (rest bs i) k (by rw [← Hzz.out]; exact hk) hr with ⟨hb, he⟩ | ⟨hb, he⟩
        · have hv : num (List.take 1 (List.drop (i + k) (unpack bs))) = 1 := by
            have := num_one (rest bs i) _ k hb
            unfold rest at this
            rw [List.drop_drop] at this
            exact this
          rw [hv]
          rw [← Hzz.out] at he
          have Hr : Hid _ := hr
          have He : Hid (z = k) := he
          clear hb hv hr he
          go_wp2_with fail
          have hwz : wide (k : Int) = k := by unfold wide; omega
          by_cases hy : 2 * k + 1 ≤ (rest bs i).length
          · refine (refTake_yes p sv bs _ (k : Int) w1 hrd1 ?_).mono ?_
            · have := Hle.out; rw [hwz]; omega
            rintro e w2 ⟨rfl, hq2, hf2⟩
            rw [hwz] at hq2 ⊢
            replace hf2 := hf1.trans hf2 (fun _ _ h => h)
            have hokt : gok (rest bs i) = true := by rw [Hok.out, ← Hzz.out, He.out]; exact decide_eq_true ⟨by omega, hy⟩
            have hv : gval (rest bs i) = 2 ^ k + num (List.take k (List.drop (i + k + 1) (unpack bs))) := by
              rw [Hval.out, if_pos hokt, ← Hzz.out, He.out]
              unfold rest
              rw [List.drop_drop, Nat.add_assoc]
            have hlen : glen (rest bs i) = 2 * k + 1 := by rw [Hlen.out, if_pos hokt, ← Hzz.out, He.out]
            have hnb : num (List.take k (List.drop (i + k + 1) (unpack bs))) < 2 ^ k := by
              have h1 := num_lt (List.take k (List.drop (i + k + 1) (unpack bs)))
              have h2 : (List.take k (List.drop (i + k + 1) (unpack bs))).length = k := by
                have := Hle.out
                rw [List.length_take, List.length_drop, length_unpack]; omega
              rwa [h2] at h1
            obtain ⟨V, hV⟩ : ∃ V, V = num (List.take k (List.drop (i + k + 1) (unpack bs))) := ⟨_, rfl⟩
            rw [← hV] at hv hnb ⊢
            have Hok1 : Hid _ := hokt
            have Hlen1 : Hid _ := hlen
            have Hv1 : Hid _ := hv
            have Hnb : Hid _ := hnb
            clear hV hv hokt hlen hnb hy hf1 hrd1
            go_wp2
            go_ret2
            refine ⟨by rw [Hok1.out, Hv1.out, or_pow k V (by omega) Hnb.out]; rfl, ?_, hf2⟩
            rw [Hlen1.out, show i + (2 * k + 1) = i + k + 1 + k by omega]
            exact hq2
          · refine (refTake_nofr p sv bs _ (k : Int) w1 hrd1 ?_).mono ?_
            · have := Hle.out; have := Hr.out; rw [hwz]; omega
            rintro e w2 ⟨rfl, hq2, hf2⟩
            replace hf2 := hf1.none hf2
            have hbad := Hbad.out (by rw [He.out]; exact fun h => hy h.2) _ _ hq2 hf2
            have Hb : Hid _ := hbad
            have d1 := two_cell1 hq2.1
            have f1' := two_free hq2.1 1
            clear hbad hy hf1 hrd1
            go_wp2
            go_ret2
            exact Hb.out
        · have hv : num (List.take 1 (List.drop (i + k) (unpack bs))) = 0 := by
            have := num_one (rest bs i) _ k hb
            unfold rest at this
            rw [List.drop_drop] at this
            exact this
          rw [hv]
          rw [← Hzz.out] at he
          clear hb hv hr
          go_wp2
          go_roundg (65 - (k + 1))
          case rel => exact ⟨k + 1, rfl, by go_num, he, by omega, hrd1, hf1⟩
          case measure => omega
      · refine (refTake_nofr p sv bs (i + k) 1 _ hrd ?_).mono ?_
        · have := Hle.out; rw [wide_one]; omega
        rintro e w1 ⟨rfl, hrd1, hf1⟩
        replace hf1 := hf.none hf1
        have hbad := Hbad.out (by have := Hll.out; intro h; omega) _ _ hrd1 hf1
        have Hb : Hid _ := hbad
        have d1 := two_cell1 hrd1.1
        have f1' := two_free hrd1.1 1
        clear hr hbad hrd hf
        go_wp2
        go_ret2
        exact Hb.out
    · have hbad := Hbad.out (by intro h; omega) _ _ hrd hf
      have Hb : Hid _ := hbad
      have d1 := two_cell1 hrd.1
      have f1' := two_free hrd.1 1
      clear hbad
      go_wp2
      go_ret2
      exact Hb.out

end Go.Proofs.Ytknmlmkenmaocaa

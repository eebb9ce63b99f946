/-
  The contracts of Take of package gamma, and of the function zeros; at most 10^11 bytes.
-/
import Derived.Test.YtknmlmkenmaocaaGPut
namespace Go.Proofs.Ytknmlmkenmaocaa
open Go.RowKit

theorem wide_one : wide 1 = 1 := by decide

set_option maxHeartbeats 800000 in
theorem zeros_yes (p : Nat) (sv : Value) (bs : List Nat) (i : Nat) (w : World) (h : Rd 57 w p sv bs i) (hz : lead (rest bs i) ≤ 63) (hl : lead (rest bs i) < (rest bs i).length) :
    Calls Try.prog 27 #[.pointer (some ⟨p, 0, none⟩)] w fun e w' => e = .returned (.tuple #[.int .i64 (lead (rest bs i) : Nat), .bool true]) ∧ Rd 57 w' p sv bs (i + (lead (rest bs i) + 1)) ∧ Fr w w' (fun k => k = p) := by
  obtain ⟨z, hzz⟩ : ∃ z, z = lead (rest bs i) := ⟨_, rfl⟩
  rw [← hzz] at hz hl ⊢
  have hl' := length_rest bs i
  have Hl' : Hid _ := hl'
  have Hl : Hid _ := hl
  have Hz : Hid (z = lead (rest bs i)) := hzz
  clear hl' hzz hl
  go_enter Try.func27, Try.ntmps27
  go_wp2_with fail
  go_loopg [4] 64 (fun g n wr => ∃ k : Nat, g = 64 - k ∧ n = .int .i64 (k : Int) ∧ k ≤ z ∧ Rd 57 wr p sv bs (i + k) ∧ Fr w wr (fun k => k = p))
  case atStart => exact ⟨0, rfl, rfl, by omega, h, Fr.refl _ _⟩
  case round =>
    clear h
    obtain ⟨k, rfl, rfl, hk, hrd, hf⟩ := hrel
    have hk63 : k ≤ 63 := by omega
    go_wp2_with fail
    refine (take_yes p sv bs (i + k) 1 _ hrd ?_).mono ?_
    · have := Hl.out; have := Hl'.out; rw [wide_one]; omega
    rintro e w1 ⟨rfl, hrd1, hf1⟩
    rw [wide_one] at hrd1 ⊢
    replace hf1 := hf.trans hf1 (fun _ _ h => h)
    rcases lead_next (rest bs i) k (by rw [← Hz.out]; exact hk) (by have := Hl.out; omega) with ⟨hb, he⟩ | ⟨hb, he⟩
    · have hv : num (List.take 1 (List.drop (i + k) (unpack bs))) = 1 := by
        have := num_one (rest bs i) _ k hb
        unfold rest at this
        rw [List.drop_drop] at this
        exact this
      rw [hv]
      rw [← Hz.out] at he
      clear hb hv hrd hf
      go_wp2
      go_ret2
      exact ⟨by rw [he]; rfl, by rw [he]; exact hrd1, hf1⟩
    · have hv : num (List.take 1 (List.drop (i + k) (unpack bs))) = 0 := by
        have := num_one (rest bs i) _ k hb
        unfold rest at this
        rw [List.drop_drop] at this
        exact this
      rw [hv]
      rw [← Hz.out] at he
      clear hb hv hrd hf
      go_wp2
      go_roundg (64 - (k + 1))
      case rel => exact ⟨k + 1, rfl, by go_num, he, hrd1, hf1⟩
      case measure => omega

set_option maxHeartbeats 800000 in
theorem zeros_no (p : Nat) (sv : Value) (bs : List Nat) (i : Nat) (w : World) (h : Rd 57 w p sv bs i) (hno : ¬ (lead (rest bs i) ≤ 63 ∧ lead (rest bs i) < (rest bs i).length)) :
    Calls Try.prog 27 #[.pointer (some ⟨p, 0, none⟩)] w fun e w' => e = .returned (.tuple #[.int .i64 0, .bool false]) ∧ Fr w w' (fun k => k = p) := by
  obtain ⟨z, hzz⟩ : ∃ z, z = lead (rest bs i) := ⟨_, rfl⟩
  have hle := lead_le (rest bs i)
  rw [← hzz] at hno hle
  have hl' := length_rest bs i
  have Hl' : Hid _ := hl'
  have Hle : Hid _ := hle
  have Hz : Hid (z = lead (rest bs i)) := hzz
  have Hno : Hid _ := hno
  clear hl' hzz hle hno
  go_enter Try.func27, Try.ntmps27
  go_wp2_with fail
  go_loopg [4] 65 (fun g n wr => ∃ k : Nat, g = 65 - k ∧ n = .int .i64 (k : Int) ∧ k ≤ z ∧ k ≤ 64 ∧ Rd 57 wr p sv bs (i + k) ∧ Fr w wr (fun k => k = p))
  case atStart => exact ⟨0, rfl, rfl, by omega, by omega, h, Fr.refl _ _⟩
  case round =>
    clear h
    obtain ⟨k, rfl, rfl, hk, hk64, hrd, hf⟩ := hrel
    by_cases hc : k ≤ 63
    · go_wp2_with fail
      by_cases hr : k < (rest bs i).length
      · refine (take_yes p sv bs (i + k) 1 _ hrd ?_).mono ?_
        · have := Hl'.out; rw [wide_one]; omega
        rintro e w1 ⟨rfl, hrd1, hf1⟩
        rw [wide_one] at hrd1 ⊢
        replace hf1 := hf.trans hf1 (fun _ _ h => h)
        rcases lead_next (rest bs i) k (by rw [← Hz.out]; exact hk) hr with ⟨hb, he⟩ | ⟨hb, he⟩
        · exact absurd ⟨by rw [Hz.out]; omega, by rw [Hz.out]; omega⟩ Hno.out
        · have hv : num (List.take 1 (List.drop (i + k) (unpack bs))) = 0 := by
            have := num_one (rest bs i) _ k hb
            unfold rest at this
            rw [List.drop_drop] at this
            exact this
          rw [hv]
          rw [← Hz.out] at he
          clear hb hv hrd hf hr
          go_wp2
          go_roundg (65 - (k + 1))
          case rel => exact ⟨k + 1, rfl, by go_num, he, by omega, hrd1, hf1⟩
          case measure => omega
      · refine (take_nofr p sv bs (i + k) 1 _ hrd ?_).mono ?_
        · have := Hl'.out; rw [wide_one]; omega
        rintro e w1 ⟨rfl, hrd1, hf1⟩
        clear hr
        go_wp2
        go_ret2
        exact ⟨rfl, hf.none hf1⟩
    · go_wp2
      go_ret2
      exact ⟨rfl, hf⟩

theorem Rd.copy {T : TypeId} {w w' : World} {p q : Nat} {sv : Value} {bs : List Nat} {i : Nat} {S : Nat → Prop} (h : Rd T w p sv bs i) (f : Fr w w' S) (hs : ∀ k, k < w.heap.size → ¬ S k) (hq : w.heap.size ≤ q)
    (hb : w'.heap[q]? = some (.cells #[sv, .int .i64 (i : Int)] T (0, 0))) : Rd T w' q sv bs i := by
  obtain ⟨hp, hr, hi, hl, hsm, hne⟩ := h
  have hlt : 0 < bs.length → ∀ k, sv.ownBlock = some k → k < w.heap.size := by
    intro h0 k hk
    obtain ⟨ao, cap, rfl, hc⟩ := hr
    obtain ⟨b, off, rfl, hcell⟩ := hc h0
    simp [Value.ownBlock] at hk
    subst hk
    exact World.block_lt_of_cell? _ _ (hcell 0 _ (row_get .u8 bs 0 h0))
  refine ⟨hb, hr.frame' f (fun h0 k hk => hs k (hlt h0 k hk)), hi, hl, hsm, fun h0 e => ?_⟩
  have := hlt h0 _ e
  omega

set_option maxHeartbeats 800000 in
theorem gtake_nil (w : World) :
    Calls Try.prog 17 #[.pointer none] w fun e w' => e = .returned (.tuple #[.int .u64 0, .bool false]) ∧ w' = w := by
  go_enter Try.func17, Try.ntmps17
  go_wp2
  go_ret2
  exact ⟨rfl, rfl⟩

theorem or_pow (z V : Nat) (hz : z ≤ 63) (hV : V < 2 ^ z) : bits .or .u64 (IntKind.u64.wrap (2 ^ z)) (V : Int) = ((2 ^ z + V : Nat) : Int) := by
  have e : (2 : Int) ^ z = ((2 ^ z : Nat) : Int) := by simp
  have hp : 2 ^ z ≤ 2 ^ 63 := Nat.pow_le_pow_right (by omega) hz
  have ho := Nat.two_pow_add_eq_or_of_lt hV 1
  rw [Nat.mul_one] at ho
  rw [e]
  generalize 2 ^ z = y at *
  rw [IntKind.wrap_u64, show ((y : Int) % 18446744073709551616) = (y : Int) by omega, u64_or_nat _ _ (by omega) (by omega), ← ho]

set_option maxHeartbeats 800000 in
theorem gtake_any (p : Nat) (sv : Value) (bs : List Nat) (i : Nat) (w : World) (h : Rd 57 w p sv bs i) :
    Calls Try.prog 17 #[.pointer (some ⟨p, 0, none⟩)] w fun e w' => e = .returned (.tuple #[.int .u64 (gval (rest bs i) : Nat), .bool (gok (rest bs i))]) ∧ Rd 57 w' p sv bs (i + glen (rest bs i)) ∧ Fr w w' (fun k => k = p) := by
  obtain ⟨ao, ln, cap, rfl⟩ : ∃ ao ln cap, sv = .slice ao ln cap := by
    obtain ⟨_, ⟨ao, cap, e, _⟩, _⟩ := h
    exact ⟨_, _, _, e⟩
  have c0 := two_cell0 h.1
  have c1 := two_cell1 h.1
  have hpl := lt_of_block h.1
  have hq : Rd 57 (w.alloc (.cells #[.slice ao ln cap, .int .i64 (i : Int)] 57)) w.heap.size (.slice ao ln cap) bs i :=
    h.copy ((Fr.refl w (fun _ => False)).alloc _) (fun _ _ h => h) (Nat.le_refl _) (heap_alloc_new w _)
  have hf0 : Fr w (w.alloc (.cells #[.slice ao ln cap, .int .i64 (i : Int)] 57)) (fun _ => False) := (Fr.refl w (fun _ => False)).alloc _
  have hle := length_rest bs i
  have Hle : Hid _ := hle
  clear hle
  have Hok : Hid (gok (rest bs i) = decide (lead (rest bs i) ≤ 63 ∧ 2 * lead (rest bs i) + 1 ≤ (rest bs i).length)) := rfl
  have Hval : Hid (gval (rest bs i) = if gok (rest bs i) = true then 2 ^ lead (rest bs i) + num (((rest bs i).drop (lead (rest bs i) + 1)).take (lead (rest bs i))) else 0) := rfl
  have Hlen : Hid (glen (rest bs i) = if gok (rest bs i) = true then 2 * lead (rest bs i) + 1 else 0) := rfl
  go_enter Try.func17, Try.ntmps17
  go_wp2_with fail
  generalize w.alloc (.cells #[.slice ao ln cap, .int .i64 (i : Int)] 57) = wa at *
  obtain ⟨q, hqe⟩ : ∃ q, q = w.heap.size := ⟨_, rfl⟩
  rw [← hqe] at hq hpl ⊢
  have Hq : Hid (q = w.heap.size) := hqe
  clear hqe c0 c1
  by_cases hz : lead (rest bs i) ≤ 63 ∧ lead (rest bs i) < (rest bs i).length
  · refine (zeros_yes q _ bs i wa hq hz.1 hz.2).mono ?_
    rintro e w1 ⟨rfl, hq1, hf1⟩
    replace hf1 := hf0.newer1 hf1 (by rw [Hq.out]; omega)
    obtain ⟨z, hzz⟩ : ∃ z, z = lead (rest bs i) := ⟨_, rfl⟩
    rw [← hzz] at hz hq1 ⊢
    have Hzz : Hid (z = lead (rest bs i)) := hzz
    have Hz : Hid _ := hz
    have hz63 := hz.1
    clear hzz hz hq hf0
    go_wp2_with fail
    have hwz : wide (z : Int) = z := by unfold wide; omega
    by_cases hy : 2 * z + 1 ≤ (rest bs i).length
    · refine (take_yes q _ bs _ (z : Int) w1 hq1 ?_).mono ?_
      · have := Hle.out; rw [hwz]; omega
      rintro e w2 ⟨rfl, hq2, hf2⟩
      rw [hwz] at hq2 ⊢
      replace hf2 := hf1.newer1 hf2 (by rw [Hq.out]; omega)
      have hokt : gok (rest bs i) = true := by rw [Hok.out, ← Hzz.out]; exact decide_eq_true ⟨hz63, hy⟩
      have hv : gval (rest bs i) = 2 ^ z + num (List.take z (List.drop (i + (z + 1)) (unpack bs))) := by
        rw [Hval.out, if_pos hokt, ← Hzz.out]
        unfold rest
        rw [List.drop_drop]
      have hlen : glen (rest bs i) = 2 * z + 1 := by rw [Hlen.out, if_pos hokt, ← Hzz.out]
      have hnb : num (List.take z (List.drop (i + (z + 1)) (unpack bs))) < 2 ^ z := by
        have h1 := num_lt (List.take z (List.drop (i + (z + 1)) (unpack bs)))
        have h2 : (List.take z (List.drop (i + (z + 1)) (unpack bs))).length = z := by
          have := Hle.out
          rw [List.length_take, List.length_drop, length_unpack]; omega
        rwa [h2] at h1
      obtain ⟨V, hV⟩ : ∃ V, V = num (List.take z (List.drop (i + (z + 1)) (unpack bs))) := ⟨_, rfl⟩
      rw [← hV] at hv hnb ⊢
      have Hok1 : Hid _ := hokt
      have Hlen1 : Hid _ := hlen
      have Hv1 : Hid _ := hv
      have Hnb : Hid _ := hnb
      clear hV hv hokt hlen hnb hy hq1 hf1
      have c0 := two_cell0 hq2.1
      have c1 := two_cell1 hq2.1
      have hp2 : w2.heap[p]? = some (.cells #[.slice ao ln cap, .int .i64 (i : Int)] 57 (0, 0)) := hf2.kept h.1 (fun h => h)
      have d0 := two_cell0 hp2
      have d1 := two_cell1 hp2
      have f0 := two_free hp2 0
      have f1 := two_free hp2 1
      go_wp2
      go_ret2
      have hpn : p ≠ q := by omega
      have hfr : Fr w ((w2.setCell ⟨p, 0, none⟩ (.slice ao ln cap)).setCell ⟨p, 1, none⟩ (.int .i64 ((i : Int) + ((z : Int) + 1) + (z : Int)))) (fun k => k = p) :=
        Fr.setCell (S := fun k => k = p) (Fr.setCell (S := fun k => k = p) (hf2.mono (fun _ _ h => h.elim)) ⟨p, 0, none⟩ (fun _ => rfl) _) ⟨p, 1, none⟩ (fun _ => rfl) _
      refine ⟨by rw [Hok1.out, Hv1.out, or_pow z V Hz.out.1 Hnb.out]; rfl, ⟨?_, ?_⟩, hfr⟩
      · rw [Hlen1.out]
        have := two_set1 (u := .int .i64 ((i : Int) + ((z : Int) + 1) + (z : Int))) (two_set0 (u := .slice ao ln cap) hp2)
        rw [show (((i + (2 * z + 1) : Nat)) : Int) = (i : Int) + ((z : Int) + 1) + (z : Int) by omega]
        exact this
      · obtain ⟨hb, hr, hi, hl, hs, hsp⟩ := h
        refine ⟨hr.frame' hfr (fun h0 k hk e => hsp h0 (by rw [hk, e])), ?_, hl, hs, hsp⟩
        have := glen_le (rest bs i)
        have := Hle.out
        omega
    · refine (take_nofr q _ bs _ (z : Int) w1 hq1 ?_).mono ?_
      · have := Hle.out; have := Hz.out.2; rw [hwz]; omega
      rintro e w2 ⟨rfl, hq2, hf2⟩
      replace hf2 := hf1.none hf2
      have hokf : gok (rest bs i) = false := by rw [Hok.out, ← Hzz.out]; exact decide_eq_false (fun h => hy h.2)
      have hv : gval (rest bs i) = 0 := by rw [Hval.out, if_neg (by rw [hokf]; decide)]
      have hlen : glen (rest bs i) = 0 := by rw [Hlen.out, if_neg (by rw [hokf]; decide)]
      have Hok1 : Hid _ := hokf
      have Hlen1 : Hid _ := hlen
      have Hv1 : Hid _ := hv
      clear hv hokf hlen hy hq1 hf1
      go_wp2
      go_ret2
      exact ⟨by rw [Hok1.out, Hv1.out]; rfl, by rw [Hlen1.out]; exact h.frame hf2 (fun _ _ h => h), hf2.mono (fun _ _ h => h.elim)⟩
  · refine (zeros_no q _ bs i wa hq hz).mono ?_
    rintro e w1 ⟨rfl, hf1⟩
    replace hf1 := hf0.newer1 hf1 (by rw [Hq.out]; omega)
    have hll := lead_le (rest bs i)
    have hokf : gok (rest bs i) = false := by rw [Hok.out]; exact decide_eq_false (fun h => hz ⟨h.1, by omega⟩)
    have hv : gval (rest bs i) = 0 := by rw [Hval.out, if_neg (by rw [hokf]; decide)]
    have hlen : glen (rest bs i) = 0 := by rw [Hlen.out, if_neg (by rw [hokf]; decide)]
    have Hok1 : Hid _ := hokf
    have Hlen1 : Hid _ := hlen
    have Hv1 : Hid _ := hv
    clear hv hokf hlen hz hll
    go_wp2
    go_ret2
    exact ⟨by rw [Hok1.out, Hv1.out]; rfl, by rw [Hlen1.out]; exact h.frame hf1 (fun _ _ h => h), hf1.mono (fun _ _ h => h.elim)⟩

end Go.Proofs.Ytknmlmkenmaocaa

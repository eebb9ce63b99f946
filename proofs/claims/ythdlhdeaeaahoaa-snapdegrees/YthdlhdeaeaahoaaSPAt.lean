/-
  sort.Search over history.Upto's closure, whatever the events' order; snap's At.
-/
import Derived.Test.YthdlhdeaeaahoaaSPAfter
import Derived.Test.YthdlhdeaeaahoaaHSearch
import Derived.BigQuiet
namespace Go.Proofs.Ythdlhdeaeaahoaa
open Go.RowKit

set_option maxRecDepth 4000 in
set_option maxHeartbeats 400000 in
theorem searchSome_any (c0 c1 : Value) (n : Nat) (p : Nat → Bool) (w : World) (hn : n ≤ 1000000)
    (hf : ∀ z (i : Nat), Fr w z (fun _ => False) → i < n → Calls Try.prog 43 #[.int .i64 (i : Int), c0, c1] z fun e w' => e = .returned (.bool (p i)) ∧ Fr z w' (fun _ => False)) :
    Calls Try.prog 36 #[.int .i64 (n : Int), .func (.func 43) #[] #[c0, c1]] w fun e w' => (∃ k : Nat, e = .returned (.int .i64 (k : Int)) ∧ k ≤ n) ∧ Fr w w' (fun _ => False) := by
  have HF : Hid _ := hf
  have Hn : Hid _ := hn
  clear hf
  go_enter Try.func36, Try.ntmps36
  go_wp2
  go_loopg [5, 6] n (fun g s5 s6 wr => ∃ lo hi : Nat, g = hi - lo ∧ s5 = .int .i64 (lo : Int) ∧ s6 = .int .i64 (hi : Int) ∧ lo ≤ hi ∧ hi ≤ n ∧ Fr w wr (fun _ => False))
  case atStart => exact ⟨0, n, by omega, rfl, rfl, by omega, Nat.le_refl _, Fr.refl w _⟩
  case round =>
    obtain ⟨lo, hi, hg, rfl, rfl, hlk, hin, hf⟩ := hrel
    have Hf : Hid (Fr w wr (fun _ => False)) := hf
    clear hf
    by_cases hlt : lo < hi
    · have hc := HF.out wr ((lo + hi) / 2) Hf.out (by omega)
      rw [show (((lo + hi) / 2 : Nat) : Int) = ((lo : Int) + (hi : Int)) / 2 by omega] at hc
      cases hp : p ((lo + hi) / 2) <;> rw [hp] at hc <;> clear hp
      · go_wp2_with fail
        refine hc.mono ?_
        rintro e w1 ⟨rfl, g1⟩
        have G1 : Hid (Fr w w1 (fun _ => False)) := Hf.out.none g1
        clear g1
        go_wp2_with fail
        go_roundg (hi - ((lo + hi) / 2 + 1))
        case measure => omega
        case rel => exact ⟨(lo + hi) / 2 + 1, hi, rfl, by rw [show ((lo : Int) + (hi : Int)) / 2 + 1 = (((lo + hi) / 2 + 1 : Nat) : Int) by omega], rfl, by omega, hin, G1.out⟩
      · go_wp2_with fail
        refine hc.mono ?_
        rintro e w1 ⟨rfl, g1⟩
        have G1 : Hid (Fr w w1 (fun _ => False)) := Hf.out.none g1
        clear g1
        go_wp2_with fail
        go_roundg ((lo + hi) / 2 - lo)
        case measure => omega
        case rel => exact ⟨lo, (lo + hi) / 2, rfl, rfl, by rw [show ((lo : Int) + (hi : Int)) / 2 = (((lo + hi) / 2 : Nat) : Int) by omega], by omega, by omega, G1.out⟩
    · obtain rfl : lo = hi := by omega
      go_wp2
      go_ret
      first | exact ⟨⟨_, rfl, hin⟩, Hf.out⟩ | exact ⟨hin, Hf.out⟩

set_option maxRecDepth 4000 in
set_option maxHeartbeats 400000 in
theorem uptoSome_any (n : Nat) (v : Value) (evs : List Ev) (t : Int) (w : World) (h : RdV w v evs) (hl : evs.length ≤ 1000000) : Calls Try.prog 28 #[histV n v, .int .i64 t] w fun r w' =>
    (∃ k : Nat, r = .returned (.int .i64 (k : Int)) ∧ k ≤ evs.length) ∧ Fr w w' (fun _ => False) := by
  obtain ⟨a0, c0, rfl, hc0⟩ := h.form
  obtain ⟨m, hm⟩ : ∃ m, m = evs.length := ⟨_, rfl⟩
  rw [← hm] at h hl hc0 ⊢
  have Hr0 : Hid (RdV w (.slice a0 m c0) evs) := h
  have Hm : Hid _ := hm
  have Hl : Hid _ := hl
  clear h hm hl
  unfold histV
  go_enter Try.func28, Try.ntmps28
  go_upto_region 1 with fail
  obtain ⟨p, hp⟩ : ∃ p, p = w.heap.size := ⟨_, rfl⟩
  obtain ⟨q, hq⟩ : ∃ q, q = p + 1 := ⟨_, rfl⟩
  obtain ⟨wa, hwa⟩ : ∃ wa, wa = (w.alloc (.cells #[.int .u64 (n : Int), .slice a0 m c0] 25)).alloc (.cells #[.int .i64 t] 2) := ⟨_, rfl⟩
  rw [← hwa, ← hp, ← hq]
  have Hpb : Hid (∀ z, Fr wa z (fun _ => False) → z.heap[p]? = some (.cells #[.int .u64 (n : Int), .slice a0 m c0] 25 (0, 0))) := fun z hz => hz.kept (by rw [hwa, hp]; exact blk_alloc _ (heap_alloc_new _ _)) (fun h => h)
  have Hqb : Hid (∀ z, Fr wa z (fun _ => False) → z.cell? ⟨q, 0, none⟩ = some (.int .i64 t)) := fun z hz => by
    have h1 : wa.heap[q]? = some (.cells #[.int .i64 t] 2 (0, 0)) := by
      have h0 := heap_alloc_new (w.alloc (.cells #[.int .u64 (n : Int), .slice a0 m c0] 25)) (.cells #[.int .i64 t] 2)
      rw [hwa, hq, hp]
      simpa using h0
    have h2 := hz.kept h1 (fun h => h)
    simp [World.cell?, h2]
  have Hwa : Hid (Fr w wa (fun _ => False)) := by show Fr _ _ _; rw [hwa]; exact ((Fr.refl _ _).alloc _).alloc _
  have Hr : Hid (∀ z, Fr wa z (fun _ => False) → RdV z (.slice a0 m c0) evs) := fun z hz => Hr0.out.keep (Hwa.out.none hz)
  clear hp hq hwa Hr0
  have ca := two_cell1 (Hpb.out wa (Fr.refl _ _))
  go_wp2_with fail
  refine (searchSome_any _ _ m (fun i => match evs[i]? with | some x => decide (t < x.1) | none => false) wa Hl.out ?_).mono ?_
  · intro z i hz hin
    obtain ⟨x, hx⟩ : ∃ x, evs[i]? = some x := ⟨_, List.getElem?_eq_getElem (by rw [← Hm.out]; exact hin)⟩
    have := uptoClosure_any p q n m i _ 25 t evs x z (Hpb.out z hz) (Hqb.out z hz) (Hr.out z hz) Hm.out.symm hx
    show Calls _ _ _ _ fun e w' => e = .returned (.bool (match evs[i]? with | some x => decide (t < x.1) | none => false)) ∧ _
    rw [hx]
    exact this
  rintro r x1 ⟨⟨k, rfl, hk⟩, g⟩
  have G : Hid (Fr w x1 (fun _ => False)) := Hwa.out.none g
  clear g ca
  have Hk : Hid _ := hk
  clear hk
  go_wp2
  go_ret
  first | exact ⟨⟨_, rfl, Hk.out⟩, G.out⟩ | exact ⟨Hk.out, G.out⟩


set_option maxRecDepth 4000 in
set_option maxHeartbeats 1600000 in
theorem at_any (n : Nat) (v : Value) (evs : List Ev) (t : Int) (w : World) (h : RdV w v evs) (hn : n < 18446744073709551616) (hl : evs.length ≤ 100000) (hfit : ∀ x ∈ evs, EvFit x) :
    Calls Try.prog 11 #[histV n v, .int .i64 t] w fun r w' =>
    (∃ v', r = .returned (.tuple #[v', .int .i64 ((atF n evs t).2 : Int)]) ∧ RdE w' v' (atF n evs t).1) ∧ Fr w w' (fun _ => False) := by
  -- where Upto leads
  have hup : ∀ z, RdV z v evs → Calls Try.prog 28 #[histV n v, .int .i64 t] z fun r w' => (∃ k : Nat, r = .returned (.int .i64 (k : Int)) ∧ k ≤ evs.length ∧ afterF n evs (k : Int) = atF n evs t) ∧ Fr z w' (fun _ => False) := by
    intro z hz
    by_cases h0 : (checkF n evs).2 = 0
    · obtain ⟨-, -, -, hs⟩ := good_check h0
      refine (upto_any n v evs t z hz (sorted_times hs) (by omega)).mono ?_
      rintro r w' ⟨rfl, g⟩
      exact ⟨⟨_, rfl, upto_le _ _, rfl⟩, g⟩
    · refine (uptoSome_any n v evs t z hz (by omega)).mono ?_
      rintro r w' ⟨⟨k, rfl, hk⟩, g⟩
      exact ⟨⟨_, rfl, hk, by unfold atF afterF; rw [if_neg h0, if_neg h0]⟩, g⟩
  have haf := fun (k : Nat) z hz (hk : k ≤ evs.length) => after_any n v evs (k : Int) z hz hn hl hfit (by omega) (by omega)
  obtain ⟨a0, c0, rfl, hc0⟩ := h.form
  obtain ⟨m, hm⟩ : ∃ m, m = evs.length := ⟨_, rfl⟩
  rw [← hm] at h hl hc0 hup haf
  rw [← hm]
  obtain ⟨⟨R1, R2⟩, hR⟩ : ∃ R, R = atF n evs t := ⟨_, rfl⟩
  rw [← hR] at hup ⊢
  have Hr : Hid (RdV w (.slice a0 m c0) evs) := h
  unfold histV at hup haf ⊢
  clear h hm hR
  go_enter Try.func11, Try.ntmps11
  go_upto_region 1 with fail
  obtain ⟨p, hp⟩ : ∃ p, p = w.heap.size := ⟨_, rfl⟩
  obtain ⟨w1, hw1⟩ : ∃ x, x = w.alloc (.cells #[.int .u64 (n : Int), .slice a0 m c0] 25) := ⟨_, rfl⟩
  rw [← hw1, ← hp]
  have Hp : Hid (w1.heap[p]? = some (.cells #[.int .u64 (n : Int), .slice a0 m c0] 25 (0, 0))) := by show _ = _; rw [hw1, hp]; exact heap_alloc_new _ _
  have Hf1 : Hid (Fr w w1 (fun _ => False)) := by show Fr _ _ _; rw [hw1]; exact (Fr.refl _ _).alloc _
  clear hw1 hp
  have c0' : ∀ z, Fr w1.drew z (fun _ => False) → z.cell? ⟨p, 0, none⟩ = some (.int .u64 (n : Int)) := fun z hz => two_cell0 (((Fr.refl w1 (fun _ => False)).drew.none hz).kept Hp.out (fun h => h))
  have c1' : ∀ z, Fr w1.drew z (fun _ => False) → z.cell? ⟨p, 1, none⟩ = some (.slice a0 m c0) := fun z hz => two_cell1 (((Fr.refl w1 (fun _ => False)).drew.none hz).kept Hp.out (fun h => h))
  have hup1 := hup w1.drew (Hr.out.keep Hf1.out.drew)
  clear hup
  refine wp_region_tree (fun _ => False) (.take 0 (.take 1 (.take 2 (.one 3 (.one 4 (.take 5 (.take 6 (.take 7 (.take 8 .nil))))))))) (by kernel_rfl) (by kernel_rfl) (by decide) (by kernel_rfl) ?_
  iterate 3 (refine wpT_take (v := ?_) rfl rfl (fun x hx => ?_) ?_; rotate_left; (focus (go_simp; with_reducible rfl)); simp only [Act.put, List.setIfInBounds_toArray, List.set_cons_zero, List.set_cons_succ])
  refine wpT_one rfl rfl (fun K hK => ?_)
  go_simp
  refine hup1.mono ?_
  rintro r x3 ⟨⟨k, rfl, hk, hkR⟩, g⟩
  refine hK _ _ g ?_
  have G3 : Hid (Fr w x3 (fun _ => False)) := Hf1.out.drew.none g
  have haf1 := haf k x3 (Hr.out.keep G3.out) hk
  rw [hkR] at haf1
  clear hK K hup1 haf g c0' c1' hkR
  refine wpT_one rfl rfl (fun K hK => ?_)
  go_simp
  refine haf1.mono ?_
  rintro r x4 ⟨⟨v4, rfl, hr4⟩, g⟩
  refine hK _ _ g ?_
  have G4 : Hid (Fr w x4 (fun _ => False)) := G3.out.none g
  have Hr4 : Hid (RdE x4 v4 R1) := hr4
  clear hK K haf1 g hr4
  repeat (refine wpT_take (v := ?_) rfl rfl (fun x hx => ?_) ?_; rotate_left; (focus (go_simp; with_reducible rfl)); simp only [Act.put, List.setIfInBounds_toArray, List.set_cons_zero, List.set_cons_succ])
  unfold wpT
  go_wp2_with fail
  go_ret2
  exact ⟨⟨_, rfl, Hr4.out⟩, G4.out⟩

end Go.Proofs.Ythdlhdeaeaahoaa

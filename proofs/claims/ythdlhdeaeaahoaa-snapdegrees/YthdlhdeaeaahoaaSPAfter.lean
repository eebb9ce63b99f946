/-
  The contract of snap's After.
-/
import Derived.Test.YthdlhdeaeaahoaaSPLeft
import Derived.Test.YthdlhdeaeaahoaaSPRising
import Derived.Test.YthdlhdeaeaahoaaHCheck
namespace Go.Proofs.Ythdlhdeaeaahoaa
open Go.RowKit

/-- What After's parts come to. -/
theorem left_is {n : Nat} {evs : List Ev} {q : Nat} (hg : Good n [] evs) {L : List Eg} (hm : ∀ e, e ∈ L ↔ e ∈ (evs.take q).foldl setF []) (hr : eRising L = true) : L = aftF [] (evs.take q) :=
  rising_ext hr (aft_rising _ _ rfl) (fun e => (hm e).trans (good_set (good_take q hg) (fun _ => Iff.rfl) e))
theorem left_fit {n : Nat} {evs : List Ev} {q : Nat} (hg : Good n [] evs) (hf : ∀ x ∈ evs, EvFit x) : ∀ e ∈ (evs.take q).foldl setF [], EgFit e := by
  intro e he
  have h1 := (good_set (good_take q hg) (fun _ => Iff.rfl) e).1 he
  rcases aft_mem _ _ e h1 with h2 | ⟨x, hx, rfl⟩
  · cases h2
  · exact (hf x (List.mem_of_mem_take hx)).2

set_option maxRecDepth 4000 in
set_option maxHeartbeats 1600000 in
theorem after_any (n : Nat) (v : Value) (evs : List Ev) (k : Int) (w : World) (h : RdV w v evs) (hn : n < 18446744073709551616) (hl : evs.length ≤ 100000) (hfit : ∀ x ∈ evs, EvFit x) (_hk1 : -9223372036854775808 ≤ k) (_hk2 : k ≤ 9223372036854775807) :
    Calls Try.prog 15 #[histV n v, .int .i64 k] w fun r w' =>
    (∃ v', r = .returned (.tuple #[v', .int .i64 ((afterF n evs k).2 : Int)]) ∧ RdE w' v' (afterF n evs k).1) ∧ Fr w w' (fun _ => False) := by
  have hck := fun z hz => check_any n v evs z hz hn (by omega) hfit
  obtain ⟨a0, c0, rfl, hc0⟩ := h.form
  obtain ⟨m, hm⟩ : ∃ m, m = evs.length := ⟨_, rfl⟩
  rw [← hm] at h hl hc0 hck ⊢
  obtain ⟨⟨R1, R2⟩, hR⟩ : ∃ R, R = afterF n evs k := ⟨_, rfl⟩
  rw [← hR]
  have HR : Hid _ := hR
  have Hr : Hid (RdV w (.slice a0 m c0) evs) := h
  have Hm : Hid _ := hm
  have Hfit : Hid _ := hfit
  have Hl : Hid (evs.length ≤ 100000) := by show _ ≤ _; rw [← hm]; exact hl
  have Hh : Hid (histV n (.slice a0 m c0) = .agg #[.int .u64 (n : Int), .slice a0 m c0]) := rfl
  clear h hm hR hfit
  dsimp only
  rw [Hh.out] at hck ⊢
  obtain ⟨⟨C1, C2⟩, hC⟩ : ∃ C, C = checkF n evs := ⟨_, rfl⟩
  rw [← hC] at hck
  have HC : Hid _ := hC
  clear hC
  dsimp only at hck
  go_enter Try.func15, Try.ntmps15
  go_upto_region 1 with fail
  obtain ⟨p, hp⟩ : ∃ p, p = w.heap.size := ⟨_, rfl⟩
  obtain ⟨w1, hw1⟩ : ∃ x, x = w.alloc (.cells #[.int .u64 (n : Int), .slice a0 m c0] 25) := ⟨_, rfl⟩
  rw [← hw1, ← hp]
  have Hp : Hid (w1.heap[p]? = some (.cells #[.int .u64 (n : Int), .slice a0 m c0] 25 (0, 0))) := by show _ = _; rw [hw1, hp]; exact heap_alloc_new _ _
  have Hf1 : Hid (Fr w w1 (fun _ => False)) := by show Fr _ _ _; rw [hw1]; exact (Fr.refl _ _).alloc _
  clear hw1 hp
  obtain ⟨ca, cb⟩ : w1.cell? ⟨p, 0, none⟩ = some (.int .u64 (n : Int)) ∧ w1.cell? ⟨p, 1, none⟩ = some (.slice a0 m c0) := ⟨two_cell0 Hp.out, two_cell1 Hp.out⟩
  have hck1 := hck w1 (Hr.out.keep Hf1.out)
  clear hck
  go_wp2_with fail
  refine hck1.mono ?_
  rintro r x1 ⟨rfl, g⟩
  have Hp1 : Hid (x1.heap[p]? = some (.cells #[.int .u64 (n : Int), .slice a0 m c0] 25 (0, 0))) := g.kept Hp.out (fun h => h)
  have Hx1 : Hid (Fr w x1 (fun _ => False)) := Hf1.out.none g
  clear g hck1 ca cb
  by_cases h0 : C2 = 0
  · subst h0
    have HCz : Hid ((checkF n evs).2 = 0) := by show _ = _; rw [← HC.out]
    have HRR : Hid ((R1, R2) = (aftF [] (evs.take k.toNat), 0)) := by show _ = _; rw [HR.out]; exact if_pos HCz.out
    simp only [Prod.mk.injEq] at HRR
    obtain ⟨e1, e2⟩ := HRR.out
    subst e2
    obtain ⟨q, hq⟩ : ∃ q, q = min k.toNat m := ⟨_, rfl⟩
    have HR1 : Hid (R1 = aftF [] (evs.take q)) := by
      show _ = _
      rw [e1, hq]
      congr 1
      rw [Hm.out]
      by_cases hkm : k.toNat ≤ evs.length
      · rw [Nat.min_eq_left hkm]
      · rw [Nat.min_eq_right (by omega), List.take_of_length_le (by omega), List.take_of_length_le (Nat.le_refl _)]
    clear e1 HRR
    obtain ⟨-, -, hgd, -⟩ := good_check HCz.out
    have Hgd : Hid _ := hgd
    clear hgd
    obtain ⟨ca, cb⟩ : x1.cell? ⟨p, 0, none⟩ = some (.int .u64 (n : Int)) ∧ x1.cell? ⟨p, 1, none⟩ = some (.slice a0 m c0) := ⟨two_cell0 Hp1.out, two_cell1 Hp1.out⟩
    have hqm : q ≤ m := by omega
    have hqc : q ≤ c0 := by omega
    have hqi : (q : Int) ≤ (m : Int) := by omega
    have hqci : (q : Int) ≤ (c0 : Int) := by omega
    have Hqk : Hid (min (max k 0) (m : Int) = (q : Int)) := by show _ = _; omega
    clear hq
    go_upto_region 5 with fail
    rw [Hqk.out]
    obtain ⟨mk, hmk⟩ : ∃ x, x = max k 0 := ⟨_, rfl⟩
    rw [← hmk]
    clear hmk
    have hq0 : (0 : Int) ≤ (q : Int) := by omega
    have HrT : Hid (RdV x1 (.slice a0 q c0) (evs.take q)) := (Hr.out.keep Hx1.out).take Hm.out.symm q hqm
    have HlT : Hid ((evs.take q).length = q) := by show _ = _; rw [List.length_take, ← Hm.out]; omega
    have hlf := left_any (.slice a0 q c0) (evs.take q) x1 HrT.out (by rw [HlT.out]; omega) (fun x hx => Hfit.out x (List.mem_of_mem_take hx))
    rw [HlT.out] at hlf
    go_wp2_with fail
    refine hlf.mono ?_
    rintro r x2 ⟨⟨b, rfl, hb, ho⟩, g⟩
    have hri := risingSet_any b q _ x2 ho (left_fit Hgd.out Hfit.out) (by omega)
    have Hx2 : Hid (Fr w x2 (fun _ => False)) := Hx1.out.none g
    clear hlf g ho hb ca cb
    go_wp2_with fail
    refine hri.mono ?_
    rintro r x3 ⟨⟨v3, L, rfl, hrL, hm3, hr3⟩, g⟩
    have HL : Hid (L = R1) := by show _ = _; rw [HR1.out]; exact left_is Hgd.out hm3 hr3
    have HrL : Hid (RdE x3 v3 R1) := by show RdE _ _ _; rw [← HL.out]; exact hrL
    have Hx3 : Hid (Fr w x3 (fun _ => False)) := Hx2.out.none g
    clear hri g hrL hm3 hr3
    go_wp2_with fail
    go_ret2
    exact ⟨⟨_, rfl, HrL.out⟩, Hx3.out⟩
  · have hC0 : ((C2 : Int) == 0) = false := by rw [beq_eq_false_iff_ne]; omega
    have hC1 : ((C2 : Int) != 0) = true := by rw [bne_iff_ne]; omega
    have HRR : Hid ((R1, R2) = ([], C2)) := by show _ = _; rw [HR.out]; unfold afterF; rw [if_neg (by rw [← HC.out]; exact h0), ← HC.out]
    simp only [Prod.mk.injEq] at HRR
    obtain ⟨rfl, rfl⟩ := HRR.out
    clear HRR h0
    go_wp2
    go_ret2
    exact ⟨⟨_, rfl, RdE.nil _⟩, Hx1.out⟩

end Go.Proofs.Ythdlhdeaeaahoaa

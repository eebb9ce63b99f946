/-
  The contracts of the seat's Vertices and Edge.
-/
import Derived.Test.YtpeibameegjefaaDoorJ2
import Derived.Test.YtpeibameegjefaaDoorJ1
import Derived.Laws.ResultCell
import Derived.Laws.Rows
import Derived.Deep.CutRange
namespace Go.Proofs.YtpeibameegjefaaDoor
open Go.RowKit

set_option maxRecDepth 4000 in
set_option maxHeartbeats 800000 in
theorem vertices_any (k : Nat) (w : World) : Calls Tryd.prog 23 #[.int .u8 (k : Int)] w fun r w' => r = .returned (.int .u64 ((vertF k : Nat) : Int)) ∧ Fr w w' (fun _ => False) := by
  have h8 : k % 8 = 0 ∨ k % 8 = 1 ∨ k % 8 = 2 ∨ k % 8 = 3 ∨ k % 8 = 4 ∨ k % 8 = 5 ∨ k % 8 = 6 ∨ k % 8 = 7 := by omega
  rcases h8 with h | h | h | h | h | h | h | h
  · have m1 : (k : Int).tmod 8 = 0 := by rw [Int.tmod_eq_emod_of_nonneg (by omega)]; omega
    have m2 : (k : Int) % 8 = 0 := by omega
    have Hv : Hid (vertF k = 8) := by show _ = _; unfold vertF; rw [h]; rfl
    rw [Hv.out]
    clear h
    go_enter Tryd.func23, Tryd.ntmps23
    go_wp2
    go_ret
    exact ⟨rfl, (Fr.refl w _).alloc _⟩
  · have m1 : (k : Int).tmod 8 = 1 := by rw [Int.tmod_eq_emod_of_nonneg (by omega)]; omega
    have m2 : (k : Int) % 8 = 1 := by omega
    have Hv : Hid (vertF k = 5) := by show _ = _; unfold vertF; rw [h]; rfl
    rw [Hv.out]
    clear h
    go_enter Tryd.func23, Tryd.ntmps23
    go_wp2
    go_ret
    exact ⟨rfl, (Fr.refl w _).alloc _⟩
  · have m1 : (k : Int).tmod 8 = 2 := by rw [Int.tmod_eq_emod_of_nonneg (by omega)]; omega
    have m2 : (k : Int) % 8 = 2 := by omega
    have Hv : Hid (vertF k = 2) := by show _ = _; unfold vertF; rw [h]; rfl
    rw [Hv.out]
    clear h
    go_enter Tryd.func23, Tryd.ntmps23
    go_wp2
    go_ret
    exact ⟨rfl, (Fr.refl w _).alloc _⟩
  · have m1 : (k : Int).tmod 8 = 3 := by rw [Int.tmod_eq_emod_of_nonneg (by omega)]; omega
    have m2 : (k : Int) % 8 = 3 := by omega
    have Hv : Hid (vertF k = 4294967296) := by show _ = _; unfold vertF; rw [h]; rfl
    rw [Hv.out]
    clear h
    go_enter Tryd.func23, Tryd.ntmps23
    go_wp2
    go_ret
    exact ⟨rfl, (Fr.refl w _).alloc _⟩
  · have m1 : (k : Int).tmod 8 = 4 := by rw [Int.tmod_eq_emod_of_nonneg (by omega)]; omega
    have m2 : (k : Int) % 8 = 4 := by omega
    have Hv : Hid (vertF k = 300) := by show _ = _; unfold vertF; rw [h]; rfl
    rw [Hv.out]
    clear h
    go_enter Tryd.func23, Tryd.ntmps23
    go_wp2
    go_ret
    exact ⟨rfl, (Fr.refl w _).alloc _⟩
  · have m1 : (k : Int).tmod 8 = 5 := by rw [Int.tmod_eq_emod_of_nonneg (by omega)]; omega
    have m2 : (k : Int) % 8 = 5 := by omega
    have Hv : Hid (vertF k = 12) := by show _ = _; unfold vertF; rw [h]; rfl
    rw [Hv.out]
    clear h
    go_enter Tryd.func23, Tryd.ntmps23
    go_wp2
    go_ret
    exact ⟨rfl, (Fr.refl w _).alloc _⟩
  · have m1 : (k : Int).tmod 8 = 6 := by rw [Int.tmod_eq_emod_of_nonneg (by omega)]; omega
    have m2 : (k : Int) % 8 = 6 := by omega
    have Hv : Hid (vertF k = 1048576) := by show _ = _; unfold vertF; rw [h]; rfl
    rw [Hv.out]
    clear h
    go_enter Tryd.func23, Tryd.ntmps23
    go_wp2
    go_ret
    exact ⟨rfl, (Fr.refl w _).alloc _⟩
  · have m1 : (k : Int).tmod 8 = 7 := by rw [Int.tmod_eq_emod_of_nonneg (by omega)]; omega
    have m2 : (k : Int) % 8 = 7 := by omega
    have Hv : Hid (vertF k = 3) := by show _ = _; unfold vertF; rw [h]; rfl
    rw [Hv.out]
    clear h
    go_enter Tryd.func23, Tryd.ntmps23
    go_wp2
    go_ret
    exact ⟨rfl, (Fr.refl w _).alloc _⟩

theorem pair_edge {fn : Func} {p u : Tmp} {ty : TypeId} (h : fn.results = #[.cell p ty, .tmp u]) {tmps : Array Value} {P : Program} {w : World} {b : Nat} {v : Value} (hp : tmps.getD p undef = .pointer (some ⟨b, 0, none⟩)) (hl : (loadVar ty ⟨b, 0, none⟩).run P w = .ok v w) :
    (results fn tmps).run P w = .ok (.tuple #[v, tmps.getD u undef]) w := by
  rw [results_cell_tmp h, hp]
  show ((loadVar ty ⟨b, 0, none⟩).run P w).andThen _ = _
  rw [hl]
  rfl
theorem edgeSize2 : (Tryd.prog.info? 57).map (·.size) = some 2 := by kernel_rfl

set_option maxRecDepth 4000 in
set_option maxHeartbeats 1600000 in
theorem seatEdge_any (a b n : Nat) (w : World) (ha : a < 256) (hb : b < 256) (hn1 : 2 ≤ n) (hn2 : n ≤ 4294967296) : Calls Tryd.prog 24 #[.int .u8 (a : Int), .int .u8 (b : Int), .int .u64 (n : Int)] w fun r w' => r = .returned (.tuple #[edgeV ((seatEdge a b n).getD (0, 0)), .bool (seatEdge a b n).isSome]) ∧ Fr w w' (fun _ => False) := by
  obtain ⟨R, hR⟩ : ∃ R, R = seatEdge a b n := ⟨_, rfl⟩
  rw [← hR]
  have HR : Hid _ := hR
  clear hR
  unfold edgeV
  obtain ⟨few, hfew⟩ : ∃ f, f = min n 9 := ⟨_, rfl⟩
  have hf1 : 2 ≤ few ∧ few ≤ n ∧ few ≤ 9 := by omega
  have Hfew : Hid _ := hfew
  clear hfew
  go_enter Tryd.func24, Tryd.ntmps24
  go_upto_region 1 with fail
  obtain ⟨p, hp⟩ : ∃ p, p = w.heap.size := ⟨_, rfl⟩
  obtain ⟨wa, hwa⟩ : ∃ wa, wa = w.alloc (.cells #[.int .u32 0, .int .u32 0] 57) := ⟨_, rfl⟩
  rw [← hwa, ← hp]
  have Hpb : Hid (wa.heap[p]? = some (.cells #[.int .u32 0, .int .u32 0] 57 (0, 0))) := by show _ = _; rw [hwa, hp]; exact heap_alloc_new _ _
  have Hwa : Hid (Fr w wa (fun _ => False)) := by show Fr _ _ _; rw [hwa]; exact (Fr.refl _ _).alloc _
  have Hpw : Hid (w.heap.size ≤ p) := by show _ ≤ _; omega
  clear hp hwa
  have HW : Hid (wa = wa) := rfl
  go_cut [8] from 11 to 12 (fun V wx => V = .int .u64 (few : Int) ∧ wx = wa)
  case first =>
    by_cases h9 : n ≤ 9
    · have e1 : decide ((n : Int) ≤ (9 : Int)) = true := decide_eq_true (by omega)
      have e3 : (n : Int) ≤ (9 : Int) := by omega
      obtain rfl : few = n := by have := Hfew.out; omega
      go_wp2_with fail
      go_meet
      case rel => exact ⟨rfl, rfl⟩
    · have e1 : decide ((n : Int) ≤ (9 : Int)) = false := decide_eq_false (by omega)
      have e3 : ¬ (n : Int) ≤ (9 : Int) := by omega
      obtain rfl : few = 9 := by have := Hfew.out; omega
      go_wp2_with fail
      go_meet
      case rel => exact ⟨rfl, rfl⟩
  case rest =>
  obtain ⟨rfl, rfl⟩ := hcut
  rename_i hKc
  refine hKc _ _ ?_
  clear hKc HW
  obtain ⟨ra, hra⟩ : ∃ x, x = a % few := ⟨_, rfl⟩
  obtain ⟨rb, hrb⟩ : ∃ x, x = b % few := ⟨_, rfl⟩
  have hra2 : ra < few := by rw [hra]; exact Nat.mod_lt _ (by omega)
  have hrb2 : rb < few := by rw [hrb]; exact Nat.mod_lt _ (by omega)
  have wa1 : IntKind.u64.wrap (a : Int) = (a : Int) := by rw [IntKind.wrap_u64]; omega
  have wb1 : IntKind.u64.wrap (b : Int) = (b : Int) := by rw [IntKind.wrap_u64]; omega
  have ma : (a : Int).tmod (few : Int) = (ra : Int) := by rw [Int.tmod_eq_emod_of_nonneg (by omega), hra]; simp
  have mb : (b : Int).tmod (few : Int) = (rb : Int) := by rw [Int.tmod_eq_emod_of_nonneg (by omega), hrb]; simp
  have ma' : (a : Int) % (few : Int) = (ra : Int) := by rw [hra]; simp
  have mb' : (b : Int) % (few : Int) = (rb : Int) := by rw [hrb]; simp
  have hz : ¬ few = 0 := by omega
  have hz' : ((few : Int) == 0) = false := by rw [beq_eq_false_iff_ne]; omega
  have hz2 : ¬ (few : Int) = 0 := by omega
  have Hru : Hid (edgeU a n = if 230 < a then n - 1 - ra else ra) := by show _ = _; unfold edgeU; rw [hra, Hfew.out]
  have Hrv : Hid (edgeW b n = if 240 < b then n - 1 - rb else rb) := by show _ = _; unfold edgeW; rw [hrb, Hfew.out]
  have Hsm : Hid (ra < n ∧ rb < n) := by constructor <;> omega
  clear hra hrb
  go_wp2_with fail
  refine wp_region_tree (fun _ => False) (.take 0 (.take 1 (.take 2 (.take 3 (.take 4 (.take 5 (.take 6 (.take 7 (.take 8 (.take 9 .nil)))))))))) (by kernel_rfl) (by kernel_rfl) (by decide) (by kernel_rfl) ?_
  repeat (refine wpT_take (v := ?_) rfl rfl (fun x hx => ?_) ?_; rotate_left; (focus (go_simp; with_reducible rfl)); simp only [Act.put, List.setIfInBounds_toArray, List.set_cons_zero, List.set_cons_succ])
  unfold wpT
  clear wa1 wb1 ma mb ma' mb' hz hz' hz2 hra2 hrb2 hf1
  have Hpb : Hid (wc.drew.heap[p]? = some (.cells #[.int .u32 0, .int .u32 0] 57 (0, 0))) := Hpb.out
  have Hwa : Hid (Fr w wc.drew (fun _ => False)) := Hwa.out.drew
  generalize wc.drew = W at Hpb Hwa ⊢
  obtain ⟨U, hU⟩ : ∃ U, U = edgeU a n := ⟨_, rfl⟩
  obtain ⟨V, hV⟩ : ∃ V, V = edgeW b n := ⟨_, rfl⟩
  have HU : Hid _ := hU
  have HV : Hid _ := hV
  clear hU hV
  rename_i hK3
  refine hK3 _ _ ?_
  refine wp_seq_k (fun K2 hK2 => ?_)
  go_cut [9] from 21 to 26 (fun X wx => X = .int .u64 (U : Int) ∧ wx = W)
  case first =>
    by_cases h : 230 < a
    · have d1 : decide ((230 : Int) < (a : Int)) = true := decide_eq_true (by omega)
      have d1' : decide (230 < a) = true := decide_eq_true h
      have hUe : (U : Int) = (n : Int) - 1 - (ra : Int) := by have := Hru.out; have h3 := HU.out; have h4 := Hsm.out; rw [if_pos h] at this; omega
      have w1 : IntKind.u64.wrap ((n : Int) - 1) = (n : Int) - 1 := by rw [IntKind.wrap_u64]; omega
      have w2 : IntKind.u64.wrap ((n : Int) - 1 - (ra : Int)) = (U : Int) := by rw [hUe, IntKind.wrap_u64]; have := Hsm.out; omega
      clear hUe
      go_wp2_with fail
      go_meet
      case rel => exact ⟨by first | rfl | rw [w2], rfl⟩
    · have d1 : decide ((230 : Int) < (a : Int)) = false := decide_eq_false (by omega)
      have d1' : decide (230 < a) = false := decide_eq_false h
      obtain rfl : U = ra := by have := Hru.out; have h3 := HU.out; rw [if_neg h] at this; omega
      go_wp2_with fail
      go_meet
      case rel => exact ⟨rfl, rfl⟩
  case rest =>
  obtain ⟨rfl, rfl⟩ := hcut
  refine hK2 _ _ ?_
  clear hK2
  refine wp_seq_k (fun K3 hK3 => ?_)
  go_cut [10] from 27 to 32 (fun X wx => X = .int .u64 (V : Int) ∧ wx = wc)
  case first =>
    by_cases h : 240 < b
    · have d1 : decide ((240 : Int) < (b : Int)) = true := decide_eq_true (by omega)
      have d1' : decide (240 < b) = true := decide_eq_true h
      have hUe : (V : Int) = (n : Int) - 1 - (rb : Int) := by have := Hrv.out; have h3 := HV.out; have h4 := Hsm.out; rw [if_pos h] at this; omega
      have w1 : IntKind.u64.wrap ((n : Int) - 1) = (n : Int) - 1 := by rw [IntKind.wrap_u64]; omega
      have w2 : IntKind.u64.wrap ((n : Int) - 1 - (rb : Int)) = (V : Int) := by rw [hUe, IntKind.wrap_u64]; have := Hsm.out; omega
      clear hUe
      go_wp2_with fail
      go_meet
      case rel => exact ⟨by first | rfl | rw [w2], rfl⟩
    · have d1 : decide ((240 : Int) < (b : Int)) = false := decide_eq_false (by omega)
      have d1' : decide (240 < b) = false := decide_eq_false h
      obtain rfl : V = rb := by have := Hrv.out; have h3 := HV.out; rw [if_neg h] at this; omega
      go_wp2_with fail
      go_meet
      case rel => exact ⟨rfl, rfl⟩
  case rest =>
  rename_i wb _ _ _ _ _ _
  obtain ⟨rfl, rfl⟩ := hcut
  refine hK3 _ _ ?_
  clear hK3 Hru Hrv Hsm
  have Hul : Hid (U < 4294967296 ∧ V < 4294967296) := by
    have h1 := edgeU_lt a n (by omega)
    have h2 := edgeW_lt b n (by omega)
    have h3 := HU.out
    have h4 := HV.out
    constructor <;> omega
  obtain ⟨c0, c1⟩ : wc.cell? ⟨p, 0, none⟩ = some (.int .u32 0) ∧ wc.cell? ⟨p, 1, none⟩ = some (.int .u32 0) := ⟨two_cell0 Hpb.out, two_cell1 Hpb.out⟩
  have f0 : wc.frozen? ⟨p, 0, none⟩ = false := two_free Hpb.out 0
  have f1 : wc.frozen? ⟨p, 1, none⟩ = false := two_free Hpb.out 1
  by_cases huv : U = V
  · have d1 : ((U : Int) == (V : Int)) = true := by simp [huv]
    have d1' : (U == V) = true := by simp [huv]
    obtain rfl : R = none := by rw [HR.out]; unfold seatEdge; rw [← HU.out, ← HV.out]; exact if_pos huv
    clear huv
    go_wp2
    refine bodyPost_ret (pair_edge rfl rfl (run_loadVar_row _ _ 57 _ _ (0, 0) _ (two_set1 (two_set0 Hpb.out)) Tryd.underlying57 rfl edgeSize2)) rfl ?_
    exact ⟨rfl, (Hwa.out.setCell _ (fun h => by have := Hpw.out; dsimp only at h; omega) _).setCell _ (fun h => by have := Hpw.out; dsimp only at h; omega) _⟩
  · have d1 : ((U : Int) == (V : Int)) = false := by rw [beq_eq_false_iff_ne]; omega
    have d1' : (U == V) = false := by rw [beq_eq_false_iff_ne]; exact huv
    have HR2 : Hid (R = some (min U V, max U V)) := by show _ = _; rw [HR.out]; unfold seatEdge; rw [← HU.out, ← HV.out]; exact if_neg huv
    have wU : IntKind.u32.wrap (U : Int) = (U : Int) := by rw [IntKind.wrap_u32]; have := Hul.out; omega
    have wV : IntKind.u32.wrap (V : Int) = (V : Int) := by rw [IntKind.wrap_u32]; have := Hul.out; omega
    rcases Nat.lt_or_gt_of_ne huv with hlt | hlt
    · have e1 : decide ((U : Int) < (V : Int)) = true := decide_eq_true (by omega)
      have e2 : decide ((V : Int) < (U : Int)) = false := decide_eq_false (by omega)
      have e3 : (U : Int) < (V : Int) := by omega
      obtain rfl : R = some (U, V) := by rw [HR2.out, show min U V = U by omega, show max U V = V by omega]
      clear huv
      go_wp2
      refine bodyPost_ret (pair_edge rfl rfl (run_loadVar_row _ _ 57 _ _ (0, 0) _ (two_set1 (two_set0 Hpb.out)) Tryd.underlying57 rfl edgeSize2)) rfl ?_
      exact ⟨rfl, (Hwa.out.setCell _ (fun h => by have := Hpw.out; dsimp only at h; omega) _).setCell _ (fun h => by have := Hpw.out; dsimp only at h; omega) _⟩
    · have e1 : decide ((U : Int) < (V : Int)) = false := decide_eq_false (by omega)
      have e2 : decide ((V : Int) < (U : Int)) = true := decide_eq_true (by omega)
      have e3 : ¬ (U : Int) < (V : Int) := by omega
      have e4 : (V : Int) < (U : Int) := by omega
      obtain rfl : R = some (V, U) := by rw [HR2.out, show min U V = V by omega, show max U V = U by omega]
      clear huv
      go_wp2
      refine bodyPost_ret (pair_edge rfl rfl (run_loadVar_row _ _ 57 _ _ (0, 0) _ (two_set1 (two_set0 Hpb.out)) Tryd.underlying57 rfl edgeSize2)) rfl ?_
      exact ⟨rfl, (Hwa.out.setCell _ (fun h => by have := Hpw.out; dsimp only at h; omega) _).setCell _ (fun h => by have := Hpw.out; dsimp only at h; omega) _⟩

end Go.Proofs.YtpeibameegjefaaDoor

/-
  Texts of ours, joined: XSeat1 XIns XHist EArg XArg XLate.
-/
import Derived.Test.YtnffjafddbbjaaaGreatDoorJ2
import Derived.Test.YtnffjafddbbjaaaGreatDoorJ1
import Derived.Laws.ResultCell
import Derived.Laws.Rows
import Derived.Deep.CutRange
import Derived.Deep.LoopGhost
import Derived.Deep.SlicePairs
import Derived.Lib.SmallJoins

/-
  The contracts of the seat's Vertices and Edge.
-/
namespace Go.Proofs.YtnffjafddbbjaaaGreatDoor
open Go.RowKit

set_option maxRecDepth 4000 in
set_option maxHeartbeats 800000 in
theorem vertices_any (k : Nat) (w : World) : Calls Tryz.prog 21 #[.int .u8 (k : Int)] w fun r w' => r = .returned (.int .u64 ((vertF k : Nat) : Int)) ∧ Fr w w' (fun _ => False) := by
  have h8 : k % 8 = 0 ∨ k % 8 = 1 ∨ k % 8 = 2 ∨ k % 8 = 3 ∨ k % 8 = 4 ∨ k % 8 = 5 ∨ k % 8 = 6 ∨ k % 8 = 7 := by omega
  rcases h8 with h | h | h | h | h | h | h | h
  · have m1 : (k : Int).tmod 8 = 0 := by rw [Int.tmod_eq_emod_of_nonneg (by omega)]; omega
    have m2 : (k : Int) % 8 = 0 := by omega
    have Hv : Hid (vertF k = 8) := by show _ = _; unfold vertF; rw [h]; rfl
    rw [Hv.out]
    clear h
    go_enter Tryz.func21, Tryz.ntmps21
    go_wp2
    go_ret
    exact ⟨rfl, (Fr.refl w _).alloc _⟩
  · have m1 : (k : Int).tmod 8 = 1 := by rw [Int.tmod_eq_emod_of_nonneg (by omega)]; omega
    have m2 : (k : Int) % 8 = 1 := by omega
    have Hv : Hid (vertF k = 5) := by show _ = _; unfold vertF; rw [h]; rfl
    rw [Hv.out]
    clear h
    go_enter Tryz.func21, Tryz.ntmps21
    go_wp2
    go_ret
    exact ⟨rfl, (Fr.refl w _).alloc _⟩
  · have m1 : (k : Int).tmod 8 = 2 := by rw [Int.tmod_eq_emod_of_nonneg (by omega)]; omega
    have m2 : (k : Int) % 8 = 2 := by omega
    have Hv : Hid (vertF k = 2) := by show _ = _; unfold vertF; rw [h]; rfl
    rw [Hv.out]
    clear h
    go_enter Tryz.func21, Tryz.ntmps21
    go_wp2
    go_ret
    exact ⟨rfl, (Fr.refl w _).alloc _⟩
  · have m1 : (k : Int).tmod 8 = 3 := by rw [Int.tmod_eq_emod_of_nonneg (by omega)]; omega
    have m2 : (k : Int) % 8 = 3 := by omega
    have Hv : Hid (vertF k = 4294967296) := by show _ = _; unfold vertF; rw [h]; rfl
    rw [Hv.out]
    clear h
    go_enter Tryz.func21, Tryz.ntmps21
    go_wp2
    go_ret
    exact ⟨rfl, (Fr.refl w _).alloc _⟩
  · have m1 : (k : Int).tmod 8 = 4 := by rw [Int.tmod_eq_emod_of_nonneg (by omega)]; omega
    have m2 : (k : Int) % 8 = 4 := by omega
    have Hv : Hid (vertF k = 300) := by show _ = _; unfold vertF; rw [h]; rfl
    rw [Hv.out]
    clear h
    go_enter Tryz.func21, Tryz.ntmps21
    go_wp2
    go_ret
    exact ⟨rfl, (Fr.refl w _).alloc _⟩
  · have m1 : (k : Int).tmod 8 = 5 := by rw [Int.tmod_eq_emod_of_nonneg (by omega)]; omega
    have m2 : (k : Int) % 8 = 5 := by omega
    have Hv : Hid (vertF k = 12) := by show _ = _; unfold vertF; rw [h]; rfl
    rw [Hv.out]
    clear h
    go_enter Tryz.func21, Tryz.ntmps21
    go_wp2
    go_ret
    exact ⟨rfl, (Fr.refl w _).alloc _⟩
  · have m1 : (k : Int).tmod 8 = 6 := by rw [Int.tmod_eq_emod_of_nonneg (by omega)]; omega
    have m2 : (k : Int) % 8 = 6 := by omega
    have Hv : Hid (vertF k = 1048576) := by show _ = _; unfold vertF; rw [h]; rfl
    rw [Hv.out]
    clear h
    go_enter Tryz.func21, Tryz.ntmps21
    go_wp2
    go_ret
    exact ⟨rfl, (Fr.refl w _).alloc _⟩
  · have m1 : (k : Int).tmod 8 = 7 := by rw [Int.tmod_eq_emod_of_nonneg (by omega)]; omega
    have m2 : (k : Int) % 8 = 7 := by omega
    have Hv : Hid (vertF k = 3) := by show _ = _; unfold vertF; rw [h]; rfl
    rw [Hv.out]
    clear h
    go_enter Tryz.func21, Tryz.ntmps21
    go_wp2
    go_ret
    exact ⟨rfl, (Fr.refl w _).alloc _⟩

theorem pair_edge {fn : Func} {p u : Tmp} {ty : TypeId} (h : fn.results = #[.cell p ty, .tmp u]) {tmps : Array Value} {P : Program} {w : World} {b : Nat} {v : Value} (hp : tmps.getD p undef = .pointer (some ⟨b, 0, none⟩)) (hl : (loadVar ty ⟨b, 0, none⟩).run P w = .ok v w) :
    (results fn tmps).run P w = .ok (.tuple #[v, tmps.getD u undef]) w := by
  rw [results_cell_tmp h, hp]
  show ((loadVar ty ⟨b, 0, none⟩).run P w).andThen _ = _
  rw [hl]
  rfl
theorem edgeSize2 : (Tryz.prog.info? 58).map (·.size) = some 2 := by kernel_rfl

set_option maxRecDepth 4000 in
set_option maxHeartbeats 1600000 in
theorem seatEdge_any (a b n : Nat) (w : World) (ha : a < 256) (hb : b < 256) (hn1 : 2 ≤ n) (hn2 : n ≤ 4294967296) : Calls Tryz.prog 22 #[.int .u8 (a : Int), .int .u8 (b : Int), .int .u64 (n : Int)] w fun r w' => r = .returned (.tuple #[edgeV ((seatEdge a b n).getD (0, 0)), .bool (seatEdge a b n).isSome]) ∧ Fr w w' (fun _ => False) := by
  obtain ⟨R, hR⟩ : ∃ R, R = seatEdge a b n := ⟨_, rfl⟩
  rw [← hR]
  have HR : Hid _ := hR
  clear hR
  unfold edgeV
  obtain ⟨few, hfew⟩ : ∃ f, f = min n 9 := ⟨_, rfl⟩
  have hf1 : 2 ≤ few ∧ few ≤ n ∧ few ≤ 9 := by omega
  have Hfew : Hid _ := hfew
  clear hfew
  go_enter Tryz.func22, Tryz.ntmps22
  go_upto_region 1 with fail
  obtain ⟨p, hp⟩ : ∃ p, p = w.heap.size := ⟨_, rfl⟩
  obtain ⟨wa, hwa⟩ : ∃ wa, wa = w.alloc (.cells #[.int .u32 0, .int .u32 0] 58) := ⟨_, rfl⟩
  rw [← hwa, ← hp]
  have Hpb : Hid (wa.heap[p]? = some (.cells #[.int .u32 0, .int .u32 0] 58 (0, 0))) := by show _ = _; rw [hwa, hp]; exact heap_alloc_new _ _
  have Hwa : Hid (Fr w wa (fun _ => False)) := by show Fr _ _ _; rw [hwa]; exact (Fr.refl _ _).alloc _
  have Hpw : Hid (w.heap.size ≤ p) := by show _ ≤ _; omega
  clear hp hwa
  have HW : Hid (wa = wa) := rfl
  go_cut [8] from 11 to 12 (fun V wx => V = .int .u64 (few : Int) ∧ wx = wa)
  case first =>
    by_cases h9 : n ≤ 9
    · have e1 : decide ((n : Int) ≤ (9 : Int)) = true := decide_eq_true (by omega)
      have e3 : (n : Int) ≤ (9 : Int) := by omega
      obtain rfl : few = n := by have := Hfew.out; omega
      go_wp2_with fail
      go_meet
      case rel => exact ⟨rfl, rfl⟩
    · have e1 : decide ((n : Int) ≤ (9 : Int)) = false := decide_eq_false (by omega)
      have e3 : ¬ (n : Int) ≤ (9 : Int) := by omega
      obtain rfl : few = 9 := by have := Hfew.out; omega
      go_wp2_with fail
      go_meet
      case rel => exact ⟨rfl, rfl⟩
  case rest =>
  obtain ⟨rfl, rfl⟩ := hcut
  rename_i hKc
  refine hKc _ _ ?_
  clear hKc HW
  obtain ⟨ra, hra⟩ : ∃ x, x = a % few := ⟨_, rfl⟩
  obtain ⟨rb, hrb⟩ : ∃ x, x = b % few := ⟨_, rfl⟩
  have hra2 : ra < few := by rw [hra]; exact Nat.mod_lt _ (by omega)
  have hrb2 : rb < few := by rw [hrb]; exact Nat.mod_lt _ (by omega)
  have wa1 : IntKind.u64.wrap (a : Int) = (a : Int) := by rw [IntKind.wrap_u64]; omega
  have wb1 : IntKind.u64.wrap (b : Int) = (b : Int) := by rw [IntKind.wrap_u64]; omega
  have ma : (a : Int).tmod (few : Int) = (ra : Int) := by rw [Int.tmod_eq_emod_of_nonneg (by omega), hra]; simp
  have mb : (b : Int).tmod (few : Int) = (rb : Int) := by rw [Int.tmod_eq_emod_of_nonneg (by omega), hrb]; simp
  have ma' : (a : Int) % (few : Int) = (ra : Int) := by rw [hra]; simp
  have mb' : (b : Int) % (few : Int) = (rb : Int) := by rw [hrb]; simp
  have hz : ¬ few = 0 := by omega
  have hz' : ((few : Int) == 0) = false := by rw [beq_eq_false_iff_ne]; omega
  have hz2 : ¬ (few : Int) = 0 := by omega
  have Hru : Hid (edgeU a n = if 230 < a then n - 1 - ra else ra) := by show _ = _; unfold edgeU; rw [hra, Hfew.out]
  have Hrv : Hid (edgeW b n = if 240 < b then n - 1 - rb else rb) := by show _ = _; unfold edgeW; rw [hrb, Hfew.out]
  have Hsm : Hid (ra < n ∧ rb < n) := by constructor <;> omega
  clear hra hrb
  go_wp2_with fail
  refine wp_region_tree (fun _ => False) (.take 0 (.take 1 (.take 2 (.take 3 (.take 4 (.take 5 (.take 6 (.take 7 (.take 8 (.take 9 .nil)))))))))) (by kernel_rfl) (by kernel_rfl) (by decide) (by kernel_rfl) ?_
  repeat (refine wpT_take (v := ?_) rfl rfl (fun x hx => ?_) ?_; rotate_left; (focus (go_simp; with_reducible rfl)); simp only [Act.put, List.setIfInBounds_toArray, List.set_cons_zero, List.set_cons_succ])
  unfold wpT
  clear wa1 wb1 ma mb ma' mb' hz hz' hz2 hra2 hrb2 hf1
  have Hpb : Hid (wc.drew.heap[p]? = some (.cells #[.int .u32 0, .int .u32 0] 58 (0, 0))) := Hpb.out
  have Hwa : Hid (Fr w wc.drew (fun _ => False)) := Hwa.out.drew
  generalize wc.drew = W at Hpb Hwa ⊢
  obtain ⟨U, hU⟩ : ∃ U, U = edgeU a n := ⟨_, rfl⟩
  obtain ⟨V, hV⟩ : ∃ V, V = edgeW b n := ⟨_, rfl⟩
  have HU : Hid _ := hU
  have HV : Hid _ := hV
  clear hU hV
  rename_i hK3
  refine hK3 _ _ ?_
  refine wp_seq_k (fun K2 hK2 => ?_)
  go_cut [9] from 21 to 26 (fun X wx => X = .int .u64 (U : Int) ∧ wx = W)
  case first =>
    by_cases h : 230 < a
    · have d1 : decide ((230 : Int) < (a : Int)) = true := decide_eq_true (by omega)
      have d1' : decide (230 < a) = true := decide_eq_true h
      have hUe : (U : Int) = (n : Int) - 1 - (ra : Int) := by have := Hru.out; have h3 := HU.out; have h4 := Hsm.out; rw [if_pos h] at this; omega
      have w1 : IntKind.u64.wrap ((n : Int) - 1) = (n : Int) - 1 := by rw [IntKind.wrap_u64]; omega
      have w2 : IntKind.u64.wrap ((n : Int) - 1 - (ra : Int)) = (U : Int) := by rw [hUe, IntKind.wrap_u64]; have := Hsm.out; omega
      clear hUe
      go_wp2_with fail
      go_meet
      case rel => exact ⟨by first | rfl | rw [w2], rfl⟩
    · have d1 : decide ((230 : Int) < (a : Int)) = false := decide_eq_false (by omega)
      have d1' : decide (230 < a) = false := decide_eq_false h
      obtain rfl : U = ra := by have := Hru.out; have h3 := HU.out; rw [if_neg h] at this; omega
      go_wp2_with fail
      go_meet
      case rel => exact ⟨rfl, rfl⟩
  case rest =>
  obtain ⟨rfl, rfl⟩ := hcut
  refine hK2 _ _ ?_
  clear hK2
  refine wp_seq_k (fun K3 hK3 => ?_)
  go_cut [10] from 27 to 32 (fun X wx => X = .int .u64 (V : Int) ∧ wx = wc)
  case first =>
    by_cases h : 240 < b
    · have d1 : decide ((240 : Int) < (b : Int)) = true := decide_eq_true (by omega)
      have d1' : decide (240 < b) = true := decide_eq_true h
      have hUe : (V : Int) = (n : Int) - 1 - (rb : Int) := by have := Hrv.out; have h3 := HV.out; have h4 := Hsm.out; rw [if_pos h] at this; omega
      have w1 : IntKind.u64.wrap ((n : Int) - 1) = (n : Int) - 1 := by rw [IntKind.wrap_u64]; omega
      have w2 : IntKind.u64.wrap ((n : Int) - 1 - (rb : Int)) = (V : Int) := by rw [hUe, IntKind.wrap_u64]; have := Hsm.out; omega
      clear hUe
      go_wp2_with fail
      go_meet
      case rel => exact ⟨by first | rfl | rw [w2], rfl⟩
    · have d1 : decide ((240 : Int) < (b : Int)) = false := decide_eq_false (by omega)
      have d1' : decide (240 < b) = false := decide_eq_false h
      obtain rfl : V = rb := by have := Hrv.out; have h3 := HV.out; rw [if_neg h] at this; omega
      go_wp2_with fail
      go_meet
      case rel => exact ⟨rfl, rfl⟩
  case rest =>
  rename_i wb _ _ _ _ _ _
  obtain ⟨rfl, rfl⟩ := hcut
  refine hK3 _ _ ?_
  clear hK3 Hru Hrv Hsm
  have Hul : Hid (U < 4294967296 ∧ V < 4294967296) := by
    have h1 := edgeU_lt a n (by omega)
    have h2 := edgeW_lt b n (by omega)
    have h3 := HU.out
    have h4 := HV.out
    constructor <;> omega
  obtain ⟨c0, c1⟩ : wc.cell? ⟨p, 0, none⟩ = some (.int .u32 0) ∧ wc.cell? ⟨p, 1, none⟩ = some (.int .u32 0) := ⟨two_cell0 Hpb.out, two_cell1 Hpb.out⟩
  have f0 : wc.frozen? ⟨p, 0, none⟩ = false := two_free Hpb.out 0
  have f1 : wc.frozen? ⟨p, 1, none⟩ = false := two_free Hpb.out 1
  by_cases huv : U = V
  · have d1 : ((U : Int) == (V : Int)) = true := by simp [huv]
    have d1' : (U == V) = true := by simp [huv]
    obtain rfl : R = none := by rw [HR.out]; unfold seatEdge; rw [← HU.out, ← HV.out]; exact if_pos huv
    clear huv
    go_wp2
    refine bodyPost_ret (pair_edge rfl rfl (run_loadVar_row _ _ 58 _ _ (0, 0) _ (two_set1 (two_set0 Hpb.out)) Tryz.underlying58 rfl edgeSize2)) rfl ?_
    exact ⟨rfl, (Hwa.out.setCell _ (fun h => by have := Hpw.out; dsimp only at h; omega) _).setCell _ (fun h => by have := Hpw.out; dsimp only at h; omega) _⟩
  · have d1 : ((U : Int) == (V : Int)) = false := by rw [beq_eq_false_iff_ne]; omega
    have d1' : (U == V) = false := by rw [beq_eq_false_iff_ne]; exact huv
    have HR2 : Hid (R = some (min U V, max U V)) := by show _ = _; rw [HR.out]; unfold seatEdge; rw [← HU.out, ← HV.out]; exact if_neg huv
    have wU : IntKind.u32.wrap (U : Int) = (U : Int) := by rw [IntKind.wrap_u32]; have := Hul.out; omega
    have wV : IntKind.u32.wrap (V : Int) = (V : Int) := by rw [IntKind.wrap_u32]; have := Hul.out; omega
    rcases Nat.lt_or_gt_of_ne huv with hlt | hlt
    · have e1 : decide ((U : Int) < (V : Int)) = true := decide_eq_true (by omega)
      have e2 : decide ((V : Int) < (U : Int)) = false := decide_eq_false (by omega)
      have e3 : (U : Int) < (V : Int) := by omega
      obtain rfl : R = some (U, V) := by rw [HR2.out, show min U V = U by omega, show max U V = V by omega]
      clear huv
      go_wp2
      refine bodyPost_ret (pair_edge rfl rfl (run_loadVar_row _ _ 58 _ _ (0, 0) _ (two_set1 (two_set0 Hpb.out)) Tryz.underlying58 rfl edgeSize2)) rfl ?_
      exact ⟨rfl, (Hwa.out.setCell _ (fun h => by have := Hpw.out; dsimp only at h; omega) _).setCell _ (fun h => by have := Hpw.out; dsimp only at h; omega) _⟩
    · have e1 : decide ((U : Int) < (V : Int)) = false := decide_eq_false (by omega)
      have e2 : decide ((V : Int) < (U : Int)) = true := decide_eq_true (by omega)
      have e3 : ¬ (U : Int) < (V : Int) := by omega
      have e4 : (V : Int) < (U : Int) := by omega
      obtain rfl : R = some (V, U) := by rw [HR2.out, show min U V = V by omega, show max U V = U by omega]
      clear huv
      go_wp2
      refine bodyPost_ret (pair_edge rfl rfl (run_loadVar_row _ _ 58 _ _ (0, 0) _ (two_set1 (two_set0 Hpb.out)) Tryz.underlying58 rfl edgeSize2)) rfl ?_
      exact ⟨rfl, (Hwa.out.setCell _ (fun h => by have := Hpw.out; dsimp only at h; omega) _).setCell _ (fun h => by have := Hpw.out; dsimp only at h; omega) _⟩

end Go.Proofs.YtnffjafddbbjaaaGreatDoor

/-
  The contract of the seat's insert.
-/
namespace Go.Proofs.YtnffjafddbbjaaaGreatDoor
open Go.RowKit

def befBack (l : List Ev) (e : Ev) : Nat → Bool
  | 0 => false
  | k + 1 => befAt l e k
theorem insK_end {l : List Ev} {e : Ev} {k : Nat} (h : befBack l e k = false) : insK l e k = k := by
  cases k with
  | zero => rfl
  | succ k => rw [insK, if_neg (by rw [show befAt l e k = false from h]; simp)]

set_option maxRecDepth 4000 in
set_option maxHeartbeats 1600000 in
theorem seatInsert_any (v : Value) (evs : List Ev) (x : Ev) (w : World) (h : RdV w v evs) (hl : evs.length ≤ 1000000) : Calls Tryz.prog 23 #[v, evV x] w fun r w' => (∃ v', r = .returned v' ∧ RdV w' v' (insF evs x)) ∧ Fr w w' (fun _ => False) := by
  obtain ⟨a0, c0, rfl, hc0⟩ := h.form
  obtain ⟨n, hn⟩ : ∃ n, n = evs.length := ⟨_, rfl⟩
  obtain ⟨t, ⟨e1, e2⟩, ad⟩ := x
  rw [← hn] at h hl hc0 ⊢
  have Hr : Hid (RdV w (.slice a0 n c0) evs) := h
  have Hn : Hid _ := hn
  have Hl : Hid (evs.length ≤ 1000000) := by show _ ≤ _; omega
  obtain ⟨R, hR⟩ : ∃ R, R = insF evs (t, (e1, e2), ad) := ⟨_, rfl⟩
  rw [← hR]
  have HR : Hid _ := hR
  clear h hn hR
  unfold evV eventV
  dsimp only
  go_enter Tryz.func23, Tryz.ntmps23
  go_wp2_with fail
  obtain ⟨p, hp⟩ : ∃ p, p = w.heap.size := ⟨_, rfl⟩
  obtain ⟨wa, hwa⟩ : ∃ wa, wa = w.alloc (.cells #[.int .i64 t, .int .u32 (e1 : Int), .int .u32 (e2 : Int), .bool ad] 60) := ⟨_, rfl⟩
  rw [← hwa, ← hp]
  have Hpb : Hid (∀ z, Fr wa z (fun _ => False) → z.heap[p]? = some (.cells #[.int .i64 t, .int .u32 (e1 : Int), .int .u32 (e2 : Int), .bool ad] 60 (0, 0))) := fun z hz => hz.kept (by rw [hwa, hp]; exact heap_alloc_new _ _) (fun h => h)
  have Hwa : Hid (Fr w wa (fun _ => False)) := by show Fr _ _ _; rw [hwa]; exact (Fr.refl _ _).alloc _
  have Hr : Hid (∀ z, Fr wa z (fun _ => False) → RdV z (.slice a0 n c0) evs) := fun z hz => Hr.out.keep (Hwa.out.none hz)
  clear hp hwa
  go_loopg [5] n (fun g I wr => ∃ k : Nat, g = k ∧ k ≤ n ∧ I = .int .i64 (k : Int) ∧ insK evs (t, (e1, e2), ad) k = insK evs (t, (e1, e2), ad) evs.length ∧ Fr wa wr (fun _ => False))
  case atStart => exact ⟨n, rfl, Nat.le_refl _, rfl, by rw [← Hn.out], Fr.refl _ _⟩
  case round =>
    obtain ⟨k, hg, hk, rfl, hle, hf⟩ := hrel
    have Hg : Hid _ := hg
    have Hle : Hid _ := hle
    have Hf : Hid (Fr wa wr (fun _ => False)) := hf
    clear hg hle hf
    obtain ⟨B, hB⟩ : ∃ B, B = befBack evs (t, (e1, e2), ad) k := ⟨_, rfl⟩
    have HB : Hid _ := hB
    clear hB
    go_upto_region 2 with fail
    go_cut [18] from 8 to 20 (fun V wx => V = .bool B ∧ Fr wr wx (fun _ => False))
    case first =>
      by_cases h0 : k = 0
      · subst h0
        obtain rfl : B = false := HB.out
        go_wp2_with fail
        refine wp_region_tree (fun _ => False) (.take 0 (.take 1 (.take 2 (.take 3 (.take 4 (.take 5 (.take 6 (.take 7 (.take 8 (.one 9 (.take 10 .nil))))))))))) (by kernel_rfl) (by kernel_rfl) (by decide) (by kernel_rfl) ?_
        iterate 3 (refine wpT_take (v := ?_) rfl rfl (fun x hx => ?_) ?_; rotate_left; (focus (go_simp; with_reducible rfl)); simp only [Act.put, List.setIfInBounds_toArray, List.set_cons_zero, List.set_cons_succ])
        iterate 6 (refine wpT_pass rfl rfl ?_; simp only [Act.put, List.setIfInBounds_toArray, List.set_cons_zero, List.set_cons_succ])
        refine wpT_skip rfl rfl ?_
        simp only [Act.put, List.setIfInBounds_toArray, List.set_cons_zero, List.set_cons_succ]
        repeat (refine wpT_take (v := ?_) rfl rfl (fun x hx => ?_) ?_; rotate_left; (focus (go_simp; with_reducible rfl)); simp only [Act.put, List.setIfInBounds_toArray, List.set_cons_zero, List.set_cons_succ])
        have G3 : Hid (Fr wr wr.drew (fun _ => False)) := (Fr.refl wr (fun _ => False)).drew
        unfold wpT
        go_wp2_with fail
        go_meet
        case rel => exact ⟨rfl, G3.out⟩
      · obtain ⟨k1, hke⟩ : ∃ j, k = j + 1 := ⟨k - 1, by omega⟩
        obtain ⟨⟨s, ⟨f1, f2⟩, ax⟩, ha⟩ : ∃ a, evs[k1]? = some a := ⟨_, List.getElem?_eq_getElem (by rw [← Hn.out]; omega)⟩
        have HB2 : Hid (eBefore t s (e1, e2) (f1, f2) = B) := by
          show _ = _
          rw [HB.out, hke]
          show _ = (evs[k1]?.map (fun x => eBef (t, (e1, e2), ad) x)).getD false
          rw [ha]
          rfl
        obtain ⟨bk, off, cap, e3, hbk, hca⟩ := (Hr.out wa (Fr.refl _ _)).get k1 _ ha
        simp only [Value.slice.injEq] at e3
        obtain ⟨rfl, -, rfl⟩ := e3
        have HG : Hid (Fr wa wr.drew (fun _ => False)) := Hf.out.drew
        have ka : ∀ z, Fr wr.drew z (fun _ => False) → z.cell? ⟨bk, off + k1 * 4, none⟩ = some (.int .i64 s) := fun z hz => (hca z ((HG.out.none hz).mono (fun _ _ h => h.elim))).1
        have kb : ∀ z, Fr wr.drew z (fun _ => False) → z.cell? ⟨bk, off + k1 * 4 + 1, none⟩ = some (.int .u32 (f1 : Int)) := fun z hz => (hca z ((HG.out.none hz).mono (fun _ _ h => h.elim))).2.1
        have kc : ∀ z, Fr wr.drew z (fun _ => False) → z.cell? ⟨bk, off + k1 * 4 + 2, none⟩ = some (.int .u32 (f2 : Int)) := fun z hz => (hca z ((HG.out.none hz).mono (fun _ _ h => h.elim))).2.2.1
        have kd : ∀ z, Fr wr.drew z (fun _ => False) → z.cell? ⟨bk, off + k1 * 4 + 3, none⟩ = some (.bool ax) := fun z hz => (hca z ((HG.out.none hz).mono (fun _ _ h => h.elim))).2.2.2
        have ke : ∀ z, Fr wr.drew z (fun _ => False) → z.cell? ⟨p, 0, none⟩ = some (.int .i64 t) := fun z hz => (four_cells (Hpb.out z (HG.out.none hz))).1
        have kf : ∀ z, Fr wr.drew z (fun _ => False) → z.cell? ⟨p, 1, none⟩ = some (.int .u32 (e1 : Int)) := fun z hz => (four_cells (Hpb.out z (HG.out.none hz))).2.1
        have kg : ∀ z, Fr wr.drew z (fun _ => False) → z.cell? ⟨p, 2, none⟩ = some (.int .u32 (e2 : Int)) := fun z hz => (four_cells (Hpb.out z (HG.out.none hz))).2.2.1
        have kh : ∀ z, Fr wr.drew z (fun _ => False) → z.cell? ⟨p, 3, none⟩ = some (.bool ad) := fun z hz => (four_cells (Hpb.out z (HG.out.none hz))).2.2.2
        have hpos : decide ((0 : Int) < (k : Int)) = true := decide_eq_true (by omega)
        have hpos' : decide (0 < k) = true := decide_eq_true (by omega)
        have hsub : IntKind.i64.wrap ((k : Int) - 1) = (k1 : Int) := by rw [IntWalk.i64_in _ (by omega)]; omega
        have hk1 : (k1 : Int) < (n : Int) := by omega
        have hk10 : (0 : Int) ≤ (k1 : Int) := by omega
        clear hca hbk ha hke
        go_wp2_with fail
        refine wp_region_tree (fun _ => False) (.take 0 (.take 1 (.take 2 (.take 3 (.take 4 (.take 5 (.take 6 (.take 7 (.take 8 (.one 9 (.take 10 .nil))))))))))) (by kernel_rfl) (by kernel_rfl) (by decide) (by kernel_rfl) ?_
        repeat (refine wpT_take (v := ?_) rfl rfl (fun x hx => ?_) ?_; rotate_left; (focus (go_simp; with_reducible rfl)); simp only [Act.put, List.setIfInBounds_toArray, List.set_cons_zero, List.set_cons_succ])
        refine wpT_one rfl rfl (fun K hK => ?_)
        go_simp
        refine (refBefore8_any t s (e1, e2) (f1, f2) ad ax _).mono ?_
        rw [HB2.out]
        rintro r x3 ⟨rfl, g⟩
        refine hK _ _ g ?_
        clear hK K ka kb kc kd ke kf kg kh
        have G3 : Hid (Fr wr x3 (fun _ => False)) := (Fr.refl wr (fun _ => False)).drew.none g
        clear g
        repeat (refine wpT_take (v := ?_) rfl rfl (fun x hx => ?_) ?_; rotate_left; (focus (go_simp; with_reducible rfl)); simp only [Act.put, List.setIfInBounds_toArray, List.set_cons_zero, List.set_cons_succ])
        unfold wpT
        go_wp2_with fail
        go_meet
        case rel => exact ⟨rfl, G3.out⟩
    case rest =>
      obtain ⟨rfl, hfc⟩ := hcut
      rename_i hKc
      refine hKc _ _ ?_
      clear hKc
      have Hfc : Hid (Fr wa wc (fun _ => False)) := Hf.out.none hfc
      clear hfc
      cases B with
      | true =>
        obtain ⟨k1, hke⟩ : ∃ j, k = j + 1 := by
          cases k with
          | zero => have := HB.out; cases this
          | succ j => exact ⟨j, rfl⟩
        have Hle2 : Hid (insK evs (t, (e1, e2), ad) k1 = insK evs (t, (e1, e2), ad) evs.length) := by
          show _ = _
          rw [← Hle.out, hke, insK, if_pos (by have := HB.out; rw [hke] at this; exact this.symm)]
        have hsub : (k : Int) - 1 = (k1 : Int) := by omega
        go_wp2_with fail
        go_roundg k1
        case rel => exact ⟨k1, rfl, by omega, by go_num, Hle2.out, Hfc.out⟩
        case measure => rw [Hg.out]; omega
      | false =>
        have HK : Hid (insK evs (t, (e1, e2), ad) evs.length = k) := by show _ = _; rw [← Hle.out]; exact insK_end HB.out.symm
        obtain ⟨C, hC⟩ : ∃ C, C = sameAt evs (t, (e1, e2), ad) k := ⟨_, rfl⟩
        have HC : Hid _ := hC
        clear hC
        go_upto_region 4 with fail
        go_cut [44] from 21 to 44 (fun V wx => V = .bool C ∧ Fr wc wx (fun _ => False))
        case first =>
          by_cases h0 : k = 0
          · subst h0
            obtain rfl : C = false := HC.out
            go_wp2_with fail
            refine wp_region_tree (fun _ => False) (.take 0 (.take 1 (.take 2 (.take 3 (.take 4 (.take 5 (.take 6 (.take 7 (.take 8 (.take 9 (.take 10 (.take 11 (.take 12 (.take 13 (.take 14 (.take 15 (.take 16 (.take 17 (.take 18 (.take 19 (.take 20 (.take 21 (.take 22 (.take 23 .nil)))))))))))))))))))))))) (by kernel_rfl) (by kernel_rfl) (by decide) (by kernel_rfl) ?_
            iterate 3 (refine wpT_take (v := ?_) rfl rfl (fun x hx => ?_) ?_; rotate_left; (focus (go_simp; with_reducible rfl)); simp only [Act.put, List.setIfInBounds_toArray, List.set_cons_zero, List.set_cons_succ])
            iterate 9 (refine wpT_pass rfl rfl ?_; simp only [Act.put, List.setIfInBounds_toArray, List.set_cons_zero, List.set_cons_succ])
            iterate 2 (refine wpT_take (v := ?_) rfl rfl (fun x hx => ?_) ?_; rotate_left; (focus (go_simp; with_reducible rfl)); simp only [Act.put, List.setIfInBounds_toArray, List.set_cons_zero, List.set_cons_succ])
            iterate 9 (refine wpT_pass rfl rfl ?_; simp only [Act.put, List.setIfInBounds_toArray, List.set_cons_zero, List.set_cons_succ])
            repeat (refine wpT_take (v := ?_) rfl rfl (fun x hx => ?_) ?_; rotate_left; (focus (go_simp; with_reducible rfl)); simp only [Act.put, List.setIfInBounds_toArray, List.set_cons_zero, List.set_cons_succ])
            have G3 : Hid (Fr wc wc.drew (fun _ => False)) := (Fr.refl wc (fun _ => False)).drew
            unfold wpT
            go_wp2_with fail
            go_meet
            case rel => exact ⟨rfl, G3.out⟩
          · obtain ⟨k1, hke⟩ : ∃ j, k = j + 1 := ⟨k - 1, by omega⟩
            obtain ⟨⟨s, ⟨f1, f2⟩, ax⟩, ha⟩ : ∃ a, evs[k1]? = some a := ⟨_, List.getElem?_eq_getElem (by rw [← Hn.out]; omega)⟩
            have HC2 : Hid (C = decide (s = t ∧ (f1, f2) = (e1, e2))) := by
              show _ = _
              rw [HC.out, hke]
              show (evs[k1]?.map (fun x => alike x (t, (e1, e2), ad))).getD false = _
              rw [ha]
              rfl
            obtain ⟨bk, off, cap, e3, hbk, hca⟩ := (Hr.out wa (Fr.refl _ _)).get k1 _ ha
            simp only [Value.slice.injEq] at e3
            obtain ⟨rfl, -, rfl⟩ := e3
            have HG : Hid (Fr wa wc.drew (fun _ => False)) := Hfc.out.drew
            have ka : ∀ z, Fr wc.drew z (fun _ => False) → z.cell? ⟨bk, off + k1 * 4, none⟩ = some (.int .i64 s) := fun z hz => (hca z ((HG.out.none hz).mono (fun _ _ h => h.elim))).1
            have kb : ∀ z, Fr wc.drew z (fun _ => False) → z.cell? ⟨bk, off + k1 * 4 + 1, none⟩ = some (.int .u32 (f1 : Int)) := fun z hz => (hca z ((HG.out.none hz).mono (fun _ _ h => h.elim))).2.1
            have kc : ∀ z, Fr wc.drew z (fun _ => False) → z.cell? ⟨bk, off + k1 * 4 + 2, none⟩ = some (.int .u32 (f2 : Int)) := fun z hz => (hca z ((HG.out.none hz).mono (fun _ _ h => h.elim))).2.2.1
            have ke : ∀ z, Fr wc.drew z (fun _ => False) → z.cell? ⟨p, 0, none⟩ = some (.int .i64 t) := fun z hz => (four_cells (Hpb.out z (HG.out.none hz))).1
            have kf : ∀ z, Fr wc.drew z (fun _ => False) → z.cell? ⟨p, 1, none⟩ = some (.int .u32 (e1 : Int)) := fun z hz => (four_cells (Hpb.out z (HG.out.none hz))).2.1
            have kg : ∀ z, Fr wc.drew z (fun _ => False) → z.cell? ⟨p, 2, none⟩ = some (.int .u32 (e2 : Int)) := fun z hz => (four_cells (Hpb.out z (HG.out.none hz))).2.2.1
            have hpos : decide ((0 : Int) < (k : Int)) = true := decide_eq_true (by omega)
            have hpos' : decide (0 < k) = true := decide_eq_true (by omega)
            have hsub : IntKind.i64.wrap ((k : Int) - 1) = (k1 : Int) := by rw [IntWalk.i64_in _ (by omega)]; omega
            have hk1 : (k1 : Int) < (n : Int) := by omega
            have hk10 : (0 : Int) ≤ (k1 : Int) := by omega
            clear hca hbk ha hke
            by_cases hst : s = t
            · have d1 : (s == t) = true := by simp [hst]
              obtain ⟨D, hD⟩ : ∃ D, D = decide ((f1, f2) = (e1, e2)) := ⟨_, rfl⟩
              have HD : Hid _ := hD
              have HCD : Hid (C = D) := by show _ = _; rw [HC2.out, hD]; simp [hst]
              clear hst hD
              go_wp2_with fail
              refine wp_region_tree (fun _ => False) (.take 0 (.take 1 (.take 2 (.take 3 (.take 4 (.take 5 (.take 6 (.take 7 (.take 8 (.take 9 (.take 10 (.take 11 (.take 12 (.take 13 (.take 14 (.take 15 (.take 16 (.take 17 (.take 18 (.take 19 (.take 20 (.take 21 (.take 22 (.take 23 .nil)))))))))))))))))))))))) (by kernel_rfl) (by kernel_rfl) (by decide) (by kernel_rfl) ?_
              iterate 22 (refine wpT_take (v := ?_) rfl rfl (fun x hx => ?_) ?_; rotate_left; (focus (go_simp; with_reducible rfl)); simp only [Act.put, List.setIfInBounds_toArray, List.set_cons_zero, List.set_cons_succ])
              refine wpT_take (v := .bool D) rfl rfl (fun x hx => ?_) ?_
              · rw [HD.out]
                go_simp
                by_cases h1 : f1 = e1 <;> by_cases h2 : f2 = e2 <;> simp [h1, h2, Int.ofNat_inj]
              simp only [Act.put, List.setIfInBounds_toArray, List.set_cons_zero, List.set_cons_succ]
              clear ka kb kc ke kf kg
              repeat (refine wpT_take (v := ?_) rfl rfl (fun x hx => ?_) ?_; rotate_left; (focus (go_simp; with_reducible rfl)); simp only [Act.put, List.setIfInBounds_toArray, List.set_cons_zero, List.set_cons_succ])
              have G3 : Hid (Fr wc wc.drew (fun _ => False)) := (Fr.refl wc (fun _ => False)).drew
              unfold wpT
              go_wp2_with fail
              go_meet
              case rel => exact ⟨by rw [HCD.out], G3.out⟩
            · have d1 : (s == t) = false := by rw [beq_eq_false_iff_ne]; exact hst
              obtain rfl : C = false := by rw [HC2.out]; exact decide_eq_false (fun h => hst h.1)
              clear hst
              go_wp2_with fail
              refine wp_region_tree (fun _ => False) (.take 0 (.take 1 (.take 2 (.take 3 (.take 4 (.take 5 (.take 6 (.take 7 (.take 8 (.take 9 (.take 10 (.take 11 (.take 12 (.take 13 (.take 14 (.take 15 (.take 16 (.take 17 (.take 18 (.take 19 (.take 20 (.take 21 (.take 22 (.take 23 .nil)))))))))))))))))))))))) (by kernel_rfl) (by kernel_rfl) (by decide) (by kernel_rfl) ?_
              iterate 14 (refine wpT_take (v := ?_) rfl rfl (fun x hx => ?_) ?_; rotate_left; (focus (go_simp; with_reducible rfl)); simp only [Act.put, List.setIfInBounds_toArray, List.set_cons_zero, List.set_cons_succ])
              iterate 9 (refine wpT_pass rfl rfl ?_; simp only [Act.put, List.setIfInBounds_toArray, List.set_cons_zero, List.set_cons_succ])
              repeat (refine wpT_take (v := ?_) rfl rfl (fun x hx => ?_) ?_; rotate_left; (focus (go_simp; with_reducible rfl)); simp only [Act.put, List.setIfInBounds_toArray, List.set_cons_zero, List.set_cons_succ])
              have G3 : Hid (Fr wc wc.drew (fun _ => False)) := (Fr.refl wc (fun _ => False)).drew
              unfold wpT
              go_wp2_with fail
              go_meet
              case rel => exact ⟨rfl, G3.out⟩
        case rest =>
          rename_i wb _ _ _ _ _ _ _ _ _ _ _ _ _ _ _ _ _ _ _ _ _ _ _ _
          obtain ⟨rfl, hfc⟩ := hcut
          rename_i hKc
          refine hKc _ _ ?_
          clear hKc
          have Hfd : Hid (Fr wa wc (fun _ => False)) := Hfc.out.none hfc
          clear hfc
          cases C with
          | true =>
            obtain rfl : R = evs := by rw [HR.out]; unfold insF; rw [HK.out, if_pos HC.out.symm]
            have Hro := Hr.out wc Hfd.out
            have Hfo : Hid (Fr w wc (fun _ => False)) := Hwa.out.none Hfd.out
            have Hro2 : Hid _ := Hro
            clear Hro
            go_wp2
            go_ret
            exact ⟨⟨_, rfl, Hro2.out⟩, Hfo.out⟩
          | false =>
            obtain rfl : R = evs.take k ++ (t, (e1, e2), ad) :: evs.drop k := by rw [HR.out]; unfold insF; rw [HK.out, if_neg (by rw [← HC.out]; simp)]
            obtain ⟨W, hW⟩ : ∃ W, W = wc.drew := ⟨_, rfl⟩
            have HfW : Hid (Fr wa W (fun _ => False)) := by rw [hW]; exact Hfd.out.drew
            have ka : ∀ z, Fr W z (fun k => W.heap.size ≤ k) → z.cell? ⟨p, 0, none⟩ = some (.int .i64 t) := fun z hz => (four_cells (Hpb.out z (HfW.out.none (hz.old (Nat.le_refl _))))).1
            have kb : ∀ z, Fr W z (fun k => W.heap.size ≤ k) → z.cell? ⟨p, 1, none⟩ = some (.int .u32 (e1 : Int)) := fun z hz => (four_cells (Hpb.out z (HfW.out.none (hz.old (Nat.le_refl _))))).2.1
            have kc : ∀ z, Fr W z (fun k => W.heap.size ≤ k) → z.cell? ⟨p, 2, none⟩ = some (.int .u32 (e2 : Int)) := fun z hz => (four_cells (Hpb.out z (HfW.out.none (hz.old (Nat.le_refl _))))).2.2.1
            have kd : ∀ z, Fr W z (fun k => W.heap.size ≤ k) → z.cell? ⟨p, 3, none⟩ = some (.bool ad) := fun z hz => (four_cells (Hpb.out z (HfW.out.none (hz.old (Nat.le_refl _))))).2.2.2
            have hkc : (k : Int) ≤ (c0 : Int) := by omega
            have hkn : (k : Int) ≤ (n : Int) := by omega
            have hk0 : (0 : Int) ≤ (k : Int) := by omega
            obtain ⟨A, hA⟩ : ∃ A, (if c0 = k then a0 else Option.map (fun x => x.add (k * 4)) a0) = A := ⟨_, rfl⟩
            have Hpre : Hid (RdV W (.slice a0 k c0) (evs.take k)) := (Hr.out W HfW.out).take Hn.out.symm k hk
            have Hpost : Hid (RdV W (.slice A (n - k) (c0 - k)) (evs.drop k)) := by rw [← hA]; exact (Hr.out W HfW.out).drop Hn.out.symm k hk
            have Hll : Hid ((evs.take k).length + 1 + (evs.drop k).length ≤ 2000000) := by have := Hl.out; show _ ≤ _; rw [List.length_take, List.length_drop]; omega
            go_wp2_with fail
            refine wp_region_tree (fun k => W.heap.size ≤ k) (.take 0 (.take 1 (.take 2 (.take 4 (.take 7 (.take 8 (.take 9 (.two 3 (.one 5 (.one 6 (.one 10 (.take 11 .nil)))) 5 (.one 3 (.one 6 (.one 10 (.take 11 .nil)))))))))))) (by kernel_rfl) (by kernel_rfl) (by decide) (by kernel_rfl) ?_
            rw [← hW]
            clear hW
            repeat (refine wpT_take (v := ?_) rfl rfl (fun x hx => ?_) ?_; rotate_left; (focus (go_simp; with_reducible rfl)); simp only [Act.put, List.setIfInBounds_toArray, List.set_cons_zero, List.set_cons_succ])
            clear ka kb kc kd
            have e0 : Fr W W (fun k => W.heap.size ≤ k) := Fr.refl _ _
            refine wpT_two rfl rfl rfl rfl (fun K hK => ?_) (fun K hK => ?_)
            · obtain ⟨v4, w4, hrun4, ho4, hf4, hn4⟩ := app_events_nil W (.slice a0 k c0) _ W.heap.size (Nat.le_refl _) Hpre.out (by have := Hll.out; omega)
              refine op_append_run (.const (.slice none 0 0)) (.tmp 48) 23 rfl rfl rfl hrun4 ?_
              refine hK _ _ hf4 ?_
              clear hK K
              simp only [Act.put, List.setIfInBounds_toArray, List.set_cons_zero, List.set_cons_succ]
              refine wpT_one rfl rfl (fun K hK => ?_)
              go_simp
              refine hK _ _ (((Fr.refl w4 (fun _ => False)).alloc _).mono (fun _ _ h => h.elim)) ?_
              clear hK K
              have hfl : Fr W (w4.alloc (.cells #[.int .i64 t, .int .u32 (e1 : Int), .int .u32 (e2 : Int), .bool ad] 60)) (fun k => W.heap.size ≤ k) := hf4.alloc _
              have hlit := lit_event w4 (t, (e1, e2), ad)
              have hof := ho4.alloc (.cells #[.int .i64 t, .int .u32 (e1 : Int), .int .u32 (e2 : Int), .bool ad] 60)
              obtain ⟨v5, w5, hrun5, ho5, hf5, hn5⟩ := app_events_new _ v4 _ _ [(t, (e1, e2), ad)] W.heap.size hfl.size hof hn4 hlit (by have := Hll.out; simp only [List.length_singleton]; omega)
              refine wpT_one rfl rfl (fun K hK => ?_)
              refine op_append_run (.tmp 49) (.tmp 51) 23 rfl rfl rfl hrun5 ?_
              refine hK _ _ hf5 ?_
              clear hK K
              simp only [Act.put, List.setIfInBounds_toArray, List.set_cons_zero, List.set_cons_succ]
              have hf6 : Fr W w5 (fun k => W.heap.size ≤ k) := hfl.trans hf5 (fun _ _ h => h)
              obtain ⟨v6, w6, hrun6, ho6, hf7, hn6⟩ := app_events_new w5 v5 (.slice A (n - k) (c0 - k)) _ _ W.heap.size hf6.size ho5 hn5 (Hpost.out.keep (hf6.old (Nat.le_refl _))) (by have := Hll.out; rw [List.length_append, List.length_singleton]; omega)
              refine wpT_one rfl rfl (fun K hK => ?_)
              refine op_append_run (.tmp 52) (.tmp 55) 23 rfl rfl rfl hrun6 ?_
              refine hK _ _ hf7 ?_
              clear hK K
              simp only [Act.put, List.setIfInBounds_toArray, List.set_cons_zero, List.set_cons_succ]
              repeat (refine wpT_take (v := ?_) rfl rfl (fun x hx => ?_) ?_; rotate_left; (focus (go_simp; with_reducible rfl)); simp only [Act.put, List.setIfInBounds_toArray, List.set_cons_zero, List.set_cons_succ])
              have Hfo : Hid (Fr w w6 (fun _ => False)) := (Hwa.out.none HfW.out).none ((hf6.trans hf7 (fun _ _ h => h)).old (Nat.le_refl _))
              have Ho6 : Hid (OwnV w6 v6 (evs.take k ++ (t, (e1, e2), ad) :: evs.drop k)) := by rw [List.append_assoc] at ho6; exact ho6
              clear hf4 hf5 hf6 hf7 hfl ho4 ho5 ho6 hn4 hn5 hn6 hrun4 hrun5 hrun6 hlit
              unfold wpT
              go_wp2
              go_ret
              exact ⟨⟨_, rfl, Ho6.out.rd⟩, Hfo.out⟩
            · go_simp
              refine hK _ _ (((Fr.refl W (fun _ => False)).alloc _).mono (fun _ _ h => h.elim)) ?_
              clear hK K
              have hfl : Fr W (W.alloc (.cells #[.int .i64 t, .int .u32 (e1 : Int), .int .u32 (e2 : Int), .bool ad] 60)) (fun k => W.heap.size ≤ k) := e0.alloc _
              have hlit := lit_event W (t, (e1, e2), ad)
              obtain ⟨v4, w4, hrun4, ho4, hf4a, hn4a⟩ := app_events_nil _ (.slice a0 k c0) _ (W.heap.size + 1) (by simp) (Hpre.out.keep (hfl.old (Nat.le_refl _))) (by have := Hll.out; omega)
              have hf4 := hf4a.mono (T := fun k => W.heap.size ≤ k) (fun i _ hi => by omega)
              have hn4 : ∀ k, v4.ownBlock = some k → W.heap.size ≤ k := fun k hk => by have := hn4a k hk; omega
              refine wpT_one rfl rfl (fun K hK => ?_)
              refine op_append_run (.const (.slice none 0 0)) (.tmp 48) 23 rfl rfl rfl hrun4 ?_
              refine hK _ _ hf4 ?_
              clear hK K
              simp only [Act.put, List.setIfInBounds_toArray, List.set_cons_zero, List.set_cons_succ]
              have hlit2 := hlit.frame hf4a (fun _ k hk => by simp [Value.ownBlock] at hk; subst hk; omega)
              obtain ⟨v5, w5, hrun5, ho5, hf5, hn5⟩ := app_events_new _ v4 _ _ [(t, (e1, e2), ad)] W.heap.size (hfl.trans hf4 (fun _ _ h => h)).size ho4 hn4 hlit2 (by have := Hll.out; simp only [List.length_singleton]; omega)
              refine wpT_one rfl rfl (fun K hK => ?_)
              refine op_append_run (.tmp 49) (.tmp 51) 23 rfl rfl rfl hrun5 ?_
              refine hK _ _ hf5 ?_
              clear hK K
              simp only [Act.put, List.setIfInBounds_toArray, List.set_cons_zero, List.set_cons_succ]
              have hf6 : Fr W w5 (fun k => W.heap.size ≤ k) := (hfl.trans hf4 (fun _ _ h => h)).trans hf5 (fun _ _ h => h)
              obtain ⟨v6, w6, hrun6, ho6, hf7, hn6⟩ := app_events_new w5 v5 (.slice A (n - k) (c0 - k)) _ _ W.heap.size hf6.size ho5 hn5 (Hpost.out.keep (hf6.old (Nat.le_refl _))) (by have := Hll.out; rw [List.length_append, List.length_singleton]; omega)
              refine wpT_one rfl rfl (fun K hK => ?_)
              refine op_append_run (.tmp 52) (.tmp 55) 23 rfl rfl rfl hrun6 ?_
              refine hK _ _ hf7 ?_
              clear hK K
              simp only [Act.put, List.setIfInBounds_toArray, List.set_cons_zero, List.set_cons_succ]
              repeat (refine wpT_take (v := ?_) rfl rfl (fun x hx => ?_) ?_; rotate_left; (focus (go_simp; with_reducible rfl)); simp only [Act.put, List.setIfInBounds_toArray, List.set_cons_zero, List.set_cons_succ])
              have Hfo : Hid (Fr w w6 (fun _ => False)) := (Hwa.out.none HfW.out).none ((hf6.trans hf7 (fun _ _ h => h)).old (Nat.le_refl _))
              have Ho6 : Hid (OwnV w6 v6 (evs.take k ++ (t, (e1, e2), ad) :: evs.drop k)) := by rw [List.append_assoc] at ho6; exact ho6
              clear hf4 hf5 hf6 hf7 hfl ho4 ho5 ho6 hn4 hn5 hn6 hrun4 hrun5 hrun6 hlit
              unfold wpT
              go_wp2
              go_ret
              exact ⟨⟨_, rfl, Ho6.out.rd⟩, Hfo.out⟩

end Go.Proofs.YtnffjafddbbjaaaGreatDoor

/-
  The contract of the seat's History.
-/
namespace Go.Proofs.YtnffjafddbbjaaaGreatDoor
open Go.RowKit

theorem histSize : (Tryz.prog.info? 25).map (·.size) = some 2 := by kernel_rfl
theorem results_cell1 {fn : Func} {p : Tmp} {ty : TypeId} (h : fn.results = #[.cell p ty]) {tmps : Array Value} {P : Program} {w : World} {b o : Nat} {v : Value} (hp : tmps.getD p undef = .pointer (some ⟨b, o, none⟩)) (hl : (loadVar ty ⟨b, o, none⟩).run P w = .ok v w) :
    (results fn tmps).run P w = .ok v w := by
  have hp' : tmps[p]?.getD undef = .pointer (some ⟨b, o, none⟩) := by rw [← hp]; simp
  simp [results, h, asAddr, hp', hl]
theorem drop3 {l : List Nat} {i : Nat} (h : i + 2 < l.length) : l.drop i = l.getD i 0 :: l.getD (i + 1) 0 :: l.getD (i + 2) 0 :: l.drop (i + 3) := by
  have g : ∀ j, j < l.length → l.drop j = l.getD j 0 :: l.drop (j + 1) := fun j hj => by
    rw [List.drop_eq_getElem_cons hj, List.getD_eq_getElem?_getD, List.getElem?_eq_getElem hj]
    rfl
  rw [g i (by omega), g (i + 1) (by omega), g (i + 2) (by omega)]
theorem drop_at' {α : Type} {l : List α} {i : Nat} {a : α} (h : l[i]? = some a) : l.drop i = a :: l.drop (i + 1) := by
  obtain ⟨hi, he⟩ := List.getElem?_eq_some_iff.1 h
  rw [List.drop_eq_getElem_cons hi, he]
theorem times_stop {n t : Nat} {ts : List Ev} {l : List Nat} (h : ¬ (2 < l.length ∧ ts.length < 40)) : timesF n t ts l = ts := by
  match l with
  | [] => rfl
  | [_] => rfl
  | [_, _] => rfl
  | a :: b :: c :: r =>
    rw [timesF, if_neg]
    intro hh
    exact h ⟨by simp, hh⟩
theorem fr_cell (w : World) (p k : Nat) (u : Value) : Fr w (w.setCell ⟨p, k, none⟩ u) (fun j => j = p) := Fr.setCell (S := fun j => j = p) (Fr.refl _ _) ⟨p, k, none⟩ (fun _ => rfl) u
theorem four_free {w : World} {cs : Array Value} {T : TypeId} {p k : Nat} (h : w.heap[p]? = some (.cells cs T (0, 0))) : w.frozen? ⟨p, k, none⟩ = false := by simp [World.frozen?, h]
theorem four_put3 {w : World} {x0 x1 x2 x3 : Value} {T : TypeId} {p : Nat} (h : w.heap[p]? = some (.cells #[x0, x1, x2, x3] T (0, 0))) (v : Value) : (w.setCell ⟨p, 3, none⟩ v).heap[p]? = some (.cells #[x0, x1, x2, v] T (0, 0)) := by
  simp [World.setCell, Array.getElem?_modify, h]
theorem four_put0 {w : World} {x0 x1 x2 x3 : Value} {T : TypeId} {p : Nat} (h : w.heap[p]? = some (.cells #[x0, x1, x2, x3] T (0, 0))) (v : Value) : (w.setCell ⟨p, 0, none⟩ v).heap[p]? = some (.cells #[v, x1, x2, x3] T (0, 0)) := by
  simp [World.setCell, Array.getElem?_modify, h]
/-- Events lie in no block that holds a history. -/
theorem RdV.apart {w : World} {v : Value} {es : List Ev} {p : Nat} {T : TypeId} {n : Int} {a : Option Addr} {l c : Nat} (h : RdV w v es) (hp : w.heap[p]? = some (.cells #[.int .u64 n, .slice a l c] T (0, 0))) (h0 : 0 < es.length) : ∀ k, v.ownBlock = some k → ¬ k = p := by
  obtain ⟨x, hx⟩ : ∃ x, es[0]? = some x := ⟨_, List.getElem?_eq_getElem h0⟩
  obtain ⟨b, off, cap, rfl, hb, hc⟩ := h.get 0 x hx
  have h1 := (hc w (Fr.refl _ _)).1
  intro k hk he
  simp only [Value.ownBlock, Option.some.injEq] at hk
  subst hk
  subst he
  simp only [World.cell?, hp] at h1
  match off with
  | 0 => simp at h1
  | 1 => simp at h1
  | off + 2 => simp at h1

set_option maxRecDepth 4000 in
set_option maxHeartbeats 3200000 in
theorem seatHistory_any (k : Nat) (v : Value) (bs : List Nat) (w : World) (h : Reads .u8 w v bs) (hbb : ∀ x ∈ bs, x < 256) (hl : bs.length ≤ 1000) (hk : k < 256) : Calls Tryz.prog 9 #[.int .u8 (k : Int), v] w fun r w' => (∃ v', r = .returned (histV (vertF k) v') ∧ RdV w' v' (histE k bs) ∧ (∀ b, v'.ownBlock = some b → w.heap.size ≤ b)) ∧ Fr w w' (fun _ => False) := by
  obtain ⟨a0, m, c0, rfl⟩ := h.form
  have hm : m = bs.length := by
    obtain ⟨ao, cap, e, -, -⟩ := h
    simp only [Value.slice.injEq] at e
    rw [e.2.1, length_row]
  have Hr : Hid (Reads .u8 w (.slice a0 m c0) bs) := h
  have Hm : Hid _ := hm
  have Hl : Hid (bs.length ≤ 1000) := hl
  have Hbb : Hid _ := hbb
  have hm1 : m ≤ 1000 := by omega
  obtain ⟨n, hn⟩ : ∃ n, n = vertF k := ⟨_, rfl⟩
  have hnb := vertF_bounds k
  rw [← hn] at hnb
  obtain ⟨RES, hRES⟩ : ∃ R, R = histE k bs := ⟨_, rfl⟩
  rw [← hn, ← hRES]
  have Hn : Hid _ := hn
  have Hnb : Hid _ := hnb
  have HRES : Hid _ := hRES
  clear h hm hl hbb hn hRES hnb
  unfold histV
  go_enter Tryz.func9, Tryz.ntmps9
  go_wp2_with fail
  obtain ⟨p4, hp4⟩ : ∃ p, p = w.heap.size := ⟨_, rfl⟩
  rw [← hp4]
  refine (vertices_any k _).mono ?_
  rw [← Hn.out]
  rintro r x1 ⟨rfl, g⟩
  have h4 : x1.heap[p4]? = some (.cells #[.int .u64 0, .slice none 0 0] 25 (0, 0)) := g.kept (by rw [hp4]; exact heap_alloc_new _ _) (fun h => h)
  have Hx1 : Hid (Fr w x1 (fun _ => False)) := ((Fr.refl w (fun _ => False)).alloc _).none g
  have H4 : Hid _ := h4
  have Hp4 : Hid _ := hp4
  clear g h4 hp4
  go_upto_region 2 with fail
  obtain ⟨p5, hp5⟩ : ∃ p, p = x1.heap.size := ⟨_, rfl⟩
  obtain ⟨w5, hw5⟩ : ∃ x, x = x1.alloc (.cells #[.int .u64 (n : Int), .slice none 0 0] 25) := ⟨_, rfl⟩
  rw [← hw5, ← hp5]
  have Hb5 : Hid (∀ z, Fr w5 z (fun _ => False) → z.heap[p5]? = some (.cells #[.int .u64 (n : Int), .slice none 0 0] 25 (0, 0))) := fun z hz => hz.kept (by rw [hw5, hp5]; exact heap_alloc_new _ _) (fun h => h)
  have hlt45 : p4 < p5 := by rw [hp5]; exact lt_of_block H4.out
  have Hb4 : Hid (∀ z, Fr w5 z (fun k => k = p5) → z.heap[p4]? = some (.cells #[.int .u64 0, .slice none 0 0] 25 (0, 0))) := fun z hz => hz.kept (by rw [hw5]; exact blk_alloc _ H4.out) (fun h => by omega)
  have Hw5 : Hid (Fr w w5 (fun _ => False)) := by show Fr _ _ _; rw [hw5]; exact Hx1.out.alloc _
  have Hs5 : Hid (w5.heap.size = p5 + 1) := by show _ = _; rw [hw5, hp5]; simp
  have Hw4 : Hid (w.heap.size ≤ p4) := by have := Hp4.out; exact (by omega : w.heap.size ≤ p4)
  have H45 : Hid (p4 < p5) := hlt45
  have Hrl : Hid (∀ z, Fr w5 z (fun _ => False) → Reads .u8 z (.slice a0 m c0) bs) := fun z hz => Hr.out.keep (Hw5.out.none hz)
  clear hp5 hw5 hlt45 Hx1 H4 Hp4 Hr
  obtain ⟨t0, ht0⟩ : ∃ t, t = k % 3 := ⟨_, rfl⟩
  have mk : (k : Int).tmod 3 = (t0 : Int) := by rw [Int.tmod_eq_emod_of_nonneg (by omega)]; omega
  have mk' : (k : Int) % 3 = (t0 : Int) := by omega
  have wk : IntKind.i64.wrap (t0 : Int) = (t0 : Int) := IntWalk.i64_in _ (by omega)
  have ht3 : t0 ≤ 2 := by omega
  obtain ⟨TS, hTS⟩ : ∃ T, T = timesF n t0 [] bs := ⟨_, rfl⟩
  have HTS : Hid _ := hTS
  have HR2 : Hid (RES = secondF [] TS) := by show _ = _; rw [HRES.out, hTS, ht0, Hn.out]; rfl
  have Hts : Hid (TS.length ≤ 40) := by
    show _ ≤ _
    rw [hTS]
    exact (times_good n (by have := Hnb.out; omega) t0 [] bs List.Pairwise.nil (fun x hx => by cases hx) (by simp)).2.2
  clear hTS ht0 HRES
  go_wp2_with fail
  clear mk mk' wk
  go_loopg [6, 7, 8] (m + 3) (fun g T S I wr => ∃ (i t : Nat) (ts : List Ev), g = m + 3 - i ∧ i ≤ m + 2 ∧ I = .int .i64 (i : Int) ∧ T = .int .i64 (t : Int) ∧ t ≤ 2 + i * 1099511627776 ∧ RdV wr S ts ∧ ts.length ≤ 40 ∧ timesF n t ts (bs.drop i) = TS ∧ Fr w5 wr (fun _ => False))
  case atStart => exact ⟨0, t0, [], by omega, by omega, rfl, rfl, by omega, RdV.nil _, by simp, HTS.out.symm, Fr.refl _ _⟩
  case round =>
    obtain ⟨i, t, ts, hg, hi, rfl, rfl, ht, hts, htl, hst, hf⟩ := hrel
    have Hg : Hid _ := hg
    have Hts2 : Hid (RdV wr u7 ts) := hts
    have Hst : Hid _ := hst
    have Hf : Hid (Fr w5 wr (fun _ => False)) := hf
    have Ht : Hid (t ≤ 2 + i * 1099511627776) := ht
    obtain ⟨a7, c7, rfl, -⟩ := RdV.form hts
    obtain ⟨q, hq⟩ : ∃ q, q = ts.length := ⟨_, rfl⟩
    rw [← hq] at htl Hts2 ⊢
    have Hq : Hid _ := hq
    clear hg hts hst hf ht hq
    obtain ⟨B, hB⟩ : ∃ B, B = decide (i + 2 < m ∧ q < 40) := ⟨_, rfl⟩
    have HB : Hid _ := hB
    have wi2 : IntKind.i64.wrap ((i : Int) + 2) = (((i + 2 : Nat) : Int)) := by rw [IntWalk.i64_in _ (by omega)]; omega
    have wi2' : (i : Int) + 2 = (((i + 2 : Nat) : Int)) := by omega
    clear hB
    obtain ⟨i2, hi2⟩ : ∃ j, j = i + 2 := ⟨_, rfl⟩
    rw [← hi2] at wi2
    have Hi2 : Hid _ := hi2
    clear wi2'
    go_upto_region 5 with fail
    have HW : Hid (wr = wr) := rfl
    go_cut [29] from 20 to 29 (fun V wx => V = .bool B ∧ wx = wr)
    case first =>
      by_cases h1 : i2 < m
      · have d1 : (i2 : Int) < (m : Int) := by omega
        have d1' : decide (i2 < m) = true := decide_eq_true h1
        by_cases h2 : q < 40
        · have d2 : decide ((q : Int) < 40) = true := decide_eq_true (by omega)
          have d2' : decide (q < 40) = true := decide_eq_true h2
          obtain rfl : B = true := by rw [HB.out]; exact decide_eq_true ⟨by omega, h2⟩
          clear hi2 h1
          go_wp2_with fail
          go_meet
          case rel => exact ⟨rfl, rfl⟩
        · have d2 : decide ((q : Int) < 40) = false := decide_eq_false (by omega)
          have d2' : decide (q < 40) = false := decide_eq_false h2
          obtain rfl : B = false := by rw [HB.out]; exact decide_eq_false (fun h => h2 h.2)
          clear hi2 h1
          go_wp2_with fail
          go_meet
          case rel => exact ⟨rfl, rfl⟩
      · have d1 : ¬ (i2 : Int) < (m : Int) := by omega
        have d1' : decide (i2 < m) = false := decide_eq_false h1
        obtain rfl : B = false := by rw [HB.out]; exact decide_eq_false (fun h => h1 (by omega))
        clear hi2 h1
        go_wp2_with fail
        go_meet
        case rel => exact ⟨rfl, rfl⟩
    case rest =>
    obtain ⟨rfl, rfl⟩ := hcut
    rename_i hKc
    refine hKc _ _ ?_
    clear hKc HW wi2
    cases B with
    | true =>
      have hB := of_decide_eq_true HB.out.symm
      have him : i2 < m := by omega
      obtain ⟨ao', cap', e9, -, hcl⟩ := Hrl.out wc Hf.out
      obtain ⟨bb, off, rfl, hcell⟩ := hcl (by rw [length_row, ← Hm.out]; omega)
      simp only [Value.slice.injEq] at e9
      obtain ⟨rfl, -, rfl⟩ := e9
      have ka := hcell i _ (row_get .u8 bs i (by rw [← Hm.out]; omega))
      have kb := hcell (i + 1) _ (row_get .u8 bs (i + 1) (by rw [← Hm.out]; omega))
      have kc := hcell (i + 2) _ (row_get .u8 bs (i + 2) (by rw [← Hm.out]; omega))
      have la := getD_lt (by decide) Hbb.out i
      have lb := getD_lt (by decide) Hbb.out (i + 1)
      have lc := getD_lt (by decide) Hbb.out (i + 2)
      have Hst2 : Hid (timesF n t ts (bs.getD i 0 :: bs.getD (i + 1) 0 :: bs.getD (i + 2) 0 :: bs.drop (i + 3)) = TS) := by show _ = _; rw [← Hst.out, drop3 (l := bs) (i := i) (by rw [← Hm.out]; have := Hi2.out; omega)]
      generalize bs.getD i 0 = a at ka la Hst2
      generalize bs.getD (i + 1) 0 = b at kb lb Hst2
      generalize bs.getD (i + 2) 0 = c at kc lc Hst2
      obtain ⟨t2, ht2⟩ : ∃ x, x = nextT t a := ⟨_, rfl⟩
      have Hst3 : Hid (timesF n t2 (stepF n t2 ts b c) (bs.drop (i + 3)) = TS) := by
        show _ = _
        rw [← Hst2.out, timesF, if_pos (by rw [← Hq.out]; exact hB.2), ht2]
      have Ht2 : Hid (t2 ≤ 2 + (i + 3) * 1099511627776) := by
        have h1 := nextT_le t a
        have h2 := Ht.out
        rw [← ht2] at h1
        show t2 ≤ 2 + (i + 3) * 1099511627776
        omega
      have Hnt : Hid (t2 = t + a % 4 + if 240 < a then 2 ^ (a % 40) else 0) := ht2
      clear ht2 Hst Hst2 hcl hcell hB
      obtain ⟨r4, hr4⟩ : ∃ r, r = a % 4 := ⟨_, rfl⟩
      obtain ⟨t1, ht1⟩ : ∃ x, x = t + r4 := ⟨_, rfl⟩
      have ma : (a : Int).tmod 4 = (r4 : Int) := by rw [Int.tmod_eq_emod_of_nonneg (by omega)]; omega
      have ma' : (a : Int) % 4 = (r4 : Int) := by omega
      have wr4 : IntKind.i64.wrap (r4 : Int) = (r4 : Int) := IntWalk.i64_in _ (by omega)
      have htb : t ≤ 1125899906842624 := by have := Ht.out; omega
      have wt1 : IntKind.i64.wrap ((t : Int) + (r4 : Int)) = (t1 : Int) := by rw [IntWalk.i64_in _ (by omega)]; omega
      have wt1b : (t : Int) + (r4 : Int) = (t1 : Int) := by omega
      have him1 : (i : Int) < (m : Int) := by omega
      have hi0 : (0 : Int) ≤ (i : Int) := by omega
      rw [← hr4, ← ht1] at Hnt
      have Hr4 : Hid (r4 = a % 4) := hr4
      have Ht1 : Hid (t1 = t + r4) := ht1
      clear hr4 ht1 hi2
      go_upto_region 7 with fail
      have HW : Hid (wc = wc) := rfl
      go_cut [6] from 32 to 39 (fun X wx => X = .int .i64 (t1 : Int) ∧ wx = wc)
      case first =>
        clear wt1b
        go_wp2_with fail
        go_meet
        case rel => exact ⟨by first | rfl | rw [wt1] | (have e := Ht1.out; rw [e]; rfl), rfl⟩
      case rest =>
      rename_i wd _ _ _ _ _ _ _ _ _
      obtain ⟨rfl, rfl⟩ := hcut
      rename_i hKc
      refine hKc _ _ ?_
      clear hKc HW ma ma' wr4 wt1 wt1b
      refine wp_seq_k (fun K2 hK2 => ?_)
      have HW : Hid (wc = wc) := rfl
      go_cut [6] from 40 to 52 (fun X wx => X = .int .i64 (t2 : Int) ∧ wx = wc)
      case first =>
        by_cases h240 : 240 < a
        · have d1 : decide ((240 : Int) < (a : Int)) = true := decide_eq_true (by omega)
          have d1' : decide (240 < a) = true := decide_eq_true h240
          obtain ⟨y, hy⟩ : ∃ y, y = a % 40 := ⟨_, rfl⟩
          have mb : (a : Int).tmod 40 = (y : Int) := by rw [Int.tmod_eq_emod_of_nonneg (by omega)]; omega
          have mb' : (a : Int) % 40 = (y : Int) := by omega
          obtain ⟨P, hP⟩ : ∃ P, P = 2 ^ y := ⟨_, rfl⟩
          have hPb : P ≤ 549755813888 := by rw [hP]; exact Nat.pow_le_pow_right (by omega) (show y ≤ 39 by omega)
          have HP1 : Hid ((2 : Int) ^ y = (P : Int)) := by show _ = _; rw [hP]; simp
          have Hsum : Hid (t2 = t1 + P) := by have := Hnt.out; rw [if_pos h240, ← hy, ← hP] at this; exact this
          clear hP
          have t1b : t1 ≤ 1125899906842630 := by have := Ht1.out; have := Hr4.out; omega
          have hy64 : (y : Int) < 64 := by omega
          have hy0 : (0 : Int) ≤ (y : Int) := by omega
          have h240c : Hid (240 < a) := h240
          have hs1 : -9223372036854775808 ≤ (t1 : Int) + (P : Int) ∧ (t1 : Int) + (P : Int) ≤ 9223372036854775807 := by omega
          have hs2 : -9223372036854775808 ≤ (P : Int) ∧ (P : Int) ≤ 9223372036854775807 := by omega
          have hs3 : (t1 : Int) + (P : Int) = (t2 : Int) := by have := Hsum.out; omega
          have hwP : IntKind.i64.wrap (P : Int) = (P : Int) := IntWalk.i64_in _ hs2
          have hwP2 : wrap64 (P : Int) = (P : Int) := IntWalk.wrap64_in _ hs2
          have wsum : IntKind.i64.wrap ((t1 : Int) + (P : Int)) = (t2 : Int) := (IntWalk.i64_in _ hs1).trans hs3
          have wsum2 : wrap64 ((t1 : Int) + (P : Int)) = (t2 : Int) := (IntWalk.wrap64_in _ hs1).trans hs3
          clear hs1 hs2 hs3
          clear hy h240 hPb
          have hsh : wrap64 ((2 : Int) ^ y) = (P : Int) := by rw [HP1.out]; exact hwP2
          have hsh2 : IntKind.i64.wrap ((2 : Int) ^ y) = (P : Int) := by rw [HP1.out]; exact hwP
          go_wp2_with fail
          go_meet
          case rel => exact ⟨by first | rfl | rw [wsum] | rw [wsum2] | (have e := Hsum.out; rw [e]; rfl), rfl⟩
        · have d1 : decide ((240 : Int) < (a : Int)) = false := decide_eq_false (by omega)
          have d1' : decide (240 < a) = false := decide_eq_false h240
          obtain rfl : t2 = t1 := by have := Hnt.out; rw [if_neg h240] at this; exact this
          clear h240
          go_wp2_with fail
          go_meet
          case rel => exact ⟨rfl, rfl⟩
      case rest =>
      rename_i wq _ _ _ _ _ _ _ _ _ _ _ _ _
      obtain ⟨rfl, rfl⟩ := hcut
      refine hK2 _ _ ?_
      clear hK2 HW
      obtain ⟨SE, hSE⟩ : ∃ S, S = seatEdge b c n := ⟨_, rfl⟩
      have HSE : Hid _ := hSE
      obtain ⟨⟨f1, f2⟩, he⟩ : ∃ e, e = SE.getD (0, 0) := ⟨_, rfl⟩
      have He : Hid _ := he
      have Hq40 : Hid (q < 40) := by have := of_decide_eq_true HB.out.symm; exact this.2
      have Hlbc : Hid (b < 256 ∧ c < 256) := ⟨lb, lc⟩
      clear hSE he ka
      go_upto_region 10 with fail
      go_cut [9, 10] from 53 to 68 (fun X Y wx => ∃ p9 : Nat, X = .pointer (some ⟨p9, 0, none⟩) ∧ Y = .bool SE.isSome ∧ wx.heap[p9]? = some (.cells #[.int .u32 (f1 : Int), .int .u32 (f2 : Int)] 58 (0, 0)) ∧ Fr wc wx (fun _ => False))
      case first =>
        obtain ⟨i1, hi1⟩ : ∃ x, x = i + 1 := ⟨_, rfl⟩
        rw [← hi1] at kb
        rw [← Hi2.out] at kc
        have wi1 : IntKind.i64.wrap ((i : Int) + 1) = (i1 : Int) := by rw [IntWalk.i64_in _ (by omega)]; omega
        have wi2 : IntKind.i64.wrap ((i : Int) + 2) = (i2 : Int) := by have := Hi2.out; rw [IntWalk.i64_in _ (by omega)]; omega
        have hi1m : (i1 : Int) < (m : Int) := by have := Hi2.out; omega
        have hi2m : (i2 : Int) < (m : Int) := by omega
        have hi10 : (0 : Int) ≤ (i1 : Int) := by omega
        have hi20 : (0 : Int) ≤ (i2 : Int) := by omega
        have hbk : bb < wc.heap.size := World.block_lt_of_cell? _ _ kb
        have k1 : ∀ z, Fr wc.drew z (fun k => wc.heap.size ≤ k) → z.cell? ⟨bb, off + i1, none⟩ = some (.int .u8 (b : Int)) := fun z hz => by
          rw [World.cell?_of_block (w := wc) (hz.block bb hbk (fun h => by omega))]
          exact kb
        have k2 : ∀ z, Fr wc.drew z (fun k => wc.heap.size ≤ k) → z.cell? ⟨bb, off + i2, none⟩ = some (.int .u8 (c : Int)) := fun z hz => by
          rw [World.cell?_of_block (w := wc) (hz.block bb hbk (fun h => by omega))]
          exact kc
        have k3 : ∀ z, Fr wc.drew z (fun k => wc.heap.size ≤ k) → z.cell? ⟨p5, 0, none⟩ = some (.int .u64 (n : Int)) := fun z hz => two_cell0 (Hb5.out z (Hf.out.drew.none (hz.old (Nat.le_refl _))))
        obtain ⟨N, hN⟩ : ∃ N, N = wc.heap.size := ⟨_, rfl⟩
        rw [← hN] at k1 k2 k3
        have HN : Hid (wc.heap.size = N) := hN.symm
        clear kb kc hbk hN hi1
        go_wp2_with fail
        refine wp_region_tree (fun k => N ≤ k) (.take 0 (.take 1 (.take 2 (.take 3 (.take 4 (.take 5 (.take 6 (.take 7 (.take 8 (.take 9 (.take 10 (.take 11 (.two 12 (.take 13 (.take 14 (.take 15 (.one 16 (.one 17 (.take 18 .nil)))))) 16 (.one 12 (.take 13 (.take 14 (.take 15 (.one 17 (.take 18 .nil))))))))))))))))))) (by kernel_rfl) (by kernel_rfl) (by decide) (by kernel_rfl) ?_
        repeat (refine wpT_take (v := ?_) rfl rfl (fun x hx => ?_) ?_; rotate_left; (focus (go_simp; with_reducible rfl)); simp only [Act.put, List.setIfInBounds_toArray, List.set_cons_zero, List.set_cons_succ])
        clear k1 k2 k3
        refine wpT_two rfl rfl rfl rfl (fun K hK => ?_) (fun K hK => ?_)
        · go_simp
          refine (seatEdge_any b c n _ Hlbc.out.1 Hlbc.out.2 Hnb.out.1 Hnb.out.2).mono ?_
          rw [← HSE.out, ← He.out]
          unfold edgeV
          rintro r x3 ⟨rfl, g⟩
          refine hK _ _ (g.mono (fun _ _ h => h.elim)) ?_
          clear hK K
          have G3 : Hid (Fr wc.drew x3 (fun _ => False)) := g
          clear g
          repeat (refine wpT_take (v := ?_) rfl rfl (fun x hx => ?_) ?_; rotate_left; (focus (go_simp; with_reducible rfl)); simp only [Act.put, List.setIfInBounds_toArray, List.set_cons_zero, List.set_cons_succ])
          refine wpT_one rfl rfl (fun K hK => ?_)
          go_simp
          refine hK _ _ ((Fr.refl x3 _).alloc _) ?_
          clear hK K
          obtain ⟨p9, hp9⟩ : ∃ p, p = x3.heap.size := ⟨_, rfl⟩
          have hA : (x3.alloc (.cells #[.int .u32 0, .int .u32 0] 58)).heap[p9]? = some (.cells #[.int .u32 0, .int .u32 0] 58 (0, 0)) := by rw [hp9]; exact heap_alloc_new _ _
          have G4 : Hid (Fr wc.drew (x3.alloc (.cells #[.int .u32 0, .int .u32 0] 58)) (fun _ => False)) := G3.out.alloc _
          have hpN : N ≤ p9 := by have := G3.out.size; have h2 := HN.out; rw [hp9]; exact h2 ▸ this
          rw [← hp9]
          clear hp9
          generalize x3.alloc (.cells #[.int .u32 0, .int .u32 0] 58) = x4 at hA G4 ⊢
          obtain ⟨c0', c1'⟩ : x4.cell? ⟨p9, 0, none⟩ = some (.int .u32 0) ∧ x4.cell? ⟨p9, 1, none⟩ = some (.int .u32 0) := ⟨two_cell0 hA, two_cell1 hA⟩
          have f0' : x4.frozen? ⟨p9, 0, none⟩ = false := two_free hA 0
          have f1' : x4.frozen? ⟨p9, 1, none⟩ = false := two_free hA 1
          have HA : Hid _ := hA
          have HpN : Hid (N ≤ p9) := hpN
          clear hA hpN
          refine wpT_one rfl rfl (fun K hK => ?_)
          go_simp
          refine hK _ _ (((fr_cell x4 _ _ _).trans (fr_cell _ _ _ _) (fun _ _ h => h)).mono (fun j _ h => by subst h; exact HpN.out)) ?_
          clear hK K c0' c1' f0' f1'
          have hB2 := two_set1 (two_set0 HA.out (u := .int .u32 (f1 : Int))) (u := .int .u32 (f2 : Int))
          have HfB : Hid (Fr wc ((x4.setCell ⟨p9, 0, none⟩ (.int .u32 (f1 : Int))).setCell ⟨p9, 1, none⟩ (.int .u32 (f2 : Int))) (fun _ => False)) := Fr.newer ((Fr.refl wc (fun _ => False)).drew.none G4.out) ((fr_cell x4 _ _ _).trans (fr_cell _ _ _ _) (fun _ _ h => h)) (fun j h => by subst h; rw [HN.out]; exact HpN.out)
          generalize (x4.setCell ⟨p9, 0, none⟩ (.int .u32 (f1 : Int))).setCell ⟨p9, 1, none⟩ (.int .u32 (f2 : Int)) = x5 at hB2 HfB ⊢
          have HB2 : Hid _ := hB2
          clear hB2 HA
          repeat (refine wpT_take (v := ?_) rfl rfl (fun x hx => ?_) ?_; rotate_left; (focus (go_simp; with_reducible rfl)); simp only [Act.put, List.setIfInBounds_toArray, List.set_cons_zero, List.set_cons_succ])
          unfold wpT
          go_wp2_with fail
          go_meet
          case rel => exact ⟨p9, rfl, rfl, HB2.out, HfB.out⟩
        · go_simp
          refine hK _ _ ((Fr.refl wc.drew _).alloc _) ?_
          clear hK K
          obtain ⟨p9, hp9⟩ : ∃ p, p = wc.heap.size := ⟨_, rfl⟩
          have hA0 : (wc.drew.alloc (.cells #[.int .u32 0, .int .u32 0] 58)).heap[p9]? = some (.cells #[.int .u32 0, .int .u32 0] 58 (0, 0)) := by rw [hp9]; exact heap_alloc_new wc.drew _
          have G3 : Hid (Fr wc.drew (wc.drew.alloc (.cells #[.int .u32 0, .int .u32 0] 58)) (fun _ => False)) := (Fr.refl wc.drew _).alloc _
          have hpN : N ≤ p9 := by rw [hp9, HN.out]; exact Nat.le_refl _
          have HA0 : Hid _ := hA0
          rw [← hp9]
          clear hA0 hp9
          refine wpT_one rfl rfl (fun K hK => ?_)
          go_simp
          refine (seatEdge_any b c n _ Hlbc.out.1 Hlbc.out.2 Hnb.out.1 Hnb.out.2).mono ?_
          rw [← HSE.out, ← He.out]
          unfold edgeV
          rintro r x4 ⟨rfl, g⟩
          refine hK _ _ (g.mono (fun _ _ h => h.elim)) ?_
          clear hK K
          have hA : x4.heap[p9]? = some (.cells #[.int .u32 0, .int .u32 0] 58 (0, 0)) := g.kept HA0.out (fun h => h)
          have G4 : Hid (Fr wc.drew x4 (fun _ => False)) := G3.out.none g
          clear g HA0
          repeat (refine wpT_take (v := ?_) rfl rfl (fun x hx => ?_) ?_; rotate_left; (focus (go_simp; with_reducible rfl)); simp only [Act.put, List.setIfInBounds_toArray, List.set_cons_zero, List.set_cons_succ])
          obtain ⟨c0', c1'⟩ : x4.cell? ⟨p9, 0, none⟩ = some (.int .u32 0) ∧ x4.cell? ⟨p9, 1, none⟩ = some (.int .u32 0) := ⟨two_cell0 hA, two_cell1 hA⟩
          have f0' : x4.frozen? ⟨p9, 0, none⟩ = false := two_free hA 0
          have f1' : x4.frozen? ⟨p9, 1, none⟩ = false := two_free hA 1
          have HA : Hid _ := hA
          have HpN : Hid (N ≤ p9) := hpN
          clear hA hpN
          refine wpT_one rfl rfl (fun K hK => ?_)
          go_simp
          refine hK _ _ (((fr_cell x4 _ _ _).trans (fr_cell _ _ _ _) (fun _ _ h => h)).mono (fun j _ h => by subst h; exact HpN.out)) ?_
          clear hK K c0' c1' f0' f1'
          have hB2 := two_set1 (two_set0 HA.out (u := .int .u32 (f1 : Int))) (u := .int .u32 (f2 : Int))
          have HfB : Hid (Fr wc ((x4.setCell ⟨p9, 0, none⟩ (.int .u32 (f1 : Int))).setCell ⟨p9, 1, none⟩ (.int .u32 (f2 : Int))) (fun _ => False)) := Fr.newer ((Fr.refl wc (fun _ => False)).drew.none G4.out) ((fr_cell x4 _ _ _).trans (fr_cell _ _ _ _) (fun _ _ h => h)) (fun j h => by subst h; rw [HN.out]; exact HpN.out)
          generalize (x4.setCell ⟨p9, 0, none⟩ (.int .u32 (f1 : Int))).setCell ⟨p9, 1, none⟩ (.int .u32 (f2 : Int)) = x5 at hB2 HfB ⊢
          have HB2 : Hid _ := hB2
          clear hB2 HA
          repeat (refine wpT_take (v := ?_) rfl rfl (fun x hx => ?_) ?_; rotate_left; (focus (go_simp; with_reducible rfl)); simp only [Act.put, List.setIfInBounds_toArray, List.set_cons_zero, List.set_cons_succ])
          unfold wpT
          go_wp2_with fail
          go_meet
          case rel => exact ⟨p9, rfl, rfl, HB2.out, HfB.out⟩
      case rest =>
      obtain ⟨p9, rfl, rfl, hp9, hfc⟩ := hcut
      rename_i hKc
      refine hKc _ _ ?_
      clear hKc
      rename_i wp _ _ _ _ _ _ _ _ _ _ _ _ _ _ _ _ _ _ _ _ _ _ _ _ _ _ _ _ _ _ _
      have Hfd : Hid (Fr w5 wc (fun _ => False)) := Hf.out.none hfc
      have Htd : Hid (RdV wc (.slice a7 q c7) ts) := Hts2.out.keep hfc
      obtain ⟨c0', c1'⟩ : wc.cell? ⟨p9, 0, none⟩ = some (.int .u32 (f1 : Int)) ∧ wc.cell? ⟨p9, 1, none⟩ = some (.int .u32 (f2 : Int)) := ⟨two_cell0 hp9, two_cell1 hp9⟩
      clear hp9 hfc kb kc la lb lc
      cases SE with
      | none =>
        have Hst4 : Hid (timesF n t2 ts (bs.drop (i + 3)) = TS) := by
          show _ = _
          have := Hst3.out
          unfold stepF at this
          rw [← HSE.out] at this
          exact this
        have Hi3 : Hid (i + 3 ≤ m + 2) := by have := Hi2.out; exact (by omega : i + 3 ≤ m + 2)
        go_wp2_with fail
        go_roundg (m + 3 - (i + 3))
        case rel => exact ⟨i + 3, t2, ts, rfl, Hi3.out, by first | go_num | (rw [IntWalk.wrap64_in _ (by omega)]; rfl), rfl, Ht2.out, Htd.out, by rw [← Hq.out]; omega, Hst4.out, Hfd.out⟩
        case measure => rw [Hg.out]; have := Hi3.out; omega
      | some e0 =>
        obtain rfl : e0 = (f1, f2) := by rw [He.out]; rfl
        have Hst4 : Hid (timesF n t2 (insF ts ((t2 : Int), (f1, f2), false)) (bs.drop (i + 3)) = TS) := by
          show _ = _
          have := Hst3.out
          unfold stepF at this
          rw [← HSE.out] at this
          exact this
        have Hi3 : Hid (i + 3 ≤ m + 2) := by have := Hi2.out; exact (by omega : i + 3 ≤ m + 2)
        go_wp2_with fail
        refine (seatInsert_any _ ts ((t2 : Int), (f1, f2), false) _ Htd.out (by rw [← Hq.out]; omega)).mono ?_
        rintro r x6 ⟨⟨v6, rfl, hr6⟩, g⟩
        have Hr6 : Hid _ := hr6
        have Hf6 : Hid (Fr w5 x6 (fun _ => False)) := Hfd.out.none g
        have Hl6 : Hid ((insF ts ((t2 : Int), (f1, f2), false)).length ≤ 40) := by have h1 := ins_length ts ((t2 : Int), (f1, f2), false); have h2 := Hq40.out; have h3 := Hq.out; exact (by omega : (insF ts ((t2 : Int), (f1, f2), false)).length ≤ 40)
        clear hr6 g c0' c1'
        go_wp2_with fail
        go_roundg (m + 3 - (i + 3))
        case rel => exact ⟨i + 3, t2, _, rfl, Hi3.out, by first | go_num | (rw [IntWalk.wrap64_in _ (by omega)]; rfl), rfl, Ht2.out, Hr6.out, Hl6.out, Hst4.out, Hf6.out⟩
        case measure => rw [Hg.out]; have := Hi3.out; omega
    | false =>
      have hTS : TS = ts := by
        rw [← Hst.out]
        refine times_stop (fun h => of_decide_eq_false HB.out.symm ⟨?_, by rw [Hq.out]; exact h.2⟩)
        have h1 := h.1
        rw [List.length_drop, ← Hm.out] at h1
        omega
      subst hTS
      have Hts3 : Hid (RdV wc (.slice a7 q c7) TS) := Hts2.out
      have H5c : Hid (wc.heap[p5]? = some (.cells #[.int .u64 (n : Int), .slice none 0 0] 25 (0, 0))) := Hb5.out wc Hf.out
      have Hap : Hid (0 < TS.length → ∀ k, (Value.slice a7 q c7).ownBlock = some k → ¬ k = p5) := RdV.apart Hts3.out H5c.out
      have Hqt : Hid (q ≤ 40) := htl
      have H5w : Hid (p5 < wc.heap.size) := lt_of_block H5c.out
      clear hi2
      go_wp2_with fail
      go_loopg [11, 12] q (fun g N I wr => ∃ (j : Nat) (now : List Eg) (out : List Ev) (hv : Value), g = q - j ∧ j ≤ q ∧ I = .int .i64 (j : Int) ∧ RdE wr N now ∧ now.length ≤ j ∧ (∀ k, N.ownBlock = some k → p5 < k) ∧ out ++ secondF now (TS.drop j) = RES ∧ out.length = j ∧ wr.heap[p5]? = some (.cells #[.int .u64 (n : Int), hv] 25 (0, 0)) ∧ OwnV wr hv out ∧ (∀ k, hv.ownBlock = some k → wc.heap.size ≤ k) ∧ Fr wc wr (fun k => k = p5))
      case atStart => exact ⟨0, [], [], _, by omega, by omega, rfl, RdE.nil _, by simp, fun k hk => (by simp [Value.ownBlock] at hk), by simpa using HR2.out.symm, rfl, H5c.out, OwnV.nil _, fun k hk => (by simp [Value.ownBlock] at hk), Fr.refl _ _⟩
      case round =>
        obtain ⟨j, now, out, hv, hg, hj, rfl, hnow, hnl, hnn, hst, hol, hp5, hov, hvn, hf⟩ := hrel
        have Hg : Hid _ := hg
        have Hnow : Hid (RdE wr u11 now) := hnow
        have Hnl : Hid _ := hnl
        have Hnn : Hid _ := hnn
        have Hst2 : Hid _ := hst
        have Hol : Hid _ := hol
        have H5 : Hid _ := hp5
        have Hov : Hid (OwnV wr hv out) := hov
        have Hvc : Hid (∀ k, hv.ownBlock = some k → wc.heap.size ≤ k) := hvn
        have Hvn : Hid (∀ k, hv.ownBlock = some k → p5 < k) := fun k hk => by have h1 := Hvc.out k hk; have h2 := H5w.out; omega
        have Hf2 : Hid (Fr wc wr (fun k => k = p5)) := hf
        clear hg hnow hnl hnn hst hol hp5 hov hvn hf
        have Hw5r : Hid (p5 < wr.heap.size) := lt_of_block H5.out
        by_cases hlt : j < q
        · have hin : (j : Int) < (q : Int) := by omega
          have hin' : decide (j < q) = true := decide_eq_true hlt
          obtain ⟨⟨s, ⟨f1, f2⟩, ax⟩, ha⟩ : ∃ a, TS[j]? = some a := ⟨_, List.getElem?_eq_getElem (by rw [← Hq.out]; omega)⟩
          obtain ⟨bk, off, cap, e3, hbk, hca⟩ := (RdV.frame Hts3.out Hf2.out Hap.out).get j _ ha
          simp only [Value.slice.injEq] at e3
          obtain ⟨rfl, -, rfl⟩ := e3
          obtain ⟨k0, k1, k2, k3⟩ := hca wr (Fr.refl _ _)
          have hj0 : (0 : Int) ≤ (j : Int) := by omega
          obtain ⟨D, hD⟩ : ∃ D, D = decide ((f1, f2) ∈ now) := ⟨_, rfl⟩
          have HD : Hid _ := hD
          have Hst3 : Hid (out ++ ((s, (f1, f2), !D) :: secondF ((turnF now (f1, f2) (!D)).getD []) (TS.drop (j + 1))) = RES) := by
            show _ = _
            rw [← Hst2.out, drop_at' ha, secondF, hD]
          clear hca hbk ha hD Hst2
          go_wp2_with fail
          obtain ⟨p13, hp13⟩ : ∃ p, p = wr.heap.size := ⟨_, rfl⟩
          rw [← hp13]
          obtain ⟨wE, hwE⟩ : ∃ x, x = wr.alloc (.cells #[.int .i64 s, .int .u32 (f1 : Int), .int .u32 (f2 : Int), .bool ax] 60) := ⟨_, rfl⟩
          rw [← hwE]
          have HfE : Hid (Fr wr wE (fun _ => False)) := by show Fr _ _ _; rw [hwE]; exact (Fr.refl _ _).alloc _
          have H13 : Hid (wE.heap[p13]? = some (.cells #[.int .i64 s, .int .u32 (f1 : Int), .int .u32 (f2 : Int), .bool ax] 60 (0, 0))) := by show _ = _; rw [hwE, hp13]; exact heap_alloc_new _ _
          have Hp13 : Hid (wr.heap.size = p13) := hp13.symm
          clear k0 k1 k2 k3 hp13 hwE
          refine (refHas_any _ now (f1, f2) _ (Hnow.out.keep HfE.out) (by have := Hnl.out; omega)).mono ?_
          rw [← HD.out]
          rintro r x1 ⟨rfl, g⟩
          have H13b : Hid (x1.heap[p13]? = some (.cells #[.int .i64 s, .int .u32 (f1 : Int), .int .u32 (f2 : Int), .bool ax] 60 (0, 0))) := g.kept H13.out (fun h => h)
          have Hx1 : Hid (Fr wr x1 (fun _ => False)) := HfE.out.none g
          clear g
          obtain ⟨k0, k1, k2, k3⟩ := four_cells H13b.out
          have fz : x1.frozen? ⟨p13, 3, none⟩ = false := four_free H13b.out
          go_upto_region 19 with fail
          have H13c := four_put3 H13b.out (.bool (!D))
          have Hx2 : Hid (Fr wr (x1.setCell ⟨p13, 3, none⟩ (.bool (!D))) (fun _ => False)) := Fr.newer Hx1.out (fr_cell x1 _ _ _) (fun j h => by subst h; rw [← Hp13.out]; exact Nat.le_refl _)
          clear k0 k1 k2 k3 fz
          generalize x1.setCell ⟨p13, 3, none⟩ (.bool (!D)) = x2 at H13c Hx2 ⊢
          obtain ⟨k0, k1, k2, k3⟩ := four_cells H13c
          have H13d : Hid _ := H13c
          clear H13c
          obtain ⟨E, hE⟩ : ∃ E, E = !D := ⟨_, rfl⟩
          rw [← hE] at Hst3 k3 H13d ⊢
          clear hE
          go_wp2_with fail
          refine (refTurn_any _ now (s, (f1, f2), E) _ (Hnow.out.keep Hx2.out) (by have := Hnl.out; omega)).mono ?_
          rintro r x3 ⟨⟨v3, rfl, hr3, hn3⟩, g⟩
          obtain ⟨T2, hT2⟩ : ∃ T, T = turnF now (f1, f2) E := ⟨_, rfl⟩
          have HT2 : Hid _ := hT2
          have Hr3 : Hid (RdE x3 v3 (T2.getD [])) := by rw [hT2]; exact hr3
          have Hn3 : Hid (∀ k, v3.ownBlock = some k → x2.heap.size ≤ k) := hn3
          have Hst4 : Hid (out ++ ((s, (f1, f2), E) :: secondF (T2.getD []) (TS.drop (j + 1))) = RES) := by show _ = _; rw [hT2]; exact Hst3.out
          have Hx3 : Hid (Fr wr x3 (fun _ => False)) := Hx2.out.none g
          have H13e : Hid (x3.heap[p13]? = some (.cells #[.int .i64 s, .int .u32 (f1 : Int), .int .u32 (f2 : Int), .bool E] 60 (0, 0))) := g.kept H13d.out (fun h => h)
          obtain ⟨B3, hB3⟩ : ∃ B, B = (turnF now (s, (f1, f2), E).2.1 (s, (f1, f2), E).2.2).isSome := ⟨_, rfl⟩
          rw [← hB3]
          clear g hr3 hn3 hT2 Hst3 k0 k1 k2 k3 hB3
          have H5c3 : Hid (x3.heap[p5]? = some (.cells #[.int .u64 (n : Int), hv] 25 (0, 0))) := Hx3.out.kept H5.out (fun h => h)
          obtain ⟨k0, k1, k2, k3⟩ := four_cells H13e.out
          obtain ⟨c0', c1'⟩ : x3.cell? ⟨p5, 0, none⟩ = some (.int .u64 (n : Int)) ∧ x3.cell? ⟨p5, 1, none⟩ = some hv := ⟨two_cell0 H5c3.out, two_cell1 H5c3.out⟩
          obtain ⟨v4, w4, hrun4, ho4, hf4, hm4⟩ := app_event x3 hv out (s, (f1, f2), E) (Hov.out.frame Hx3.out (fun _ _ h => h)) (by rw [Hol.out]; omega)
          obtain ⟨ao4, l4, cp4, rfl⟩ : ∃ a l c, v4 = .slice a l c := by obtain ⟨a, c, e, -⟩ := ho4.rd.form; exact ⟨a, _, c, e⟩
          have hov3 := Hov.out.lt
          have H5c4 : w4.heap[p5]? = some (.cells #[.int .u64 (n : Int), hv] 25 (0, 0)) := hf4.kept (blk_alloc _ H5c3.out) (fun h => by have := Hvn.out _ h; omega)
          have hfr : w4.frozen? ⟨p5, 1, none⟩ = false := two_free H5c4 1
          obtain ⟨c0'', c1''⟩ : w4.cell? ⟨p5, 0, none⟩ = some (.int .u64 (n : Int)) ∧ w4.cell? ⟨p5, 1, none⟩ = some hv := ⟨two_cell0 H5c4, two_cell1 H5c4⟩
          have Ho4 : Hid (OwnV w4 (.slice ao4 l4 cp4) (out ++ [(s, (f1, f2), E)])) := ho4
          have Hf4 : Hid (Fr x3 w4 (fun k => hv.ownBlock = some k)) := ((Fr.refl x3 (fun k => hv.ownBlock = some k)).alloc _).trans hf4 (fun _ _ h => h)
          have Hm4 : Hid _ := hm4
          have H5d : Hid _ := H5c4
          have Hov3 : Hid _ := hov3
          clear ho4 hf4 hm4 H5c4 hov3
          go_wp2_with (at_builtin; refine wpList_append_run rfl (.tmp 98) (.tmp 100) 23 rfl rfl rfl hrun4 ?_)
          have Hfr4 : Hid (Fr wr w4 (fun k => hv.ownBlock = some k)) := (Hx3.out.mono (fun _ _ h => h.elim)).trans Hf4.out (fun _ _ h => h)
          have Hfin : Hid (Fr wc (w4.setCell ⟨p5, 1, none⟩ (.slice ao4 l4 cp4)) (fun k => k = p5)) := by
            have h1 : Fr wc w4 (fun k => k = p5) := Fr.newer Hf2.out Hfr4.out (fun i hi => Hvc.out i hi)
            exact h1.trans (fr_cell w4 _ _ _) (fun _ _ h => h)
          have H5e : Hid ((w4.setCell ⟨p5, 1, none⟩ (.slice ao4 l4 cp4)).heap[p5]? = some (.cells #[.int .u64 (n : Int), .slice ao4 l4 cp4] 25 (0, 0))) := two_set1 H5d.out
          have Ho5 : Hid (OwnV (w4.setCell ⟨p5, 1, none⟩ (.slice ao4 l4 cp4)) (.slice ao4 l4 cp4) (out ++ [(s, (f1, f2), E)])) := Ho4.out.frame (fr_cell w4 _ _ _) (fun k hk h => by
            rcases Hm4.out k hk with h2 | h2
            · have := Hvn.out k h2; omega
            · have := lt_of_block H5c3.out; omega)
          have Hvn5 : Hid (∀ k, (Value.slice ao4 l4 cp4).ownBlock = some k → wc.heap.size ≤ k) := fun k hk => by
            rcases Hm4.out k hk with h2 | h2
            · exact Hvc.out k h2
            · have h3 := Hf2.out.size; have h4 := Hx3.out.size; omega
          have Hr5 : Hid (RdE (w4.setCell ⟨p5, 1, none⟩ (.slice ao4 l4 cp4)) v3 (T2.getD [])) := by
            have hx2s := Hx2.out.size
            have h1 : RdE w4 v3 (T2.getD []) := RdE.frame Hr3.out Hf4.out (fun _ k hk h => by have h1 := Hn3.out k hk; have h2 := Hov3.out k h; omega)
            exact RdE.frame h1 (fr_cell w4 _ _ _) (fun _ k hk h => by have h1 := Hn3.out k hk; have h2 := Hw5r.out; omega)
          have Hnn5 : Hid (∀ k, v3.ownBlock = some k → p5 < k) := fun k hk => by have h1 := Hn3.out k hk; have h2 := Hw5r.out; have h3 := Hx2.out.size; omega
          have Hst5 : Hid ((out ++ [(s, (f1, f2), E)]) ++ secondF (T2.getD []) (TS.drop (j + 1)) = RES) := by show _ = _; rw [← Hst4.out]; simp
          have Hol5 : Hid ((out ++ [(s, (f1, f2), E)]).length = j + 1) := by show _ = _; rw [List.length_append, Hol.out]; rfl
          have Hnl5 : Hid ((T2.getD []).length ≤ j + 1) := by
            show _ ≤ _
            cases hT : T2 with
            | none => simp
            | some z => have h1 := turn_length (HT2.out.symm.trans hT); have h2 := Hnl.out; rw [Option.getD_some]; omega
          generalize w4.setCell ⟨p5, 1, none⟩ (.slice ao4 l4 cp4) = w9 at Hfin H5e Ho5 Hr5 ⊢
          go_wp2_with fail
          go_roundg (q - (j + 1))
          case rel => exact ⟨j + 1, T2.getD [], _, _, rfl, by omega, by go_num, Hr5.out, Hnl5.out, Hnn5.out, Hst5.out, Hol5.out, H5e.out, Ho5.out, Hvn5.out, Hfin.out⟩
          case measure => rw [Hg.out]; omega
        · have hin : ¬ (j : Int) < (q : Int) := by omega
          have hin' : decide (j < q) = false := decide_eq_false hlt
          obtain rfl : j = q := by omega
          obtain ⟨ao, cp, rfl⟩ : ∃ a c, hv = .slice a j c := by obtain ⟨a, c, e, -⟩ := Hov.out.rd.form; rw [Hol.out] at e; exact ⟨a, c, e⟩
          have Hout : Hid (out = RES) := by
            show _ = _
            have := Hst2.out
            rw [List.drop_eq_nil_of_le (by rw [← Hq.out]; exact Nat.le_refl _), secondF, List.append_nil] at this
            exact this
          have H4r : Hid (wr.heap[p4]? = some (.cells #[.int .u64 0, .slice none 0 0] 25 (0, 0))) := Hb4.out wr ((Hf.out.mono (fun _ _ h => h.elim)).trans Hf2.out (fun _ _ h => h))
          obtain ⟨c0', c1'⟩ : wr.cell? ⟨p5, 0, none⟩ = some (.int .u64 (n : Int)) ∧ wr.cell? ⟨p5, 1, none⟩ = some (.slice ao j cp) := ⟨two_cell0 H5.out, two_cell1 H5.out⟩
          obtain ⟨e0', e1'⟩ : wr.cell? ⟨p4, 0, none⟩ = some (.int .u64 0) ∧ wr.cell? ⟨p4, 1, none⟩ = some (.slice none 0 0) := ⟨two_cell0 H4r.out, two_cell1 H4r.out⟩
          have f0' : wr.frozen? ⟨p4, 0, none⟩ = false := two_free H4r.out 0
          have f1' : wr.frozen? ⟨p4, 1, none⟩ = false := two_free H4r.out 1
          have Hfin : Hid (Fr w ((wr.setCell ⟨p4, 0, none⟩ (.int .u64 (n : Int))).setCell ⟨p4, 1, none⟩ (.slice ao j cp)) (fun _ => False)) := by
            have h1 : Fr w wr (fun _ => False) := (Hw5.out.none Hf.out).newer Hf2.out (fun i hi => by have h2 := Hw4.out; have h3 := H45.out; omega)
            exact h1.newer ((fr_cell wr _ _ _).trans (fr_cell _ _ _ _) (fun _ _ h => h)) (fun i hi => by have h2 := Hw4.out; omega)
          have Hof : Hid (OwnV ((wr.setCell ⟨p4, 0, none⟩ (.int .u64 (n : Int))).setCell ⟨p4, 1, none⟩ (.slice ao j cp)) (.slice ao j cp) RES) := by
            have h1 : OwnV wr (.slice ao j cp) RES := by rw [← Hout.out]; exact Hov.out
            exact h1.frame ((fr_cell wr _ _ _).trans (fr_cell _ _ _ _) (fun _ _ h => h)) (fun i hi h => by have h2 := Hvn.out i hi; have h3 := H45.out; omega)
          have Hfresh : Hid (∀ b, (Value.slice ao j cp).ownBlock = some b → w.heap.size ≤ b) := fun b hb => by have h1 := Hvn.out b hb; have h2 := Hw4.out; have h3 := H45.out; omega
          have Hrow : Hid _ := two_set1 (two_set0 H4r.out (u := .int .u64 (n : Int))) (u := .slice ao j cp)
          go_wp2
          refine bodyPost_ret (results_cell1 rfl rfl (run_loadVar_row _ _ 25 _ _ (0, 0) _ Hrow.out Tryz.underlying25 rfl histSize)) rfl ?_
          exact ⟨⟨_, rfl, Hof.out.rd, Hfresh.out⟩, Hfin.out⟩

end Go.Proofs.YtnffjafddbbjaaaGreatDoor

/-
  A slice of edges, an event that came in: they can be read.
-/
namespace Go.Proofs.YtnffjafddbbjaaaGreatDoor
open Go.RowKit Go.ChangeShapes Go.WideShapes

/-- It can be read: edges side by side. -/
def IsEdges (w : World) (a : Option Addr) (len cap : Nat) : Prop :=
  ∃ es : List (Nat × Nat), es.length = len ∧ RdE w (.slice a len cap) es ∧ (∀ e ∈ es, e.1 < 4294967296 ∧ e.2 < 4294967296)

theorem cellsEdge : Tryz.prog.cellsOf 58 = 2 := by kernel_rfl
theorem cellsEvent : Tryz.prog.cellsOf 60 = 4 := by kernel_rfl
theorem cellsU32 : Tryz.prog.cellsOf 56 = 1 := by kernel_rfl
theorem cellsI64 : Tryz.prog.cellsOf 2 = 1 := by kernel_rfl
theorem cellsBool : Tryz.prog.cellsOf 4 = 1 := by kernel_rfl

theorem u32_nat {z : Int} (h : (Lit.int .u32 z).wf = true) : ∃ n : Nat, z = (n : Int) ∧ n < 4294967296 := ⟨z.toNat, by have := bounds_u32 h; omega⟩

set_option maxRecDepth 4000 in
theorem isEdges_open {H : Type} {enc : TypeId × Value → H} {W : World} {fuel : Nat} {a : Option Addr} {len cap : Nat} {x : DataW H × List MemPlace} (h : DataW.trod enc Tryz.prog W 0 (fun _ => true) true fuel 66 [.slice a len cap] = some x) : IsEdges W a len cap := by
  rcases Go.Deep.open_slice_pairs Tryz.underlying66 Tryz.underlying58 cellsEdge rfl rfl cellsU32 cellsU32 h with ⟨e, -⟩ | ⟨a', len', cap', m, n, V0, V1, D0, D1, P0, P1, e, -, hl, -, hm, -, hr⟩
  · simp only [List.cons.injEq, Value.slice.injEq, and_true] at e
    obtain ⟨rfl, rfl, rfl⟩ := e
    exact ⟨[], rfl, ⟨rfl, none, 0, rfl, Nat.le_refl _, fun h => by simp at h⟩, by simp⟩
  · simp only [List.cons.injEq, Value.slice.injEq, and_true] at e
    obtain ⟨rfl, rfl, rfl⟩ := e
    rw [if_pos rfl] at hm
    have each : ∀ i, i < len → ∃ p : Nat × Nat, W.cell? (a'.add (i * 2)) = some (.int .u32 (p.1 : Int)) ∧ W.cell? (a'.add (i * 2 + 1)) = some (.int .u32 (p.2 : Int)) ∧ p.1 < 4294967296 ∧ p.2 < 4294967296 := fun i hi => by
      obtain ⟨h0, h1, t0, t1⟩ := hr i (by omega)
      obtain ⟨z0, e0, -, g0⟩ := DataW.trod_int Tryz.underlying56 t0
      obtain ⟨z1, e1, -, g1⟩ := DataW.trod_int Tryz.underlying56 t1
      obtain ⟨n0, rfl, b0⟩ := u32_nat g0
      obtain ⟨n1, rfl, b1⟩ := u32_nat g1
      simp only [List.cons.injEq, and_true] at e0 e1
      exact ⟨(n0, n1), by rw [h0, e0], by rw [h1, e1], b0, b1⟩
    obtain ⟨f, hf⟩ : ∃ f : Nat → Nat × Nat, ∀ i, i < len → W.cell? (a'.add (i * 2)) = some (.int .u32 ((f i).1 : Int)) ∧ W.cell? (a'.add (i * 2 + 1)) = some (.int .u32 ((f i).2 : Int)) ∧ (f i).1 < 4294967296 ∧ (f i).2 < 4294967296 := by
      refine ⟨fun r => if h : r < len then (each r h).choose else (0, 0), fun r hrl => ?_⟩
      simp only [hrl, dif_pos]
      exact (each r hrl).choose_spec
    have hel : ((List.range len).map f).length = len := by simp
    have hget : ∀ i, i < len → ((List.range len).map f)[i]? = some (f i) := fun i hi => by simp [hi]
    refine ⟨(List.range len).map f, hel, ⟨erow_length _, some a', cap, by rw [hel], by rw [hel]; exact hl, fun hp => ?_⟩, fun e he => ?_⟩
    · have h0 : 0 < len := by rw [hel] at hp; exact hp
      obtain ⟨b, off, rfl⟩ := spot_none (hf 0 h0).1
      refine ⟨b, off, rfl, fun j u hj => ?_⟩
      have hjl : j < len * 2 := by
        have := (List.getElem?_eq_some_iff.1 hj).1
        rw [erow_length, hel] at this
        exact this
      obtain ⟨i, hi⟩ : ∃ i, j = i * 2 ∨ j = i * 2 + 1 := ⟨j / 2, by omega⟩
      have hil : i < len := by omega
      obtain ⟨g0, g1⟩ := erow_get _ i _ (hget i hil)
      obtain ⟨c0, c1, -⟩ := hf i hil
      rw [add_none] at c0 c1
      rcases hi with rfl | rfl
      · rw [g0] at hj
        simp only [Option.some.injEq] at hj
        rw [c0, hj]
      · rw [g1] at hj
        simp only [Option.some.injEq] at hj
        rw [c1, hj]
    · obtain ⟨r, hrl, rfl⟩ := List.mem_map.1 he
      exact (hf r (List.mem_range.1 hrl)).2.2

set_option maxRecDepth 4000 in
theorem event_open {H : Type} {enc : TypeId × Value → H} {W : World} {r : Reach} {b0 base : Nat} {spare : Nat → Bool} {held : Bool} {v : Value} {d : DataW H} {p : List MemPlace} (hv : Value.okWide Tryz.prog W r b0 60 v) (h : DataW.Trod enc Tryz.prog W base spare held 60 v d p) :
    ∃ (t : Int) (u y : Nat) (b : Bool), v = eventV t (u, y) b ∧ (Lit.int .i64 t).wf = true ∧ u < 4294967296 ∧ y < 4294967296 := by
  obtain ⟨cs, rfl, hsz⟩ := okWide_struct Tryz.underlying60 hv
  obtain ⟨c0, c1, c2, c3, rfl⟩ := Go.Joins.array4 (hsz.trans cellsEvent)
  obtain ⟨fuel, hf⟩ := h
  obtain ⟨y0, y1, y2, n, -, -, h0, h1, h2⟩ := Go.Deep.trod_struct3 Tryz.underlying60 hf
  simp only [cellsEdge, cellsI64, cellsBool, Value.cells] at h0 h1 h2
  obtain ⟨t, e0, -, w0⟩ := DataW.trod_int Tryz.underlying2 h0
  obtain ⟨z0, z1, m, -, -, g0, g1⟩ := trod_struct2 Tryz.underlying58 h1
  simp only [cellsU32] at g0 g1
  obtain ⟨x0, e1, -, w1⟩ := DataW.trod_int Tryz.underlying56 g0
  obtain ⟨x1, e2, -, w2⟩ := DataW.trod_int Tryz.underlying56 g1
  obtain ⟨b, e3, -⟩ := DataW.trod_bool Tryz.underlying4 h2
  obtain ⟨n0, rfl, b0⟩ := u32_nat w1
  obtain ⟨n1, rfl, b1⟩ := u32_nat w2
  simp at e0 e1 e2 e3
  subst e0 e1 e2 e3
  exact ⟨t, n0, n1, b, rfl, w0, b0, b1⟩

end Go.Proofs.YtnffjafddbbjaaaGreatDoor

/-
  Events, a history that came in: they can be read.
-/
namespace Go.Proofs.YtnffjafddbbjaaaGreatDoor
open Go.RowKit Go.ChangeShapes Go.WideShapes

def IsEvents (w : World) (a : Option Addr) (len cap : Nat) : Prop :=
  ∃ es : List Ev, es.length = len ∧ RdV w (.slice a len cap) es ∧ (∀ x ∈ es, EvFit x)

set_option maxRecDepth 4000 in
theorem ev_of_trod {H : Type} {enc : TypeId × Value → H} {W : World} {b0 : Nat} {spare : Nat → Bool} {held : Bool} {fuel : Nat} {cs : List Value} {x : DataW H × List MemPlace} (hl : cs.length = 4) (h : DataW.trod enc Tryz.prog W b0 spare held fuel 60 cs = some x) :
    ∃ y : Ev, cs = encV y ∧ EvFit y := by
  obtain ⟨y0, y1, y2, n, -, -, h0, h1, h2⟩ := Go.Deep.trod_struct3 Tryz.underlying60 h
  match cs, hl with
  | [c0, c1, c2, c3], _ =>
    simp only [cellsEdge, cellsI64, cellsBool] at h0 h1 h2
    obtain ⟨t, e0, -, w0⟩ := DataW.trod_int Tryz.underlying2 h0
    obtain ⟨z0, z1, m, -, -, g0, g1⟩ := trod_struct2 Tryz.underlying58 h1
    simp only [cellsU32] at g0 g1
    obtain ⟨x0, e1, -, w1⟩ := DataW.trod_int Tryz.underlying56 g0
    obtain ⟨x1, e2, -, w2⟩ := DataW.trod_int Tryz.underlying56 g1
    obtain ⟨b, e3, -⟩ := DataW.trod_bool Tryz.underlying4 h2
    obtain ⟨n0, rfl, b0⟩ := u32_nat w1
    obtain ⟨n1, rfl, b1⟩ := u32_nat w2
    simp at e0 e1 e2 e3
    subst e0 e1 e2 e3
    have ht := bounds_i64 w0
    exact ⟨(t, (n0, n1), b), rfl, by omega, b0, b1⟩

set_option maxRecDepth 4000 in
theorem isEvents_open {H : Type} {enc : TypeId × Value → H} {W : World} {b0 : Nat} {sp : Nat → Bool} {held : Bool} {fuel : Nat} {a : Option Addr} {len cap : Nat} {x : DataW H × List MemPlace} (h : DataW.trod enc Tryz.prog W b0 sp held fuel 23 [.slice a len cap] = some x) : IsEvents W a len cap := by
  rcases Go.Deep.open_slice Tryz.underlying23 h with ⟨e, -⟩ | ⟨a', len', cap', m, n, D, Pl, e, hb, hl, hcm, hm, -, hr⟩
  · simp only [List.cons.injEq, Value.slice.injEq, and_true] at e
    obtain ⟨rfl, rfl, rfl⟩ := e
    exact ⟨[], rfl, RdV.nil W, by simp⟩
  · simp only [List.cons.injEq, Value.slice.injEq, and_true] at e
    obtain ⟨rfl, rfl, rfl⟩ := e
    have hlm : len ≤ m := by rw [hm]; split <;> omega
    have each : ∀ i, i < len → ∃ y : Ev, (∀ j, j < 4 → W.cell? (a'.add (i * 4 + j)) = (encV y)[j]?) ∧ EvFit y := fun i hi => by
      obtain ⟨cs', h1, h2⟩ := hr i (by omega)
      rw [cellsEvent] at h1
      obtain ⟨-, hlen, hcell⟩ := World.cells?_some h1
      obtain ⟨y, rfl, hy⟩ := ev_of_trod hlen h2
      refine ⟨y, fun j hj => ?_, hy⟩
      have := hcell j hj
      rwa [Go.Deep.add_add] at this
    obtain ⟨f, hf⟩ : ∃ f : Nat → Ev, ∀ i, i < len → (∀ j, j < 4 → W.cell? (a'.add (i * 4 + j)) = (encV (f i))[j]?) ∧ EvFit (f i) := by
      refine ⟨fun r => if h : r < len then (each r h).choose else (0, (0, 0), false), fun r hrl => ?_⟩
      simp only [hrl, dif_pos]
      exact (each r hrl).choose_spec
    have hel : ((List.range len).map f).length = len := by simp
    have hget : ∀ i, i < len → ((List.range len).map f)[i]? = some (f i) := fun i hi => by simp [hi]
    refine ⟨(List.range len).map f, hel, ⟨vrow_length _, some a', cap, by rw [hel], by rw [hel]; exact hl, fun hp => ?_⟩, fun y hy => ?_⟩
    · have h0 : 0 < len := by rw [hel] at hp; exact hp
      have hc0 : W.cell? (a'.add 0) = some (.int .i64 (f 0).1) := (hf 0 h0).1 0 (by omega)
      obtain ⟨b, off, rfl⟩ := spot_none hc0
      refine ⟨b, off, rfl, fun j u hj => ?_⟩
      have hjl : j < len * 4 := by
        have := (List.getElem?_eq_some_iff.1 hj).1
        rw [vrow_length, hel] at this
        exact this
      obtain ⟨i, r, hr4, rfl⟩ : ∃ i r, r < 4 ∧ j = i * 4 + r := ⟨j / 4, j % 4, Nat.mod_lt _ (by omega), by omega⟩
      have hil : i < len := by omega
      obtain ⟨g0, g1, g2, g3⟩ := vrow_get _ i _ (hget i hil)
      have hc := (hf i hil).1 r hr4
      rw [add_none] at hc
      rw [hc]
      match r, hr4 with
      | 0, _ => rw [Nat.add_zero, g0] at hj; exact hj
      | 1, _ => rw [g1] at hj; exact hj
      | 2, _ => rw [g2] at hj; exact hj
      | 3, _ => rw [g3] at hj; exact hj
    · obtain ⟨r, hrl, rfl⟩ := List.mem_map.1 hy
      exact (hf r (List.mem_range.1 hrl)).2

theorem cellsU64 : Tryz.prog.cellsOf 22 = 1 := by kernel_rfl
theorem cellsEvs : Tryz.prog.cellsOf 23 = 1 := by kernel_rfl
theorem cellsHist : Tryz.prog.cellsOf 25 = 2 := by kernel_rfl
theorem u64_nat {z : Int} (h : (Lit.int .u64 z).wf = true) : ∃ n : Nat, z = (n : Int) ∧ n < 18446744073709551616 := ⟨z.toNat, by have := bounds_u64 h; omega⟩
set_option maxRecDepth 4000 in
/-- A history that came in. -/
theorem hist_open {H : Type} {enc : TypeId × Value → H} {W : World} {r : Reach} {b0 base : Nat} {spare : Nat → Bool} {held : Bool} {v : Value} {d : DataW H} {p : List MemPlace} (hv : Value.okWide Tryz.prog W r b0 25 v) (h : DataW.Trod enc Tryz.prog W base spare held 25 v d p) :
    ∃ (n : Nat) (a : Option Addr) (len cap : Nat), v = histV n (.slice a len cap) ∧ n < 18446744073709551616 ∧ IsEvents W a len cap := by
  obtain ⟨cs, rfl, hsz⟩ := okWide_struct Tryz.underlying25 hv
  rw [cellsHist] at hsz
  obtain ⟨c0, c1, rfl⟩ : ∃ c0 c1, cs = #[c0, c1] := by
    obtain ⟨l⟩ := cs
    match l, hsz with
    | [c0, c1], _ => exact ⟨c0, c1, rfl⟩
  obtain ⟨fuel, hf⟩ := h
  obtain ⟨y0, y1, n, -, -, h0, h1⟩ := trod_struct2 Tryz.underlying25 hf
  simp only [cellsU64, cellsEvs, Value.cells] at h0 h1
  obtain ⟨z, e0, -, w0⟩ := DataW.trod_int Tryz.underlying22 h0
  obtain ⟨n0, rfl, b0⟩ := u64_nat w0
  simp at e0 h1
  subst e0
  obtain ⟨a, len, cap, rfl⟩ : ∃ a len cap, c1 = .slice a len cap := by
    rcases Go.Deep.open_slice Tryz.underlying23 h1 with ⟨e, -⟩ | ⟨a', len', cap', m, n, D, Pl, e, -⟩
    · simp at e; exact ⟨none, 0, 0, e⟩
    · simp at e; exact ⟨some a', len', cap', e⟩
  exact ⟨n0, a, len, cap, rfl, b0, isEvents_open h1⟩

end Go.Proofs.YtnffjafddbbjaaaGreatDoor

/-
  The contract of the seat's Late.
-/
namespace Go.Proofs.YtnffjafddbbjaaaGreatDoor
open Go.RowKit

/-- The same, as late as may be. -/
def lateF (evs : List Ev) : List Ev := match evs.getLast? with
  | none => []
  | some y => evs.map fun x => (x.1 + (4611686018427387903 - y.1), x.2.1, x.2.2)
theorem lateF_length (evs : List Ev) : (lateF evs).length = evs.length := by
  unfold lateF
  cases h : evs.getLast? with
  | none => rw [List.getLast?_eq_none_iff.1 h]
  | some y => simp

set_option maxRecDepth 4000 in
set_option maxHeartbeats 1600000 in
theorem seatLate_any (n : Nat) (v : Value) (evs : List Ev) (w : World) (h : RdV w v evs) (hl : evs.length ≤ 1000000) (hb : ∀ x ∈ evs, 0 ≤ x.1 ∧ x.1 ≤ 4611686018427387903) : Calls Tryz.prog 10 #[histV n v] w fun r w' => (∃ v', r = .returned (histV n v') ∧ RdV w' v' (lateF evs)) ∧ Fr w w' (fun _ => False) := by
  obtain ⟨a0, c0, rfl, hc0⟩ := h.form
  obtain ⟨m, hm⟩ : ∃ m, m = evs.length := ⟨_, rfl⟩
  rw [← hm] at h hl hc0 ⊢
  obtain ⟨RES, hRES⟩ : ∃ R, R = lateF evs := ⟨_, rfl⟩
  rw [← hRES]
  have HRES : Hid _ := hRES
  have Hr : Hid (RdV w (.slice a0 m c0) evs) := h
  have Hm : Hid _ := hm
  have Hb : Hid _ := hb
  clear h hm hRES hb
  unfold histV
  go_enter Tryz.func10, Tryz.ntmps10
  go_upto_region 1 with fail
  obtain ⟨p1, hp1⟩ : ∃ p, p = w.heap.size := ⟨_, rfl⟩
  obtain ⟨p2, hp2⟩ : ∃ p, p = p1 + 1 := ⟨_, rfl⟩
  obtain ⟨wa, hwa⟩ : ∃ wa, wa = (w.alloc (.cells #[.int .u64 (n : Int), .slice a0 m c0] 25)).alloc (.cells #[.int .u64 0, .slice none 0 0] 25) := ⟨_, rfl⟩
  rw [← hwa, ← hp1, ← hp2]
  have Hb1 : Hid (wa.heap[p1]? = some (.cells #[.int .u64 (n : Int), .slice a0 m c0] 25 (0, 0))) := by show _ = _; rw [hwa, hp1]; exact blk_alloc _ (heap_alloc_new _ _)
  have Hb2 : Hid (wa.heap[p2]? = some (.cells #[.int .u64 0, .slice none 0 0] 25 (0, 0))) := by
    show _ = _
    have := heap_alloc_new (w.alloc (.cells #[.int .u64 (n : Int), .slice a0 m c0] 25)) (.cells #[.int .u64 0, .slice none 0 0] 25)
    rw [hwa, hp2, hp1]
    simpa using this
  have Hwa : Hid (Fr w wa (fun _ => False)) := by show Fr _ _ _; rw [hwa]; exact ((Fr.refl _ _).alloc _).alloc _
  have Hp1 : Hid (w.heap.size ≤ p1) := by show _ ≤ _; omega
  have Hp2 : Hid (p1 < p2) := by show _ < _; omega
  clear hp1 hp2 hwa
  obtain ⟨ca, cb⟩ : wa.cell? ⟨p1, 0, none⟩ = some (.int .u64 (n : Int)) ∧ wa.cell? ⟨p1, 1, none⟩ = some (.slice a0 m c0) := ⟨two_cell0 Hb1.out, two_cell1 Hb1.out⟩
  by_cases h0 : m = 0
  · subst h0
    obtain ⟨e0', e1'⟩ : wa.cell? ⟨p2, 0, none⟩ = some (.int .u64 0) ∧ wa.cell? ⟨p2, 1, none⟩ = some (.slice none 0 0) := ⟨two_cell0 Hb2.out, two_cell1 Hb2.out⟩
    have f0' : wa.frozen? ⟨p2, 0, none⟩ = false := two_free Hb2.out 0
    have f1' : wa.frozen? ⟨p2, 1, none⟩ = false := two_free Hb2.out 1
    have he : evs = [] := List.eq_nil_of_length_eq_zero Hm.out.symm
    have Hres : Hid (RES = []) := by show _ = _; rw [HRES.out, he]; rfl
    have Hfin : Hid (Fr w ((wa.setCell ⟨p2, 0, none⟩ (.int .u64 (n : Int))).setCell ⟨p2, 1, none⟩ (.slice a0 0 c0)) (fun _ => False)) := Hwa.out.newer ((fr_cell wa _ _ _).trans (fr_cell _ _ _ _) (fun _ _ h => h)) (fun i hi => by have h1 := Hp1.out; have h2 := Hp2.out; omega)
    have Hrow : Hid _ := two_set1 (two_set0 Hb2.out (u := .int .u64 (n : Int))) (u := .slice a0 0 c0)
    have Hro : Hid (RdV ((wa.setCell ⟨p2, 0, none⟩ (.int .u64 (n : Int))).setCell ⟨p2, 1, none⟩ (.slice a0 0 c0)) (.slice a0 0 c0) RES) := by
      show RdV _ _ _
      rw [Hres.out, ← he]
      exact Hr.out.keep Hfin.out
    clear he
    go_wp2
    refine bodyPost_ret (results_cell1 rfl rfl (run_loadVar_row _ _ 25 _ _ (0, 0) _ Hrow.out Tryz.underlying25 rfl histSize)) rfl ?_
    exact ⟨⟨_, rfl, Hro.out⟩, Hfin.out⟩
  · have d1 : ((m : Int) == 0) = false := by rw [beq_eq_false_iff_ne]; omega
    have d1' : (m == 0) = false := by rw [beq_eq_false_iff_ne]; exact h0
    obtain ⟨m1, hm1⟩ : ∃ k, m = k + 1 := ⟨m - 1, by omega⟩
    have hsub : IntKind.i64.wrap ((m : Int) - 1) = (m1 : Int) := by rw [IntWalk.i64_in _ (by omega)]; omega
    have hsub' : (m : Int) - 1 = (m1 : Int) := by omega
    have hm1m : (m1 : Int) < (m : Int) := by omega
    have hm10 : (0 : Int) ≤ (m1 : Int) := by omega
    obtain ⟨⟨y, ⟨y1, y2⟩, yb⟩, hy⟩ : ∃ a, evs[m1]? = some a := ⟨_, List.getElem?_eq_getElem (by rw [← Hm.out]; omega)⟩
    have hyb := Hb.out _ (List.mem_of_getElem? hy)
    have hlast : evs.getLast? = some (y, (y1, y2), yb) := by rw [List.getLast?_eq_getElem?, ← Hm.out, hm1]; exact hy
    obtain ⟨d, hd⟩ : ∃ d, d = 4611686018427387903 - y := ⟨_, rfl⟩
    have hdb : 0 ≤ d ∧ d ≤ 4611686018427387903 := by rw [hd]; dsimp only at hyb; omega
    have HR2 : Hid (RES = evs.map fun x => (x.1 + d, x.2.1, x.2.2)) := by show _ = _; rw [HRES.out, hd]; unfold lateF; rw [hlast]
    have wd : IntKind.i64.wrap (4611686018427387903 - y) = d := by rw [← hd]; exact IntWalk.i64_in _ (by omega)
    have wd2 : 4611686018427387903 - y = d := hd.symm
    obtain ⟨bk, off, cap, e3, hbk, hca⟩ := Hr.out.get m1 _ hy
    simp only [Value.slice.injEq] at e3
    obtain ⟨rfl, -, rfl⟩ := e3
    have k0 := (hca wa (Hwa.out.mono (fun _ _ h => h.elim))).1
    have Hdb : Hid _ := hdb
    clear hm1 hy hyb hlast hd hdb hca hbk HRES wd2 hsub' h0
    go_upto_region 6 with fail
    clear k0
    obtain ⟨p5, hp5⟩ : ∃ p, p = wa.heap.size := ⟨_, rfl⟩
    obtain ⟨w5, hw5⟩ : ∃ x, x = wa.alloc (.cells #[.int .u64 (n : Int), .slice none 0 0] 25) := ⟨_, rfl⟩
    rw [← hw5, ← hp5]
    have H5 : Hid (w5.heap[p5]? = some (.cells #[.int .u64 (n : Int), .slice none 0 0] 25 (0, 0))) := by show _ = _; rw [hw5, hp5]; exact heap_alloc_new _ _
    have Hw5 : Hid (Fr w w5 (fun _ => False)) := by show Fr _ _ _; rw [hw5]; exact Hwa.out.alloc _
    have Hp5 : Hid (p2 < p5) := by show _ < _; rw [hp5]; exact lt_of_block Hb2.out
    have Hb1 : Hid (∀ z, Fr w5 z (fun k => k = p5) → z.heap[p1]? = some (.cells #[.int .u64 (n : Int), .slice (some ⟨bk, off, none⟩) m c0] 25 (0, 0))) := fun z hz => hz.kept (by rw [hw5]; exact blk_alloc _ Hb1.out) (fun h => by have h1 := Hp2.out; have h2 := Hp5.out; omega)
    have Hb2 : Hid (∀ z, Fr w5 z (fun k => k = p5) → z.heap[p2]? = some (.cells #[.int .u64 0, .slice none 0 0] 25 (0, 0))) := fun z hz => hz.kept (by rw [hw5]; exact blk_alloc _ Hb2.out) (fun h => by have h2 := Hp5.out; omega)
    have H5w : Hid (p5 < w5.heap.size) := lt_of_block H5.out
    clear hp5 hw5 ca cb
    go_wp2_with fail
    go_loopg [6] m (fun g I wr => ∃ (j : Nat) (hv : Value), g = m - j ∧ j ≤ m ∧ I = .int .i64 (j : Int) ∧ wr.heap[p5]? = some (.cells #[.int .u64 (n : Int), hv] 25 (0, 0)) ∧ OwnV wr hv (RES.take j) ∧ (∀ k, hv.ownBlock = some k → w5.heap.size ≤ k) ∧ Fr w5 wr (fun k => k = p5))
    case atStart => exact ⟨0, _, by omega, by omega, rfl, H5.out, OwnV.nil _, fun k hk => (by simp [Value.ownBlock] at hk), Fr.refl _ _⟩
    case round =>
      obtain ⟨j, hv, hg, hj, rfl, hp5, hov, hvn, hf⟩ := hrel
      have Hg : Hid _ := hg
      have H5r : Hid _ := hp5
      have Hov : Hid (OwnV wr hv (RES.take j)) := hov
      have Hvc : Hid (∀ k, hv.ownBlock = some k → w5.heap.size ≤ k) := hvn
      have Hvn : Hid (∀ k, hv.ownBlock = some k → p5 < k) := fun k hk => by have h1 := Hvc.out k hk; have h2 := H5w.out; omega
      have Hf2 : Hid (Fr w5 wr (fun k => k = p5)) := hf
      have Hfw : Hid (Fr w wr (fun _ => False)) := Hw5.out.newer hf (fun i hi => by have h1 := Hp1.out; have h2 := Hp2.out; have h3 := Hp5.out; omega)
      clear hg hp5 hov hvn hf
      have Hlen : Hid ((RES.take j).length = j) := by show _ = _; rw [List.length_take, HR2.out, List.length_map, ← Hm.out]; omega
      by_cases hlt : j < m
      · have hin : (j : Int) < (m : Int) := by omega
        have hin' : decide (j < m) = true := decide_eq_true hlt
        obtain ⟨⟨s, ⟨f1, f2⟩, ax⟩, ha⟩ : ∃ a, evs[j]? = some a := ⟨_, List.getElem?_eq_getElem (by rw [← Hm.out]; omega)⟩
        have hsb := Hb.out _ (List.mem_of_getElem? ha)
        obtain ⟨bk', off', cap', e4, hbk, hca⟩ := (Hr.out.keep Hfw.out).get j _ ha
        simp only [Value.slice.injEq, Option.some.injEq, Addr.mk.injEq] at e4
        obtain ⟨⟨rfl, rfl, -⟩, -, rfl⟩ := e4
        obtain ⟨k0, k1, k2, k3⟩ := hca wr (Fr.refl _ _)
        obtain ⟨ca, cb⟩ : wr.cell? ⟨p1, 0, none⟩ = some (.int .u64 (n : Int)) ∧ wr.cell? ⟨p1, 1, none⟩ = some (.slice (some ⟨bk, off, none⟩) m c0) := ⟨two_cell0 (Hb1.out wr Hf2.out), two_cell1 (Hb1.out wr Hf2.out)⟩
        have hj0 : (0 : Int) ≤ (j : Int) := by omega
        obtain ⟨s2, hs2⟩ : ∃ x, x = s + d := ⟨_, rfl⟩
        have Hst3 : Hid (RES.take (j + 1) = RES.take j ++ [(s2, (f1, f2), ax)]) := by
          show _ = _
          rw [List.take_add_one, HR2.out, List.getElem?_map, ha, hs2]
          rfl
        have wsd : IntKind.i64.wrap (s + d) = s2 := by rw [hs2]; have h1 := Hdb.out; dsimp only at hsb; exact IntWalk.i64_in _ (by omega)
        have wsd2 : wrap64 (s + d) = s2 := by rw [hs2]; have h1 := Hdb.out; dsimp only at hsb; exact IntWalk.wrap64_in _ (by omega)
        clear hca hbk ha hs2 hsb
        go_upto_region 10 with fail
        obtain ⟨p13, hp13⟩ : ∃ p, p = wr.heap.size := ⟨_, rfl⟩
        rw [← hp13]
        obtain ⟨wE, hwE⟩ : ∃ x, x = wr.alloc (.cells #[.int .i64 s, .int .u32 (f1 : Int), .int .u32 (f2 : Int), .bool ax] 60) := ⟨_, rfl⟩
        rw [← hwE]
        have HfE : Hid (Fr wr wE (fun _ => False)) := by show Fr _ _ _; rw [hwE]; exact (Fr.refl _ _).alloc _
        have H13 : Hid (wE.heap[p13]? = some (.cells #[.int .i64 s, .int .u32 (f1 : Int), .int .u32 (f2 : Int), .bool ax] 60 (0, 0))) := by show _ = _; rw [hwE, hp13]; exact heap_alloc_new _ _
        have Hp13 : Hid (wr.heap.size = p13) := hp13.symm
        clear k0 k1 k2 k3 ca cb hp13 hwE
        obtain ⟨k0, k1, k2, k3⟩ := four_cells H13.out
        have fz : wE.frozen? ⟨p13, 0, none⟩ = false := four_free H13.out
        go_upto_region 11 with fail
        have H13c := four_put0 H13.out (.int .i64 s2)
        have Hx2 : Hid (Fr wr (wE.setCell ⟨p13, 0, none⟩ (.int .i64 s2)) (fun _ => False)) := Fr.newer HfE.out (fr_cell wE _ _ _) (fun j h => by subst h; rw [← Hp13.out]; exact Nat.le_refl _)
        clear k0 k1 k2 k3 fz wsd wsd2
        generalize wE.setCell ⟨p13, 0, none⟩ (.int .i64 s2) = x3 at H13c Hx2 ⊢
        have H5c3 : Hid (x3.heap[p5]? = some (.cells #[.int .u64 (n : Int), hv] 25 (0, 0))) := Hx2.out.kept H5r.out (fun h => h)
        obtain ⟨k0, k1, k2, k3⟩ := four_cells H13c
        obtain ⟨c0', c1'⟩ : x3.cell? ⟨p5, 0, none⟩ = some (.int .u64 (n : Int)) ∧ x3.cell? ⟨p5, 1, none⟩ = some hv := ⟨two_cell0 H5c3.out, two_cell1 H5c3.out⟩
        obtain ⟨v4, w4, hrun4, ho4, hf4, hm4⟩ := app_event x3 hv (RES.take j) (s2, (f1, f2), ax) (Hov.out.frame Hx2.out (fun _ _ h => h)) (by rw [Hlen.out]; omega)
        obtain ⟨ao4, l4, cp4, rfl⟩ : ∃ a l c, v4 = .slice a l c := by obtain ⟨a, c, e, -⟩ := ho4.rd.form; exact ⟨a, _, c, e⟩
        have hov3 := Hov.out.lt
        have H5c4 : w4.heap[p5]? = some (.cells #[.int .u64 (n : Int), hv] 25 (0, 0)) := hf4.kept (blk_alloc _ H5c3.out) (fun h => by have := Hvn.out _ h; omega)
        have hfr : w4.frozen? ⟨p5, 1, none⟩ = false := two_free H5c4 1
        obtain ⟨c0'', c1''⟩ : w4.cell? ⟨p5, 0, none⟩ = some (.int .u64 (n : Int)) ∧ w4.cell? ⟨p5, 1, none⟩ = some hv := ⟨two_cell0 H5c4, two_cell1 H5c4⟩
        have Ho4 : Hid (OwnV w4 (.slice ao4 l4 cp4) (RES.take j ++ [(s2, (f1, f2), ax)])) := ho4
        have Hf4 : Hid (Fr x3 w4 (fun k => hv.ownBlock = some k)) := ((Fr.refl x3 (fun k => hv.ownBlock = some k)).alloc _).trans hf4 (fun _ _ h => h)
        have Hm4 : Hid _ := hm4
        have H5d : Hid _ := H5c4
        have Hov3 : Hid _ := hov3
        clear ho4 hf4 hm4 H5c4 hov3 H13c
        go_wp2_with (at_builtin; refine wpList_append_run rfl (.tmp 41) (.tmp 43) 23 rfl rfl rfl hrun4 ?_)
        have Hfr4 : Hid (Fr wr w4 (fun k => hv.ownBlock = some k)) := (Hx2.out.mono (fun _ _ h => h.elim)).trans Hf4.out (fun _ _ h => h)
        have Hfin : Hid (Fr w5 (w4.setCell ⟨p5, 1, none⟩ (.slice ao4 l4 cp4)) (fun k => k = p5)) := by
          have h1 : Fr w5 w4 (fun k => k = p5) := Fr.newer Hf2.out Hfr4.out (fun i hi => Hvc.out i hi)
          exact h1.trans (fr_cell w4 _ _ _) (fun _ _ h => h)
        have H5e : Hid ((w4.setCell ⟨p5, 1, none⟩ (.slice ao4 l4 cp4)).heap[p5]? = some (.cells #[.int .u64 (n : Int), .slice ao4 l4 cp4] 25 (0, 0))) := two_set1 H5d.out
        have Ho5 : Hid (OwnV (w4.setCell ⟨p5, 1, none⟩ (.slice ao4 l4 cp4)) (.slice ao4 l4 cp4) (RES.take (j + 1))) := by
          show OwnV _ _ _
          rw [Hst3.out]
          refine Ho4.out.frame (fr_cell w4 _ _ _) (fun k hk h => ?_)
          rcases Hm4.out k hk with h2 | h2
          · have := Hvn.out k h2; omega
          · have := lt_of_block H5c3.out; omega
        have Hvn5 : Hid (∀ k, (Value.slice ao4 l4 cp4).ownBlock = some k → w5.heap.size ≤ k) := fun k hk => by
          rcases Hm4.out k hk with h2 | h2
          · exact Hvc.out k h2
          · have h3 := Hf2.out.size; have h4 := Hx2.out.size; omega
        generalize w4.setCell ⟨p5, 1, none⟩ (.slice ao4 l4 cp4) = w9 at Hfin H5e Ho5 ⊢
        go_wp2_with fail
        go_roundg (m - (j + 1))
        case rel => exact ⟨j + 1, _, rfl, by omega, by go_num, H5e.out, Ho5.out, Hvn5.out, Hfin.out⟩
        case measure => rw [Hg.out]; omega
      · have hin : ¬ (j : Int) < (m : Int) := by omega
        have hin' : decide (j < m) = false := decide_eq_false hlt
        obtain rfl : j = m := by omega
        obtain ⟨ao, cp, rfl⟩ : ∃ a c, hv = .slice a j c := by obtain ⟨a, c, e, -⟩ := Hov.out.rd.form; rw [Hlen.out] at e; exact ⟨a, c, e⟩
        have Hall : Hid (RES.take j = RES) := by show _ = _; exact List.take_of_length_le (by rw [HR2.out, List.length_map, ← Hm.out]; exact Nat.le_refl _)
        have H4r : Hid (wr.heap[p2]? = some (.cells #[.int .u64 0, .slice none 0 0] 25 (0, 0))) := Hb2.out wr Hf2.out
        obtain ⟨c0', c1'⟩ : wr.cell? ⟨p5, 0, none⟩ = some (.int .u64 (n : Int)) ∧ wr.cell? ⟨p5, 1, none⟩ = some (.slice ao j cp) := ⟨two_cell0 H5r.out, two_cell1 H5r.out⟩
        obtain ⟨e0', e1'⟩ : wr.cell? ⟨p2, 0, none⟩ = some (.int .u64 0) ∧ wr.cell? ⟨p2, 1, none⟩ = some (.slice none 0 0) := ⟨two_cell0 H4r.out, two_cell1 H4r.out⟩
        have f0' : wr.frozen? ⟨p2, 0, none⟩ = false := two_free H4r.out 0
        have f1' : wr.frozen? ⟨p2, 1, none⟩ = false := two_free H4r.out 1
        have Hfin : Hid (Fr w ((wr.setCell ⟨p2, 0, none⟩ (.int .u64 (n : Int))).setCell ⟨p2, 1, none⟩ (.slice ao j cp)) (fun _ => False)) := Hfw.out.newer ((fr_cell wr _ _ _).trans (fr_cell _ _ _ _) (fun _ _ h => h)) (fun i hi => by have h2 := Hp1.out; have h3 := Hp2.out; omega)
        have Hof : Hid (OwnV ((wr.setCell ⟨p2, 0, none⟩ (.int .u64 (n : Int))).setCell ⟨p2, 1, none⟩ (.slice ao j cp)) (.slice ao j cp) RES) := by
          have h1 : OwnV wr (.slice ao j cp) RES := by rw [← Hall.out]; exact Hov.out
          exact h1.frame ((fr_cell wr _ _ _).trans (fr_cell _ _ _ _) (fun _ _ h => h)) (fun i hi h => by have h2 := Hvn.out i hi; have h3 := Hp5.out; omega)
        have Hrow : Hid _ := two_set1 (two_set0 H4r.out (u := .int .u64 (n : Int))) (u := .slice ao j cp)
        go_wp2
        refine bodyPost_ret (results_cell1 rfl rfl (run_loadVar_row _ _ 25 _ _ (0, 0) _ Hrow.out Tryz.underlying25 rfl histSize)) rfl ?_
        exact ⟨⟨_, rfl, Hof.out.rd⟩, Hfin.out⟩

end Go.Proofs.YtnffjafddbbjaaaGreatDoor

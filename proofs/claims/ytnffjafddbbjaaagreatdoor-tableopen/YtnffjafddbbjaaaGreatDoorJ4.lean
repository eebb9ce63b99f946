/-
  Texts of ours, joined: EPLess LPSmall EPOf EPRight LPWrong LPCheck LPTold.
-/
import Derived.Test.YtnffjafddbbjaaaGreatDoorJ2
import Derived.Test.YtnffjafddbbjaaaGreatDoorJ3
import Derived.Deep.CutRange
import Derived.Deep.LoopGhost
import Derived.Laws.ResultCell
import Derived.Laws.Rows

/-
  The contracts of edge's Less and Before.
-/
namespace Go.Proofs.YtnffjafddbbjaaaGreatDoor
open Go.RowKit

set_option maxRecDepth 4000 in
set_option maxHeartbeats 400000 in
theorem less_any (a b : Nat × Nat) (w : World) : Calls Tryz.prog 57 #[edgeV a, edgeV b] w fun e w' => e = .returned (.bool (eLess a b)) ∧ Fr w w' (fun _ => False) := by
  obtain ⟨a1, a2⟩ := a
  obtain ⟨b1, b2⟩ := b
  unfold edgeV
  dsimp only
  by_cases h2 : a1 = b1
  · subst h2
    have d2 : ((a1 : Int) != (a1 : Int)) = false := by simp
    have d2' : ((a1 : Int) == (a1 : Int)) = true := by simp
    obtain ⟨B, hB⟩ : ∃ B, B = eLess (a1, a2) (a1, b2) := ⟨_, rfl⟩
    have d3 : decide ((a2 : Int) < (b2 : Int)) = B := by
      rw [hB]
      unfold eLess
      exact decide_eq_decide.2 (by simp)
    have d3' : decide (a2 < b2) = B := by rw [← d3]; exact decide_eq_decide.2 (by omega)
    rw [← hB]
    clear hB
    go_enter Tryz.func57, Tryz.ntmps57
    go_wp2
    go_ret
    exact ⟨by first | rfl | rw [d3] | rw [d3'], ((Fr.refl w _).alloc _).alloc _⟩
  · have d2 : ((a1 : Int) != (b1 : Int)) = true := by rw [bne_iff_ne]; omega
    have d2' : ((a1 : Int) == (b1 : Int)) = false := by rw [beq_eq_false_iff_ne]; omega
    have d2n : (a1 == b1) = false := by rw [beq_eq_false_iff_ne]; exact h2
    obtain ⟨B, hB⟩ : ∃ B, B = eLess (a1, a2) (b1, b2) := ⟨_, rfl⟩
    have d3 : decide ((a1 : Int) < (b1 : Int)) = B := by
      rw [hB]
      unfold eLess
      exact decide_eq_decide.2 (by dsimp only; omega)
    have d3' : decide (a1 < b1) = B := by rw [← d3]; exact decide_eq_decide.2 (by omega)
    rw [← hB]
    clear hB
    go_enter Tryz.func57, Tryz.ntmps57
    go_wp2
    go_ret
    exact ⟨by first | rfl | rw [d3] | rw [d3'], ((Fr.refl w _).alloc _).alloc _⟩

set_option maxRecDepth 4000 in
set_option maxHeartbeats 800000 in
theorem before_any (s t : Int) (a b : Nat × Nat) (x y : Bool) (w : World) : Calls Tryz.prog 71 #[eventV s a x, eventV t b y] w fun e w' => e = .returned (.bool (eBefore s t a b)) ∧ Fr w w' (fun _ => False) := by
  unfold eventV
  by_cases h2 : s = t
  · have d2 : (s != t) = false := by simp [h2]
    have d2' : (s == t) = true := by simp [h2]
    have Hr : Hid (eBefore s t a b = eLess a b) := by
      show _ = _
      unfold eBefore
      cases h : eLess a b <;> simp [h2]
    clear h2
    rw [Hr.out]
    obtain ⟨L, hL⟩ : ∃ L, L = eLess a b := ⟨_, rfl⟩
    rw [← hL]
    have HL : Hid _ := hL
    clear hL
    go_enter Tryz.func71, Tryz.ntmps71
    go_wp2_with fail
    refine (less_any a b _).mono ?_
    rw [← HL.out]
    rintro e w1 ⟨rfl, hf1⟩
    have Hf1 : Hid (Fr w w1 (fun _ => False)) := (((Fr.refl w (fun _ => False)).alloc _).alloc _).none hf1
    clear hf1 Hr HL
    go_wp2
    go_ret
    exact ⟨rfl, Hf1.out⟩
  · have d2 : (s != t) = true := by rw [bne_iff_ne]; exact h2
    have d2' : (s == t) = false := by rw [beq_eq_false_iff_ne]; exact h2
    have Hr : Hid (eBefore s t a b = decide (s < t)) := by
      show _ = _
      unfold eBefore
      simp [h2]
    rw [Hr.out]
    obtain ⟨L, hL⟩ : ∃ L, decide (s < t) = L := ⟨_, rfl⟩
    rw [hL]
    clear Hr
    go_enter Tryz.func71, Tryz.ntmps71
    go_wp2
    go_ret
    exact ⟨by first | rfl | rw [hL], ((Fr.refl w _).alloc _).alloc _⟩

end Go.Proofs.YtnffjafddbbjaaaGreatDoor

/-
  The contracts of life's small functions: ends, There, fits, count, ahead.
-/
namespace Go.Proofs.YtnffjafddbbjaaaGreatDoor
open Go.RowKit

/-- A life in a block of its own. -/
abbrev lifeCells (x : Lf) : Obj := .cells #[.int .u32 (x.1.1 : Int), .int .u32 (x.1.2 : Int), .int .i64 x.2.1, .int .i64 x.2.2] 82 (0, 0)

set_option maxRecDepth 4000 in
set_option maxHeartbeats 400000 in
theorem ends_any (x : Lf) (w : World) : Calls Tryz.prog 98 #[lifeV x] w fun r w' => r = .returned (.bool (decide (0 ≤ x.2.2))) ∧ Fr w w' (fun _ => False) := by
  obtain ⟨⟨e1, e2⟩, s, q⟩ := x
  unfold lifeV
  dsimp only
  obtain ⟨B, hB⟩ : ∃ B, decide (0 ≤ q) = B := ⟨_, rfl⟩
  rw [hB]
  go_enter Tryz.func98, Tryz.ntmps98
  go_wp2
  go_ret
  exact ⟨by first | rfl | rw [hB], (Fr.refl w _).alloc _⟩

set_option maxRecDepth 4000 in
set_option maxHeartbeats 400000 in
theorem lfits_any (n m : Nat) (w : World) (hm : m ≤ 1000000) : Calls Tryz.prog 66 #[.int .u64 (n : Int), .int .u64 (m : Int)] w fun r w' =>
    r = .returned (.bool (decide (n ≤ 4294967296))) ∧ Fr w w' (fun _ => False) := by
  have d2 : decide ((m : Int) ≤ 2147483648) = true := decide_eq_true (by omega)
  have d2' : decide (m ≤ 2147483648) = true := decide_eq_true (by omega)
  by_cases h : n ≤ 4294967296
  · have d1 : decide ((n : Int) ≤ 4294967296) = true := decide_eq_true (by omega)
    have d1' : decide (n ≤ 4294967296) = true := decide_eq_true h
    rw [d1']
    go_enter Tryz.func66, Tryz.ntmps66
    go_wp2
    go_ret
    exact ⟨rfl, Fr.refl w _⟩
  · have d1 : decide ((n : Int) ≤ 4294967296) = false := decide_eq_false (by omega)
    have d1' : decide (n ≤ 4294967296) = false := decide_eq_false h
    rw [d1']
    go_enter Tryz.func66, Tryz.ntmps66
    go_wp2
    go_ret
    exact ⟨rfl, Fr.refl w _⟩

/-- How many events lives have. -/
def cntL : List Lf → Nat
  | [] => 0
  | x :: r => (if 0 ≤ x.2.2 then 1 else 0) + cntL r
theorem cntL_le : ∀ l : List Lf, cntL l ≤ l.length
  | [] => Nat.le_refl _
  | x :: r => by
    have := cntL_le r
    rw [cntL, List.length_cons]
    split <;> omega
theorem cntL_take {l : List Lf} {i : Nat} {x : Lf} (h : l[i]? = some x) : cntL (l.take (i + 1)) = cntL (l.take i) + if 0 ≤ x.2.2 then 1 else 0 := by
  induction l generalizing i with
  | nil => simp at h
  | cons y r ih =>
    cases i with
    | zero =>
      simp at h
      subst h
      simp [cntL]
    | succ i =>
      rw [List.take_succ_cons, List.take_succ_cons, cntL, cntL, ih (by simpa using h)]
      omega

set_option maxRecDepth 4000 in
set_option maxHeartbeats 800000 in
theorem count_any (v : Value) (l : List Lf) (w : World) (h : RdL w v l) (hl : l.length ≤ 400000) : Calls Tryz.prog 67 #[v] w fun r w' => r = .returned (.int .u64 ((l.length + cntL l : Nat) : Int)) ∧ Fr w w' (fun _ => False) := by
  obtain ⟨a0, c0, rfl, hc0⟩ := h.form
  obtain ⟨m, hm⟩ : ∃ m, m = l.length := ⟨_, rfl⟩
  rw [← hm] at h hl hc0 ⊢
  obtain ⟨T, hT⟩ : ∃ T, T = m + cntL l := ⟨_, rfl⟩
  rw [← hT]
  have HT : Hid _ := hT
  clear hT
  have Hr : Hid (RdL w (.slice a0 m c0) l) := h
  have Hm : Hid _ := hm
  have wm : IntKind.u64.wrap (m : Int) = (m : Int) := by rw [IntKind.wrap_u64]; omega
  clear h hm
  go_enter Tryz.func67, Tryz.ntmps67
  go_wp2_with fail
  go_loopg [3, 11] m (fun g C I wr => ∃ i c : Nat, g = m - i ∧ i ≤ m ∧ I = .int .i64 (i : Int) ∧ C = .int .u64 (c : Int) ∧ c = m + cntL (l.take i) ∧ c ≤ 800000 ∧ Fr w wr (fun _ => False))
  case atStart => exact ⟨0, m, by omega, by omega, rfl, rfl, by simp [cntL], by omega, Fr.refl _ _⟩
  case round =>
    obtain ⟨i, c, hg, hi, rfl, rfl, hc, hcb, hf⟩ := hrel
    have Hg : Hid _ := hg
    have Hc : Hid _ := hc
    have Hf : Hid (Fr w wr (fun _ => False)) := hf
    clear hg hc hf
    by_cases hlt : i < m
    · have hin : (i : Int) < (m : Int) := by omega
      have hin' : decide (i < m) = true := decide_eq_true hlt
      obtain ⟨⟨⟨e1, e2⟩, s, q⟩, ha⟩ : ∃ a, l[i]? = some a := ⟨_, List.getElem?_eq_getElem (by rw [← Hm.out]; omega)⟩
      have Hct : Hid (cntL (l.take (i + 1)) = cntL (l.take i) + if 0 ≤ q then 1 else 0) := cntL_take ha
      have Hcl : Hid (cntL (l.take (i + 1)) ≤ m) := by show _ ≤ _; refine Nat.le_trans (cntL_le _) ?_; rw [List.length_take, ← Hm.out]; exact Nat.min_le_right _ _
      obtain ⟨bk, off, cap, e3, hbk, hca⟩ := Hr.out.get i _ ha
      simp only [Value.slice.injEq] at e3
      obtain ⟨rfl, -, rfl⟩ := e3
      obtain ⟨k0, k1, k2, k3⟩ := hca wr (Hf.out.mono (fun _ _ h => h.elim))
      have hi0 : (0 : Int) ≤ (i : Int) := by omega
      clear hca ha hbk
      go_upto_region 5 with fail
      obtain ⟨pe, hpe⟩ : ∃ p, p = wr.heap.size := ⟨_, rfl⟩
      obtain ⟨wE, hwE⟩ : ∃ x, x = wr.alloc (.cells #[.int .u32 (e1 : Int), .int .u32 (e2 : Int), .int .i64 s, .int .i64 q] 82) := ⟨_, rfl⟩
      rw [← hwE, ← hpe]
      have Hpe : Hid (wE.heap[pe]? = some (lifeCells ((e1, e2), s, q))) := by show _ = _; rw [hwE, hpe]; exact heap_alloc_new _ _
      have HfE : Hid (Fr w wE (fun _ => False)) := by show Fr _ _ _; rw [hwE]; exact Hf.out.alloc _
      clear k0 k1 k2 k3 hwE hpe
      obtain ⟨k0, k1, k2, k3⟩ := four_cells Hpe.out
      have he := ends_any ((e1, e2), s, q) wE
      unfold lifeV at he
      dsimp only at he
      go_wp2_with fail
      refine he.mono ?_
      by_cases h2 : 0 ≤ q
      · rw [decide_eq_true h2]
        have Hcx : Hid (c + 1 = m + cntL (l.take (i + 1))) := by show _ = _; rw [Hct.out, if_pos h2, Hc.out]; omega
        have hcb2 : c + 1 ≤ 800000 := by have := Hcx.out; have := Hcl.out; omega
        rintro r w2 ⟨rfl, hf2⟩
        have Hf2 : Hid (Fr w w2 (fun _ => False)) := HfE.out.none hf2
        clear hf2 he k0 k1 k2 k3 h2
        go_wp2_with fail
        go_roundg (m - (i + 1))
        case rel => exact ⟨i + 1, c + 1, rfl, by omega, by go_num, by go_num, Hcx.out, hcb2, Hf2.out⟩
        case measure => rw [Hg.out]; omega
      · rw [decide_eq_false h2]
        have Hcx : Hid (c = m + cntL (l.take (i + 1))) := by show _ = _; rw [Hct.out, if_neg h2, Hc.out]; omega
        rintro r w2 ⟨rfl, hf2⟩
        have Hf2 : Hid (Fr w w2 (fun _ => False)) := HfE.out.none hf2
        clear hf2 he k0 k1 k2 k3 h2
        go_wp2_with fail
        go_roundg (m - (i + 1))
        case rel => exact ⟨i + 1, c, rfl, by omega, by go_num, rfl, Hcx.out, hcb, Hf2.out⟩
        case measure => rw [Hg.out]; omega
    · have hin : ¬ (i : Int) < (m : Int) := by omega
      have hin' : decide (i < m) = false := decide_eq_false hlt
      have Hcx : Hid (T = c) := by
        show _ = _
        rw [HT.out, Hc.out, List.take_of_length_le (by rw [← Hm.out]; omega)]
      obtain rfl := Hcx.out
      go_wp2_with fail
      go_ret
      exact ⟨rfl, Hf.out⟩

set_option maxRecDepth 4000 in
set_option maxHeartbeats 800000 in
theorem ahead_any (a x : Lf) (w : World) : Calls Tryz.prog 100 #[lifeV a, lifeV x] w fun r w' => r = .returned (.bool (!lOrd a x)) ∧ Fr w w' (fun _ => False) := by
  obtain ⟨T, hT⟩ : ∃ T, T = !lOrd a x := ⟨_, rfl⟩
  rw [← hT]
  have he := ends_any a
  have hl := less_any a.1 x.1
  obtain ⟨⟨a1, a2⟩, s, q⟩ := a
  obtain ⟨⟨x1, x2⟩, s', q'⟩ := x
  have HT : Hid _ := hT
  unfold lifeV at he ⊢
  unfold edgeV at hl
  dsimp only at he hl ⊢
  clear hT
  go_enter Tryz.func100, Tryz.ntmps100
  go_upto_region 1 with fail
  obtain ⟨p, hp⟩ : ∃ p, p = w.heap.size := ⟨_, rfl⟩
  obtain ⟨p2, hp2⟩ : ∃ p2, p2 = w.heap.size + 1 := ⟨_, rfl⟩
  obtain ⟨wa, hwa⟩ : ∃ wa, wa = (w.alloc (.cells #[.int .u32 (a1 : Int), .int .u32 (a2 : Int), .int .i64 s, .int .i64 q] 82)).alloc (.cells #[.int .u32 (x1 : Int), .int .u32 (x2 : Int), .int .i64 s', .int .i64 q'] 82) := ⟨_, rfl⟩
  rw [← hwa]
  have Hp : Hid (wa.heap[p]? = some (lifeCells ((a1, a2), s, q))) := by show _ = _; rw [hwa, hp]; exact blk_alloc _ (heap_alloc_new _ _)
  have Hp2 : Hid (wa.heap[p2]? = some (lifeCells ((x1, x2), s', q'))) := by
    show _ = _
    have e : (w.alloc (.cells #[.int .u32 (a1 : Int), .int .u32 (a2 : Int), .int .i64 s, .int .i64 q] 82)).heap.size = p2 := by rw [hp2]; simp
    rw [hwa, ← e]
    exact heap_alloc_new _ _
  have Hf : Hid (Fr w wa (fun _ => False)) := by show Fr _ _ _; rw [hwa]; exact ((Fr.refl _ _).alloc _).alloc _
  rw [← hp]
  rw [← hp] at hp2
  clear hwa hp
  subst hp2
  obtain ⟨k0, k1, k2, k3⟩ := four_cells Hp.out
  obtain ⟨j0, j1, j2, j3⟩ := four_cells Hp2.out
  by_cases h1 : a1 = x1
  · subst h1
    by_cases h2 : a2 = x2
    · subst h2
      have HT1 : Hid (T = (decide (0 ≤ q) && decide (q < s'))) := by
        show _ = _
        rw [HT.out]
        unfold lOrd
        dsimp only
        rw [eLess_irrefl]
        simp
      clear HT
      go_wp2_with fail
      refine (he _).mono ?_
      by_cases h3 : 0 ≤ q
      · rw [decide_eq_true h3]
        rintro r w2 ⟨rfl, hf2⟩
        obtain ⟨i0, i1, i2, i3⟩ := four_cells (hf2.kept Hp.out (fun h => h))
        obtain ⟨l0, l1, l2, l3⟩ := four_cells (hf2.kept Hp2.out (fun h => h))
        have Hf2 : Hid (Fr w w2 (fun _ => False)) := Hf.out.none hf2
        obtain ⟨B, hB⟩ : ∃ B, decide (q < s') = B := ⟨_, rfl⟩
        have HT2 : Hid (T = B) := by show _ = _; rw [HT1.out, decide_eq_true h3, hB]; rfl
        obtain rfl := HT2.out
        clear hf2 h3 k0 k1 k2 k3 j0 j1 j2 j3 he hl HT1 HT2
        go_wp2_with fail
        go_ret
        exact ⟨by first | rfl | rw [hB], Hf2.out⟩
      · rw [decide_eq_false h3]
        rintro r w2 ⟨rfl, hf2⟩
        have Hf2 : Hid (Fr w w2 (fun _ => False)) := Hf.out.none hf2
        have HT2 : Hid (T = false) := by show _ = _; rw [HT1.out, decide_eq_false h3]; rfl
        obtain rfl := HT2.out
        clear hf2 h3 k0 k1 k2 k3 j0 j1 j2 j3 he hl HT1 HT2
        go_wp2_with fail
        go_ret
        exact ⟨rfl, Hf2.out⟩
    · go_wp2_with fail
      refine (hl _).mono ?_
      rintro r w2 ⟨rfl, hf2⟩
      have Hf2 : Hid (Fr w w2 (fun _ => False)) := Hf.out.none hf2
      obtain ⟨B, hB⟩ : ∃ B, B = eLess (a1, a2) (a1, x2) := ⟨_, rfl⟩
      have HT2 : Hid (T = B) := by show _ = _; rw [HT.out, hB]; unfold lOrd; dsimp only; rw [decide_eq_false (p := (a1, a2) = (a1, x2)) (by simp only [Prod.mk.injEq]; omega)]; simp
      rw [← hB]
      obtain rfl := HT2.out
      clear hf2 k0 k1 k2 k3 j0 j1 j2 j3 he hl hB HT HT2
      go_wp2_with fail
      go_ret
      exact ⟨rfl, Hf2.out⟩
  · go_wp2_with fail
    refine (hl _).mono ?_
    rintro r w2 ⟨rfl, hf2⟩
    have Hf2 : Hid (Fr w w2 (fun _ => False)) := Hf.out.none hf2
    obtain ⟨B, hB⟩ : ∃ B, B = eLess (a1, a2) (x1, x2) := ⟨_, rfl⟩
    have HT2 : Hid (T = B) := by show _ = _; rw [HT.out, hB]; unfold lOrd; dsimp only; rw [decide_eq_false (p := (a1, a2) = (x1, x2)) (by simp only [Prod.mk.injEq]; omega)]; simp
    rw [← hB]
    obtain rfl := HT2.out
    clear hf2 k0 k1 k2 k3 j0 j1 j2 j3 he hl hB HT HT2
    go_wp2_with fail
    go_ret
    exact ⟨rfl, Hf2.out⟩

end Go.Proofs.YtnffjafddbbjaaaGreatDoor

/-
  The contracts of edge's Of.
-/
namespace Go.Proofs.YtnffjafddbbjaaaGreatDoor
open Go.RowKit

theorem results_pair {fn : Func} {p u : Tmp} {ty : TypeId} (h : fn.results = #[.cell p ty, .tmp u]) {tmps : Array Value} {P : Program} {w : World} {b : Nat} {v : Value} (hp : tmps.getD p undef = .pointer (some ⟨b, 0, none⟩)) (hl : (loadVar ty ⟨b, 0, none⟩).run P w = .ok v w) :
    (results fn tmps).run P w = .ok (.tuple #[v, tmps.getD u undef]) w := by
  rw [results_cell_tmp h, hp]
  show ((loadVar ty ⟨b, 0, none⟩).run P w).andThen _ = _
  rw [hl]
  rfl
theorem edgeSize : (Tryz.prog.info? 58).map (·.size) = some 2 := by kernel_rfl
theorem load_edge (w : World) (t : TypeId) (x y : Value) : (loadVar 58 ⟨w.heap.size, 0, none⟩).run Tryz.prog (w.alloc (.cells #[x, y] t)) = .ok (.agg #[x, y]) (w.alloc (.cells #[x, y] t)) :=
  run_loadVar_row _ _ t _ _ _ _ (heap_alloc_new _ _) Tryz.underlying58 rfl edgeSize

set_option maxRecDepth 4000 in
set_option maxHeartbeats 400000 in
theorem of_any (a b : Nat) (w : World) : Calls Tryz.prog 127 #[.int .u32 (a : Int), .int .u32 (b : Int)] w fun e w' =>
    e = .returned (.tuple #[if a = b then edgeV (0, 0) else edgeV (min a b, max a b), .bool (decide (a ≠ b))]) ∧ Fr w w' (fun _ => False) := by
  unfold edgeV
  by_cases heq : a = b
  · subst heq
    have d1 : ((a : Int) == (a : Int)) = true := by simp
    rw [if_pos rfl, decide_eq_false (by simp)]
    go_enter Tryz.func127, Tryz.ntmps127
    go_wp2
    refine bodyPost_ret (results_pair rfl rfl (load_edge w _ _ _)) rfl ?_
    exact ⟨rfl, (Fr.refl w _).alloc _⟩
  · have d1 : ((a : Int) == (b : Int)) = false := by rw [beq_eq_false_iff_ne]; omega
    have d1' : (a == b) = false := by rw [beq_eq_false_iff_ne]; exact heq
    rw [if_neg heq, decide_eq_true (by simpa using heq)]
    rcases Nat.lt_or_gt_of_ne heq with hlt | hlt
    · have e1 : decide ((a : Int) < (b : Int)) = true := decide_eq_true (by omega)
      have e2 : decide ((b : Int) < (a : Int)) = false := decide_eq_false (by omega)
      have e3 : (a : Int) < (b : Int) := by omega
      rw [show min a b = a by omega, show max a b = b by omega]
      clear heq
      go_enter Tryz.func127, Tryz.ntmps127
      go_wp2
      refine bodyPost_ret (results_pair rfl rfl (load_edge w _ _ _)) rfl ?_
      exact ⟨rfl, (Fr.refl w _).alloc _⟩
    · have e1 : decide ((a : Int) < (b : Int)) = false := decide_eq_false (by omega)
      have e2 : decide ((b : Int) < (a : Int)) = true := decide_eq_true (by omega)
      have e3 : ¬ (a : Int) < (b : Int) := by omega
      have e4 : (b : Int) < (a : Int) := by omega
      rw [show min a b = b by omega, show max a b = a by omega]
      clear heq
      go_enter Tryz.func127, Tryz.ntmps127
      go_wp2
      refine bodyPost_ret (results_pair rfl rfl (load_edge w _ _ _)) rfl ?_
      exact ⟨rfl, (Fr.refl w _).alloc _⟩

end Go.Proofs.YtnffjafddbbjaaaGreatDoor

/-
  The contract of edge's Right.
-/
namespace Go.Proofs.YtnffjafddbbjaaaGreatDoor
open Go.RowKit

theorem two_later {w z : World} {x y : Value} {T : TypeId} {p : Nat} (hp : p = w.heap.size) (h : Fr (w.alloc (.cells #[x, y] T)) z (fun _ => False)) : z.cell? ⟨p, 0, none⟩ = some x ∧ z.cell? ⟨p, 1, none⟩ = some y := by
  have h1 : (w.alloc (.cells #[x, y] T)).heap[p]? = some (.cells #[x, y] T (0, 0)) := by rw [hp]; exact heap_alloc_new _ _
  have h2 := h.kept h1 (fun h => h)
  exact ⟨two_cell0 h2, two_cell1 h2⟩

set_option maxRecDepth 4000 in
set_option maxHeartbeats 400000 in
theorem right_any (u v n : Nat) (w : World) (hv : v < 4294967296) : Calls Tryz.prog 99 #[edgeV (u, v), .int .u64 (n : Int)] w fun e w' => e = .returned (.bool (eRight u v n)) ∧ Fr w w' (fun _ => False) := by
  unfold edgeV
  dsimp only
  have wv : IntKind.u64.wrap (v : Int) = (v : Int) := by rw [IntKind.wrap_u64]; omega
  by_cases heq : u = v
  · subst heq
    have Hr : Hid (eRight u u n = false) := decide_eq_false (by omega)
    rw [Hr.out]
    have Hof : Hid (∀ x, Calls Tryz.prog 127 #[.int .u32 (u : Int), .int .u32 (u : Int)] x fun e w' => e = .returned (.tuple #[.agg #[.int .u32 0, .int .u32 0], .bool false]) ∧ Fr x w' (fun _ => False)) := fun x => by
      have := of_any u u x
      rw [if_pos rfl, decide_eq_false (by simp)] at this
      exact this
    go_enter Tryz.func99, Tryz.ntmps99
    go_wp2_with fail
    refine (Hof.out _).mono ?_
    rintro e w1 ⟨rfl, hf1⟩
    have Hf1 : Hid (Fr w w1 (fun _ => False)) := ((Fr.refl w (fun _ => False)).alloc _).none hf1
    clear hf1
    go_wp2
    go_ret
    exact ⟨rfl, Hf1.out.alloc _⟩
  · rcases Nat.lt_or_gt_of_ne heq with hlt | hlt
    · have Hof : Hid (∀ x, Calls Tryz.prog 127 #[.int .u32 (u : Int), .int .u32 (v : Int)] x fun e w' => e = .returned (.tuple #[.agg #[.int .u32 (u : Int), .int .u32 (v : Int)], .bool true]) ∧ Fr x w' (fun _ => False)) := fun x => by
        have := of_any u v x
        rw [if_neg heq, decide_eq_true (by simpa using heq), show min u v = u by omega, show max u v = v by omega] at this
        exact this
      obtain ⟨B, hB⟩ : ∃ B, B = eRight u v n := ⟨_, rfl⟩
      have d3 : decide ((v : Int) < (n : Int)) = B := by
        rw [hB]
        unfold eRight
        exact decide_eq_decide.2 (by omega)
      have d3' : decide (v < n) = B := by rw [← d3]; exact decide_eq_decide.2 (by omega)
      rw [← hB]
      clear hB heq
      go_enter Tryz.func99, Tryz.ntmps99
      go_wp2_with fail
      refine (Hof.out _).mono ?_
      rintro e w1 ⟨rfl, hf1⟩
      have Hf1 : Hid (Fr w w1 (fun _ => False)) := ((Fr.refl w (fun _ => False)).alloc _).none hf1
      obtain ⟨p, hp⟩ : ∃ p, p = w.heap.size := ⟨_, rfl⟩
      rw [← hp]
      obtain ⟨c0, c1⟩ := two_later hp (hf1.alloc (.cells #[.int .u32 (u : Int), .int .u32 (v : Int)] 58))
      clear hf1 hp
      go_wp2
      go_ret
      exact ⟨by first | rfl | rw [d3] | rw [d3'], Hf1.out.alloc _⟩
    · have Hof : Hid (∀ x, Calls Tryz.prog 127 #[.int .u32 (u : Int), .int .u32 (v : Int)] x fun e w' => e = .returned (.tuple #[.agg #[.int .u32 (v : Int), .int .u32 (u : Int)], .bool true]) ∧ Fr x w' (fun _ => False)) := fun x => by
        have := of_any u v x
        rw [if_neg heq, decide_eq_true (by simpa using heq), show min u v = v by omega, show max u v = u by omega] at this
        exact this
      have Hr : Hid (eRight u v n = false) := decide_eq_false (by omega)
      rw [Hr.out]
      have d1 : ((u : Int) == (v : Int)) = false := by rw [beq_eq_false_iff_ne]; omega
      have d1' : (u == v) = false := by rw [beq_eq_false_iff_ne]; exact heq
      go_enter Tryz.func99, Tryz.ntmps99
      go_wp2_with fail
      refine (Hof.out _).mono ?_
      rintro e w1 ⟨rfl, hf1⟩
      have Hf1 : Hid (Fr w w1 (fun _ => False)) := ((Fr.refl w (fun _ => False)).alloc _).none hf1
      obtain ⟨p, hp⟩ : ∃ p, p = w.heap.size := ⟨_, rfl⟩
      rw [← hp]
      obtain ⟨c0, c1⟩ := two_later hp (hf1.alloc (.cells #[.int .u32 (v : Int), .int .u32 (u : Int)] 58))
      clear hf1 hp
      go_wp2
      go_ret
      exact ⟨rfl, Hf1.out.alloc _⟩

end Go.Proofs.YtnffjafddbbjaaaGreatDoor

/-
  The contract of life's wrong: what is wrong with one life, by itself or behind the one ahead.
-/
namespace Go.Proofs.YtnffjafddbbjaaaGreatDoor
open Go.RowKit

def lwrongF (n : Nat) (pv : Option Lf) (x : Lf) : Nat :=
  if x.2.1 < 0 ∨ 4611686018427387903 < x.2.1 ∨ 4611686018427387903 < x.2.2 then 26 else if eRight x.1.1 x.1.2 n = false then 24 else if 0 ≤ x.2.2 ∧ x.2.2 ≤ x.2.1 then 23 else if (pv.any fun p => lOrd p x) = true then 23 else 0

set_option maxRecDepth 4000 in
set_option maxHeartbeats 1600000 in
theorem lwrong_any (n : Nat) (v : Value) (l : List Lf) (i : Nat) (x : Lf) (w : World) (h : RdL w v l) (hl : l.length ≤ 1000000) (hx : LfFit x) (ha : l[i]? = some x) : Calls Tryz.prog 68 #[.int .u64 (n : Int), v, .int .i64 (i : Int)] w fun r w' =>
    r = .returned (.int .i64 (lwrongF n (prevL l i) x : Int)) ∧ Fr w w' (fun _ => False) := by
  obtain ⟨a0, c0, rfl, hc0⟩ := h.form
  obtain ⟨m, hm⟩ : ∃ m, m = l.length := ⟨_, rfl⟩
  rw [← hm] at h hl hc0 ⊢
  obtain ⟨R, hR⟩ : ∃ R, R = lwrongF n (prevL l i) x := ⟨_, rfl⟩
  rw [← hR]
  obtain ⟨⟨e1, e2⟩, s, q⟩ := x
  have HR : Hid _ := hR
  have Hr0 : Hid (RdL w (.slice a0 m c0) l) := h
  have Hm : Hid _ := hm
  have hlt : i < m := by rw [hm]; exact (List.getElem?_eq_some_iff.1 ha).1
  have Hx : Hid (LfFit ((e1, e2), s, q)) := hx
  have hin : (i : Int) < (m : Int) := by omega
  have hi0 : (0 : Int) ≤ (i : Int) := by omega
  have Hlt : Hid _ := hlt
  have Hl : Hid _ := hl
  have HR1 : Hid (s < 0 ∨ 4611686018427387903 < s ∨ 4611686018427387903 < q → R = 26) := fun h => by rw [HR.out]; exact if_pos h
  obtain ⟨bk, off, cap, e3, hbk, hca⟩ := h.get i _ ha
  rw [← hm] at e3
  simp only [Value.slice.injEq] at e3
  obtain ⟨rfl, -, rfl⟩ := e3
  obtain ⟨k0, k1, k2, k3⟩ := hca w (Fr.refl _ _)
  clear h hm hR hx hl hca hbk ha
  go_enter Tryz.func68, Tryz.ntmps68
  go_upto_region 2 with fail
  obtain ⟨pe, hpe⟩ : ∃ p, p = w.heap.size := ⟨_, rfl⟩
  obtain ⟨wE, hwE⟩ : ∃ x, x = w.alloc (.cells #[.int .u32 (e1 : Int), .int .u32 (e2 : Int), .int .i64 s, .int .i64 q] 82) := ⟨_, rfl⟩
  rw [← hwE, ← hpe]
  have Hpe : Hid (∀ z, Fr wE z (fun _ => False) → z.heap[pe]? = some (lifeCells ((e1, e2), s, q))) := fun z hz => hz.kept (by rw [hwE, hpe]; exact heap_alloc_new _ _) (fun h => h)
  have HwE : Hid (Fr w wE (fun _ => False)) := by show Fr _ _ _; rw [hwE]; exact (Fr.refl _ _).alloc _
  clear k0 k1 k2 k3 hwE hpe
  obtain ⟨k0, k1, k2, k3⟩ := four_cells (Hpe.out wE (Fr.refl _ _))
  by_cases h1 : s < 0
  · have d1 : decide (s < 0) = true := decide_eq_true h1
    obtain rfl := HR1.out (.inl h1)
    clear h1
    go_wp2
    go_ret
    exact ⟨rfl, HwE.out⟩
  have d1 : decide (s < 0) = false := decide_eq_false h1
  by_cases h2 : 4611686018427387903 < s
  · have d2 : decide (4611686018427387903 < s) = true := decide_eq_true h2
    obtain rfl := HR1.out (.inr (.inl h2))
    clear h1 h2
    go_wp2
    go_ret
    exact ⟨rfl, HwE.out⟩
  have d2 : decide (4611686018427387903 < s) = false := decide_eq_false h2
  by_cases h3 : 4611686018427387903 < q
  · have d3 : decide (4611686018427387903 < q) = true := decide_eq_true h3
    obtain rfl := HR1.out (.inr (.inr h3))
    clear h1 h2 h3
    go_wp2
    go_ret
    exact ⟨rfl, HwE.out⟩
  have d3 : decide (4611686018427387903 < q) = false := decide_eq_false h3
  have Hlim : Hid (¬ (s < 0 ∨ 4611686018427387903 < s ∨ 4611686018427387903 < q)) := by show ¬ _; omega
  obtain ⟨B1, hB1⟩ : ∃ B, B = eRight e1 e2 n := ⟨_, rfl⟩
  have HB1 : Hid _ := hB1
  clear h1 h2 h3 hB1 HR1
  go_wp2_with fail
  refine (right_any e1 e2 n _ Hx.out.1.2).mono ?_
  rw [← HB1.out]
  rintro r x1 ⟨rfl, g⟩
  have G1 : Hid (Fr wE x1 (fun _ => False)) := g
  clear g k0 k1 k2 k3
  cases B1 with
  | false =>
    have Hres : Hid (R = 24) := by show _ = _; rw [HR.out]; exact (if_neg Hlim.out).trans (if_pos HB1.out.symm)
    have Hfo : Hid (Fr w x1 (fun _ => False)) := HwE.out.none G1.out
    go_wp2
    go_ret
    obtain rfl := Hres.out
    exact ⟨rfl, Hfo.out⟩
  | true =>
  obtain ⟨B2, hB2⟩ : ∃ B, B = decide (0 ≤ q ∧ q ≤ s) := ⟨_, rfl⟩
  have HB2 : Hid _ := hB2
  clear hB2
  go_upto_region 6 with fail
  go_cut [32] from 33 to 41 (fun V wx => V = .bool B2 ∧ Fr x1 wx (fun _ => False))
  case first =>
    obtain ⟨k0, k1, k2, k3⟩ := four_cells (Hpe.out x1 G1.out)
    have he := ends_any ((e1, e2), s, q)
    unfold lifeV at he
    dsimp only at he
    by_cases h3 : 0 ≤ q
    · rw [decide_eq_true h3] at he
      go_wp2_with fail
      refine (he _).mono ?_
      rintro r w2 ⟨rfl, hf2⟩
      obtain ⟨j0, j1, j2, j3⟩ := four_cells (Hpe.out w2 (G1.out.none hf2))
      have Hf2 : Hid (Fr x1 w2 (fun _ => False)) := hf2
      have HB3 : Hid (decide (q ≤ s) = B2) := by show _ = _; rw [HB2.out]; simp [h3]
      have hb3 := HB3.out
      clear hf2 h3 k0 k1 k2 k3 he
      go_wp2_with fail
      go_meet
      case rel => exact ⟨by first | rfl | rw [HB3.out], Hf2.out⟩
    · rw [decide_eq_false h3] at he
      have HB3 : Hid (false = B2) := by show _ = _; rw [HB2.out]; simp [h3]
      obtain rfl := HB3.out
      go_wp2_with fail
      refine (he _).mono ?_
      rintro r w2 ⟨rfl, hf2⟩
      have Hf2 : Hid (Fr x1 w2 (fun _ => False)) := hf2
      clear hf2 h3 k0 k1 k2 k3 he
      go_wp2_with fail
      go_meet
      case rel => exact ⟨rfl, Hf2.out⟩
  case rest =>
  obtain ⟨rfl, hfc⟩ := hcut
  rename_i hKc
  refine hKc _ _ ?_
  clear hKc
  have G2 : Hid (Fr wE wc (fun _ => False)) := G1.out.none hfc
  clear hfc
  obtain ⟨x2, rfl⟩ : ∃ x, x = wc := ⟨_, rfl⟩
  cases B2 with
  | true =>
    have h23 : 0 ≤ q ∧ q ≤ s := of_decide_eq_true HB2.out.symm
    have Hres : Hid (R = 23) := by show _ = _; rw [HR.out]; exact (if_neg Hlim.out).trans ((if_neg (by rw [← HB1.out]; simp)).trans (if_pos h23))
    have Hfo : Hid (Fr w x2 (fun _ => False)) := HwE.out.none G2.out
    clear h23
    go_wp2
    go_ret
    obtain rfl := Hres.out
    exact ⟨rfl, Hfo.out⟩
  | false =>
  have Hto : Hid (¬ (0 ≤ q ∧ q ≤ s)) := of_decide_eq_false HB2.out.symm
  obtain ⟨B3, hB3⟩ : ∃ B, B = ((prevL l i).any fun p => lOrd p ((e1, e2), s, q)) := ⟨_, rfl⟩
  have HB3 : Hid _ := hB3
  clear hB3 HB2
  go_upto_region 8 with fail
  go_cut [42] from 43 to 54 (fun V wx => V = .bool B3 ∧ Fr x2 wx (fun _ => False))
  case first =>
    by_cases h0 : i = 0
    · subst h0
      have HB4 : Hid (B3 = false) := by show _ = _; rw [HB3.out]; rfl
      obtain rfl := HB4.out
      go_wp2_with fail
      refine wp_region_tree (fun _ => False) (.take 0 (.take 1 (.take 2 (.take 3 (.take 4 (.take 5 (.take 6 (.take 7 (.take 8 (.one 9 (.take 10 (.take 11 (.take 12 .nil))))))))))))) (by kernel_rfl) (by kernel_rfl) (by decide) (by kernel_rfl) ?_
      repeat (first | (refine wpT_pass rfl rfl ?_; simp only [Act.put, List.setIfInBounds_toArray, List.set_cons_zero, List.set_cons_succ]) | (refine wpT_skip rfl rfl ?_; simp only [Act.put, List.setIfInBounds_toArray, List.set_cons_zero, List.set_cons_succ]) | (refine wpT_take (v := ?_) rfl rfl (fun x hx => ?_) ?_; rotate_left; (focus (go_simp; with_reducible rfl)); simp only [Act.put, List.setIfInBounds_toArray, List.set_cons_zero, List.set_cons_succ]))
      have G3 : Hid (Fr x2 x2.drew (fun _ => False)) := (Fr.refl x2 (fun _ => False)).drew
      unfold wpT
      go_wp2_with fail
      go_meet
      case rel => exact ⟨rfl, G3.out⟩
    · obtain ⟨i1, hie⟩ : ∃ j, i = j + 1 := ⟨i - 1, by omega⟩
      obtain ⟨⟨⟨f1, f2⟩, s', q'⟩, ha'⟩ : ∃ a, l[i1]? = some a := ⟨_, List.getElem?_eq_getElem (by rw [← Hm.out]; omega)⟩
      have HB4 : Hid ((!lOrd ((f1, f2), s', q') ((e1, e2), s, q)) = !B3) := by
        show _ = _
        rw [HB3.out, hie]
        show _ = !((l[i1]?).any fun p => lOrd p ((e1, e2), s, q))
        rw [ha']
        rfl
      obtain ⟨bk', off', cap', e4, hbk, hca⟩ := Hr0.out.get i1 _ ha'
      simp only [Value.slice.injEq, Option.some.injEq, Addr.mk.injEq] at e4
      obtain ⟨⟨rfl, rfl, -⟩, -, rfl⟩ := e4
      have hG : Fr w x2.drew (fun _ => False) := (HwE.out.none G2.out).drew
      have HG : Hid _ := hG
      have HGE : Hid (Fr wE x2.drew (fun _ => False)) := G2.out.drew
      have ka : ∀ z, Fr x2.drew z (fun _ => False) → z.cell? ⟨bk, off + i1 * 4, none⟩ = some (.int .u32 (f1 : Int)) := fun z hz => (hca z ((HG.out.none hz).mono (fun _ _ h => h.elim))).1
      have kb : ∀ z, Fr x2.drew z (fun _ => False) → z.cell? ⟨bk, off + i1 * 4 + 1, none⟩ = some (.int .u32 (f2 : Int)) := fun z hz => (hca z ((HG.out.none hz).mono (fun _ _ h => h.elim))).2.1
      have kc : ∀ z, Fr x2.drew z (fun _ => False) → z.cell? ⟨bk, off + i1 * 4 + 2, none⟩ = some (.int .i64 s') := fun z hz => (hca z ((HG.out.none hz).mono (fun _ _ h => h.elim))).2.2.1
      have kd : ∀ z, Fr x2.drew z (fun _ => False) → z.cell? ⟨bk, off + i1 * 4 + 3, none⟩ = some (.int .i64 q') := fun z hz => (hca z ((HG.out.none hz).mono (fun _ _ h => h.elim))).2.2.2
      have ke : ∀ z, Fr x2.drew z (fun _ => False) → z.cell? ⟨pe, 0, none⟩ = some (.int .u32 (e1 : Int)) := fun z hz => (four_cells (Hpe.out z (HGE.out.none hz))).1
      have kf : ∀ z, Fr x2.drew z (fun _ => False) → z.cell? ⟨pe, 1, none⟩ = some (.int .u32 (e2 : Int)) := fun z hz => (four_cells (Hpe.out z (HGE.out.none hz))).2.1
      have kg : ∀ z, Fr x2.drew z (fun _ => False) → z.cell? ⟨pe, 2, none⟩ = some (.int .i64 s) := fun z hz => (four_cells (Hpe.out z (HGE.out.none hz))).2.2.1
      have kh : ∀ z, Fr x2.drew z (fun _ => False) → z.cell? ⟨pe, 3, none⟩ = some (.int .i64 q) := fun z hz => (four_cells (Hpe.out z (HGE.out.none hz))).2.2.2
      have hpos : decide ((0 : Int) < (i : Int)) = true := decide_eq_true (by omega)
      have hsub : IntKind.i64.wrap ((i : Int) - 1) = (i1 : Int) := by have := Hl.out; rw [IntWalk.i64_in _ (by omega)]; omega
      have hpos' : decide (0 < i) = true := decide_eq_true (by omega)
      have hi1 : (i1 : Int) < (m : Int) := by omega
      have hi10 : (0 : Int) ≤ (i1 : Int) := by omega
      have hah := ahead_any ((f1, f2), s', q') ((e1, e2), s, q)
      rw [HB4.out] at hah
      unfold lifeV at hah
      dsimp only at hah
      clear hca hbk hG ha' hie
      go_wp2_with fail
      refine wp_region_tree (fun _ => False) (.take 0 (.take 1 (.take 2 (.take 3 (.take 4 (.take 5 (.take 6 (.take 7 (.take 8 (.one 9 (.take 10 (.take 11 (.take 12 .nil))))))))))))) (by kernel_rfl) (by kernel_rfl) (by decide) (by kernel_rfl) ?_
      repeat (refine wpT_take (v := ?_) rfl rfl (fun x hx => ?_) ?_; rotate_left; (focus (go_simp; with_reducible rfl)); simp only [Act.put, List.setIfInBounds_toArray, List.set_cons_zero, List.set_cons_succ])
      refine wpT_one rfl rfl (fun K hK => ?_)
      go_simp
      refine (hah _).mono ?_
      rintro r x3 ⟨rfl, g⟩
      refine hK _ _ g ?_
      clear hK K ka kb kc kd ke kf kg kh hah
      have G3 : Hid (Fr x2 x3 (fun _ => False)) := (Fr.refl x2 (fun _ => False)).drew.none g
      have hbb : (!(!B3)) = B3 := by simp
      clear g
      repeat (refine wpT_take (v := ?_) rfl rfl (fun x hx => ?_) ?_; rotate_left; (focus (go_simp; with_reducible rfl)); simp only [Act.put, List.setIfInBounds_toArray, List.set_cons_zero, List.set_cons_succ])
      unfold wpT
      go_wp2_with fail
      go_meet
      case rel => exact ⟨by first | rfl | rw [hbb], G3.out⟩
  case rest =>
    obtain ⟨rfl, hfc⟩ := hcut
    rename_i hKc
    refine hKc _ _ ?_
    clear hKc
    have G4 : Hid (Fr w wc (fun _ => False)) := (HwE.out.none G2.out).none hfc
    clear hfc
    cases B3 with
    | true =>
      have Hres : Hid (R = 23) := by show _ = _; rw [HR.out]; exact (if_neg Hlim.out).trans ((if_neg (by rw [← HB1.out]; simp)).trans ((if_neg Hto.out).trans (if_pos HB3.out.symm)))
      go_wp2
      go_ret
      obtain rfl := Hres.out
      exact ⟨rfl, G4.out⟩
    | false =>
      have Hres : Hid (R = 0) := by show _ = _; rw [HR.out]; exact (if_neg Hlim.out).trans ((if_neg (by rw [← HB1.out]; simp)).trans ((if_neg Hto.out).trans (if_neg (by rw [← HB3.out]; simp))))
      go_wp2
      go_ret
      obtain rfl := Hres.out
      exact ⟨rfl, G4.out⟩

end Go.Proofs.YtnffjafddbbjaaaGreatDoor

/-
  The contract of life's Check.
-/
namespace Go.Proofs.YtnffjafddbbjaaaGreatDoor
open Go.RowKit

theorem lchk_wrong {n : Nat} {pv : Option Lf} {i : Nat} {x : Lf} {r : List Lf} (h : lwrongF n pv x ≠ 0) : lchkF n pv i (x :: r) = (i, lwrongF n pv x) := by
  unfold lwrongF at h ⊢
  rw [lchkF]
  split
  · rfl
  · split
    · rfl
    · split
      · rfl
      · split
        · rfl
        · rename_i h1 h2 h3 h4
          rw [if_neg h1, if_neg h2, if_neg h3, if_neg h4] at h
          exact absurd rfl h
theorem lchk_fine {n : Nat} {pv : Option Lf} {i : Nat} {x : Lf} {r : List Lf} (h : lwrongF n pv x = 0) : lchkF n pv i (x :: r) = lchkF n (some x) (i + 1) r := by
  unfold lwrongF at h
  rw [lchkF]
  split at h
  · cases h
  · rename_i h1
    rw [if_neg h1]
    split at h
    · cases h
    · rename_i h2
      rw [if_neg h2]
      split at h
      · cases h
      · rename_i h3
        rw [if_neg h3]
        split at h
        · cases h
        · rename_i h4
          rw [if_neg h4]
theorem lwrong_le (n : Nat) (pv : Option Lf) (x : Lf) : lwrongF n pv x ≤ 26 := by
  unfold lwrongF
  repeat' split
  all_goals omega
theorem prevL_succ {l : List Lf} {i : Nat} {x : Lf} (h : l[i]? = some x) : prevL l (i + 1) = some x := h

set_option maxRecDepth 4000 in
set_option maxHeartbeats 1600000 in
theorem lcheck_any (n : Nat) (v : Value) (l : List Lf) (w : World) (h : RdL w v l) (hl : l.length ≤ 400000) (hfit : ∀ x ∈ l, LfFit x) : Calls Tryz.prog 34 #[.int .u64 (n : Int), v] w fun r w' => r = .returned (.tuple #[.int .i64 ((lifeCheckF n l).1 : Int), .int .i64 ((lifeCheckF n l).2 : Int)]) ∧ Fr w w' (fun _ => False) := by
  have hct := count_any v l w h hl
  obtain ⟨a0, c0, rfl, hc0⟩ := h.form
  obtain ⟨m, hm⟩ : ∃ m, m = l.length := ⟨_, rfl⟩
  rw [← hm] at h hl hc0 hct ⊢
  obtain ⟨⟨R1, R2⟩, hR⟩ : ∃ R, R = lifeCheckF n l := ⟨_, rfl⟩
  rw [← hR]
  have HR : Hid _ := hR
  have Hr : Hid (RdL w (.slice a0 m c0) l) := h
  have Hm : Hid _ := hm
  have Hl : Hid (l.length ≤ 1000000) := by show _ ≤ _; omega
  have Hcl : Hid (m + cntL l ≤ 1000000) := by show _ ≤ _; have := cntL_le l; omega
  have Hfit : Hid _ := hfit
  clear h hm hR hfit
  dsimp only
  go_enter Tryz.func34, Tryz.ntmps34
  go_wp2_with fail
  refine hct.mono ?_
  rintro r w1 ⟨rfl, hf1⟩
  have Hf1 : Hid (Fr w w1 (fun _ => False)) := hf1
  clear hct hf1
  go_wp2_with fail
  refine (lfits_any n (m + cntL l) w1 Hcl.out).mono ?_
  by_cases hn : 4294967296 < n
  · have Hres : Hid ((R1, R2) = (0, 26)) := by show _ = _; rw [HR.out]; unfold lifeCheckF; exact if_pos hn
    rw [decide_eq_false (by omega)]
    rintro r w2 ⟨rfl, g⟩
    have Hfo : Hid (Fr w w2 (fun _ => False)) := Hf1.out.none g
    clear g
    simp only [Prod.mk.injEq] at Hres
    obtain ⟨rfl, rfl⟩ := Hres.out
    go_wp2
    go_ret2
    exact ⟨rfl, Hfo.out⟩
  rw [decide_eq_true (by omega)]
  rintro r w2 ⟨rfl, g⟩
  have Hf2 : Hid (Fr w w2 (fun _ => False)) := Hf1.out.none g
  have Hst : Hid (lchkF n none 0 l = (R1, R2)) := by show _ = _; rw [HR.out]; unfold lifeCheckF; rw [if_neg hn]
  clear hn HR g
  go_wp2_with fail
  go_loopg [15] m (fun g I wr => ∃ i : Nat, g = m - i ∧ i ≤ m ∧ I = .int .i64 (i : Int) ∧ lchkF n (prevL l i) i (l.drop i) = (R1, R2) ∧ Fr w wr (fun _ => False))
  case atStart => exact ⟨0, by omega, by omega, rfl, Hst.out, Hf2.out⟩
  case round =>
    obtain ⟨i, hg, hi, rfl, hst, hf⟩ := hrel
    have Hg : Hid _ := hg
    have Hs : Hid _ := hst
    have Hf : Hid (Fr w wr (fun _ => False)) := hf
    clear hg hst hf
    by_cases hlt : i < m
    · have hin : (i : Int) < (m : Int) := by omega
      have hin' : decide (i < m) = true := decide_eq_true hlt
      obtain ⟨x, ha⟩ : ∃ a, l[i]? = some a := ⟨_, List.getElem?_eq_getElem (by rw [← Hm.out]; omega)⟩
      have hw := lwrong_any n (.slice a0 m c0) l i x wr (Hr.out.keep Hf.out) Hl.out (Hfit.out _ (List.mem_of_getElem? ha)) ha
      have Hst2 : Hid (lchkF n (prevL l i) i (x :: l.drop (i + 1)) = (R1, R2)) := by show _ = _; rw [← Hs.out, drop_at ha]
      have Hpv : Hid (prevL l (i + 1) = some x) := prevL_succ ha
      obtain ⟨W, hW⟩ : ∃ W, W = lwrongF n (prevL l i) x := ⟨_, rfl⟩
      have HW : Hid _ := hW
      rw [← hW] at hw
      have hWb : W ≤ 26 := by rw [hW]; exact lwrong_le _ _ _
      clear ha hW Hs
      go_wp2_with fail
      refine hw.mono ?_
      rintro r w3 ⟨rfl, g⟩
      have Hf3 : Hid (Fr w w3 (fun _ => False)) := Hf.out.none g
      clear g hw
      by_cases h0 : W = 0
      · have Hst3 : Hid (lchkF n (prevL l (i + 1)) (i + 1) (l.drop (i + 1)) = (R1, R2)) := by show _ = _; rw [Hpv.out, ← Hst2.out]; exact (lchk_fine (HW.out.symm.trans h0)).symm
        subst h0
        go_wp2_with fail
        go_roundg (m - (i + 1))
        case rel => exact ⟨i + 1, rfl, by omega, by go_num, Hst3.out, Hf3.out⟩
        case measure => rw [Hg.out]; omega
      · have h0i : ((W : Int) == 0) = false := by rw [beq_eq_false_iff_ne]; omega
        have h0j : ((W : Int) != 0) = true := by rw [bne_iff_ne]; omega
        have Hst3 : Hid ((R1, R2) = (i, W)) := by show _ = _; rw [← Hst2.out, lchk_wrong (by rw [← HW.out]; exact h0), ← HW.out]
        simp only [Prod.mk.injEq] at Hst3
        obtain ⟨rfl, rfl⟩ := Hst3.out
        clear Hst3 h0
        go_wp2
        go_ret2
        exact ⟨rfl, Hf3.out⟩
    · have hin : ¬ (i : Int) < (m : Int) := by omega
      have hin' : decide (i < m) = false := decide_eq_false hlt
      have Hres : Hid ((R1, R2) = (0, 0)) := by
        show _ = _
        rw [← Hs.out, List.drop_eq_nil_of_le (by rw [← Hm.out]; omega)]
        rfl
      simp only [Prod.mk.injEq] at Hres
      obtain ⟨rfl, rfl⟩ := Hres.out
      clear Hres
      go_wp2
      go_ret2
      exact ⟨rfl, Hf.out⟩

end Go.Proofs.YtnffjafddbbjaaaGreatDoor

/-
  The contract of life's told: the events of lives, one life behind another.
-/
namespace Go.Proofs.YtnffjafddbbjaaaGreatDoor
open Go.RowKit

theorem told_step {l : List Lf} {i : Nat} {x : Lf} (h : l[i]? = some x) : (l.take (i + 1)).flatMap lEv = (l.take i).flatMap lEv ++ lEv x := by
  rw [List.take_add_one, h, List.flatMap_append]
  simp
theorem told_len (l : List Lf) (i : Nat) : ((l.take i).flatMap lEv).length ≤ 2 * i := by
  refine Nat.le_trans (flat_length _) ?_
  rw [List.length_take]
  omega

set_option maxRecDepth 4000 in
set_option maxHeartbeats 1600000 in
theorem told_any (v : Value) (l : List Lf) (w : World) (h : RdL w v l) (hl : l.length ≤ 400000) : Calls Tryz.prog 69 #[v] w fun r w' => (∃ v', r = .returned v' ∧ OwnV w' v' (l.flatMap lEv) ∧ ∀ k, v'.ownBlock = some k → w.heap.size ≤ k) ∧ Fr w w' (fun _ => False) := by
  obtain ⟨a0, c0, rfl, hc0⟩ := h.form
  obtain ⟨m, hm⟩ : ∃ m, m = l.length := ⟨_, rfl⟩
  rw [← hm] at h hl hc0 ⊢
  obtain ⟨T, hT⟩ : ∃ T, T = l.flatMap lEv := ⟨_, rfl⟩
  rw [← hT]
  have HT : Hid _ := hT
  have Hr : Hid (RdL w (.slice a0 m c0) l) := h
  have Hm : Hid _ := hm
  clear h hm hT
  go_enter Tryz.func69, Tryz.ntmps69
  go_wp2_with fail
  go_loopg [3, 8] m (fun g V I wr => ∃ (i : Nat), g = m - i ∧ i ≤ m ∧ I = .int .i64 (i : Int) ∧ OwnV wr V ((l.take i).flatMap lEv) ∧ (∀ k, V.ownBlock = some k → w.heap.size ≤ k) ∧ Fr w wr (fun _ => False))
  case atStart => exact ⟨0, by omega, by omega, rfl, OwnV.nil _, fun k hk => (by simp [Value.ownBlock] at hk), Fr.refl _ _⟩
  case round =>
    obtain ⟨i, hg, hi, rfl, hov, hvn, hf⟩ := hrel
    have Hg : Hid _ := hg
    have Hov : Hid (OwnV wr u3 ((l.take i).flatMap lEv)) := hov
    have Hvn : Hid (∀ k, u3.ownBlock = some k → w.heap.size ≤ k) := hvn
    have Hf : Hid (Fr w wr (fun _ => False)) := hf
    obtain ⟨a3, c3, hu3, -⟩ := hov.rd.form
    obtain ⟨n3, hn3⟩ : ∃ n, n = ((l.take i).flatMap lEv).length := ⟨_, rfl⟩
    rw [← hn3] at hu3
    subst hu3
    have Hlen : Hid (((l.take i).flatMap lEv).length ≤ 2 * i) := told_len l i
    clear hg hov hvn hf hn3
    by_cases hlt : i < m
    · have hin : (i : Int) < (m : Int) := by omega
      have hin' : decide (i < m) = true := decide_eq_true hlt
      obtain ⟨⟨⟨e1, e2⟩, s, q⟩, ha⟩ : ∃ a, l[i]? = some a := ⟨_, List.getElem?_eq_getElem (by rw [← Hm.out]; omega)⟩
      have Hst : Hid _ := told_step ha
      obtain ⟨bk, off, cap, e3, hbk, hca⟩ := Hr.out.get i _ ha
      simp only [Value.slice.injEq] at e3
      obtain ⟨rfl, -, rfl⟩ := e3
      obtain ⟨k0, k1, k2, k3⟩ := hca wr (Hf.out.mono (fun _ _ h => h.elim))
      have hi0 : (0 : Int) ≤ (i : Int) := by omega
      clear hca ha hbk
      go_upto_region 5 with fail
      obtain ⟨pe, hpe⟩ : ∃ p, p = wr.heap.size := ⟨_, rfl⟩
      obtain ⟨wE, hwE⟩ : ∃ x, x = wr.alloc (.cells #[.int .u32 (e1 : Int), .int .u32 (e2 : Int), .int .i64 s, .int .i64 q] 82) := ⟨_, rfl⟩
      rw [← hwE, ← hpe]
      have Hpe : Hid (wE.heap[pe]? = some (lifeCells ((e1, e2), s, q))) := by show _ = _; rw [hwE, hpe]; exact heap_alloc_new _ _
      have HrE : Hid (Fr wr wE (fun _ => False)) := by show Fr _ _ _; rw [hwE]; exact (Fr.refl _ _).alloc _
      have Hpw : Hid (wr.heap.size = pe) := hpe.symm
      clear k0 k1 k2 k3 hwE hpe
      obtain ⟨k0, k1, k2, k3⟩ := four_cells Hpe.out
      obtain ⟨v4, w4, hrun4, ho4, hf4, hm4⟩ := app_event wE (.slice a3 n3 c3) ((l.take i).flatMap lEv) (s, (e1, e2), true) (Hov.out.frame HrE.out (fun _ _ h => h)) (by have := Hlen.out; omega)
      obtain ⟨ao4, l4, cp4, rfl⟩ : ∃ a l c, v4 = .slice a l c := by obtain ⟨a, c, e, -⟩ := ho4.rd.form; exact ⟨a, _, c, e⟩
      have Ho4 : Hid (OwnV w4 (.slice ao4 l4 cp4) ((l.take i).flatMap lEv ++ [(s, (e1, e2), true)])) := ho4
      have Hf4 : Hid (Fr wE w4 (fun k => (Value.slice a3 n3 c3).ownBlock = some k)) := ((Fr.refl wE (fun k => (Value.slice a3 n3 c3).ownBlock = some k)).alloc _).trans hf4 (fun _ _ h => h)
      have Hvn4 : Hid (∀ k, (Value.slice ao4 l4 cp4).ownBlock = some k → w.heap.size ≤ k) := fun k hk => by
        rcases hm4 k hk with h2 | h2
        · exact Hvn.out k h2
        · have h3 := Hf.out.size; have h4 := HrE.out.size; omega
      have Hfw4 : Hid (Fr w w4 (fun _ => False)) := (Hf.out.none HrE.out).newer Hf4.out (fun k hk => Hvn.out k hk)
      have Hpe4 : Hid (w4.heap[pe]? = some (lifeCells ((e1, e2), s, q))) := Hf4.out.kept Hpe.out (fun h => by have := (Hov.out.lt pe h); have := Hpw.out; omega)
      have Hpe0 : Hid (w.heap.size ≤ pe) := by show _ ≤ _; rw [← Hpw.out]; exact Hf.out.size
      clear ho4 hf4 hm4
      obtain ⟨j0, j1, j2, j3⟩ := four_cells Hpe4.out
      have he := ends_any ((e1, e2), s, q)
      unfold lifeV at he
      dsimp only at he
      go_wp2_with (at_builtin; refine wpList_append_run rfl (.tmp 12) (.tmp 18) 23 rfl rfl rfl hrun4 ?_)
      clear k0 k1 k2 k3 hrun4
      refine (he _).mono ?_
      by_cases h3 : 0 ≤ q
      · rw [decide_eq_true h3]
        have HsE : Hid (lEv ((e1, e2), s, q) = [(s, (e1, e2), true), (q, (e1, e2), false)]) := by show _ = _; unfold lEv; rw [if_pos h3]
        rintro r w5 ⟨rfl, hf5⟩
        have Hpe5 : Hid (w5.heap[pe]? = some (lifeCells ((e1, e2), s, q))) := hf5.kept Hpe4.out (fun h => h)
        have Ho5 : Hid (OwnV w5 (.slice ao4 l4 cp4) ((l.take i).flatMap lEv ++ [(s, (e1, e2), true)])) := Ho4.out.frame hf5 (fun _ _ h => h)
        have Hfw5 : Hid (Fr w w5 (fun _ => False)) := Hfw4.out.none hf5
        clear hf5 he j0 j1 j2 j3 h3
        obtain ⟨j0, j1, j2, j3⟩ := four_cells Hpe5.out
        obtain ⟨v6, w6, hrun6, ho6, hf6, hm6⟩ := app_event w5 (.slice ao4 l4 cp4) _ (q, (e1, e2), false) Ho5.out (by have := Hlen.out; rw [List.length_append, List.length_singleton]; omega)
        obtain ⟨ao6, l6, cp6, rfl⟩ : ∃ a l c, v6 = .slice a l c := by obtain ⟨a, c, e, -⟩ := ho6.rd.form; exact ⟨a, _, c, e⟩
        have Ho6 : Hid (OwnV w6 (.slice ao6 l6 cp6) ((l.take (i + 1)).flatMap lEv)) := by
          show OwnV _ _ _
          rw [Hst.out, HsE.out]
          have := ho6
          rw [List.append_assoc] at this
          exact this
        have Hf6 : Hid (Fr w5 w6 (fun k => (Value.slice ao4 l4 cp4).ownBlock = some k)) := ((Fr.refl w5 (fun k => (Value.slice ao4 l4 cp4).ownBlock = some k)).alloc _).trans hf6 (fun _ _ h => h)
        have Hvn6 : Hid (∀ k, (Value.slice ao6 l6 cp6).ownBlock = some k → w.heap.size ≤ k) := fun k hk => by
          rcases hm6 k hk with h2 | h2
          · exact Hvn4.out k h2
          · have h3 := Hfw5.out.size; omega
        have Hfw6 : Hid (Fr w w6 (fun _ => False)) := Hfw5.out.newer Hf6.out (fun k hk => Hvn4.out k hk)
        clear ho6 hf6 hm6
        go_wp2_with (at_builtin; refine wpList_append_run rfl (.tmp 22) (.tmp 28) 23 rfl rfl rfl hrun6 ?_)
        go_roundg (m - (i + 1))
        case rel => exact ⟨i + 1, rfl, by omega, by go_num, Ho6.out, Hvn6.out, Hfw6.out⟩
        case measure => rw [Hg.out]; omega
      · rw [decide_eq_false h3]
        have HsE : Hid (lEv ((e1, e2), s, q) = [(s, (e1, e2), true)]) := by show _ = _; unfold lEv; rw [if_neg h3]
        rintro r w5 ⟨rfl, hf5⟩
        have Ho5 : Hid (OwnV w5 (.slice ao4 l4 cp4) ((l.take (i + 1)).flatMap lEv)) := by
          show OwnV _ _ _
          rw [Hst.out, HsE.out]
          exact Ho4.out.frame hf5 (fun _ _ h => h)
        have Hfw5 : Hid (Fr w w5 (fun _ => False)) := Hfw4.out.none hf5
        clear hf5 he j0 j1 j2 j3 h3
        go_wp2_with fail
        go_roundg (m - (i + 1))
        case rel => exact ⟨i + 1, rfl, by omega, by go_num, Ho5.out, Hvn4.out, Hfw5.out⟩
        case measure => rw [Hg.out]; omega
    · have hin : ¬ (i : Int) < (m : Int) := by omega
      have hin' : decide (i < m) = false := decide_eq_false hlt
      have Hall : Hid ((l.take i).flatMap lEv = T) := by show _ = _; rw [List.take_of_length_le (by rw [← Hm.out]; omega), HT.out]
      have Hov2 : Hid (OwnV wr (.slice a3 n3 c3) T) := by show OwnV _ _ _; rw [← Hall.out]; exact Hov.out
      go_wp2_with fail
      go_ret
      exact ⟨⟨_, rfl, Hov2.out, Hvn.out⟩, Hf.out⟩

end Go.Proofs.YtnffjafddbbjaaaGreatDoor

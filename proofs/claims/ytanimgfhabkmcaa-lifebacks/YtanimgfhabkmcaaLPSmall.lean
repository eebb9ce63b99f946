/-
  The contracts of life's small functions: ends, There, fits, count, ahead.
-/
import Derived.Test.YtanimgfhabkmcaaJ2
import Derived.Test.YtanimgfhabkmcaaJ3
import Derived.Test.YtanimgfhabkmcaaEPLess
import Derived.Deep.CutRange
import Derived.Deep.LoopGhost
namespace Go.Proofs.Ytanimgfhabkmcaa
open Go.RowKit

/-- A life in a block of its own. -/
abbrev lifeCells (x : Lf) : Obj := .cells #[.int .u32 (x.1.1 : Int), .int .u32 (x.1.2 : Int), .int .i64 x.2.1, .int .i64 x.2.2] 56 (0, 0)

set_option maxRecDepth 4000 in
set_option maxHeartbeats 400000 in
theorem ends_any (x : Lf) (w : World) : Calls Try.prog 45 #[lifeV x] w fun r w' => r = .returned (.bool (decide (0 ≤ x.2.2))) ∧ Fr w w' (fun _ => False) := by
  obtain ⟨⟨e1, e2⟩, s, q⟩ := x
  unfold lifeV
  dsimp only
  obtain ⟨B, hB⟩ : ∃ B, decide (0 ≤ q) = B := ⟨_, rfl⟩
  rw [hB]
  go_enter Try.func45, Try.ntmps45
  go_wp2
  go_ret
  exact ⟨by first | rfl | rw [hB], (Fr.refl w _).alloc _⟩

set_option maxRecDepth 4000 in
set_option maxHeartbeats 800000 in
theorem there_any (x : Lf) (t : Int) (w : World) : Calls Try.prog 20 #[lifeV x, .int .i64 t] w fun r w' => r = .returned (.bool (thereL t x)) ∧ Fr w w' (fun _ => False) := by
  obtain ⟨T, hT⟩ : ∃ T, T = thereL t x := ⟨_, rfl⟩
  rw [← hT]
  have he := ends_any x
  obtain ⟨⟨e1, e2⟩, s, q⟩ := x
  have HT : Hid (T = (decide (s ≤ t) && (decide (q < 0) || decide (t < q)))) := hT
  unfold lifeV at he ⊢
  dsimp only at he ⊢
  clear hT
  go_enter Try.func20, Try.ntmps20
  go_upto_region 1 with fail
  obtain ⟨p, hp⟩ : ∃ p, p = w.heap.size := ⟨_, rfl⟩
  obtain ⟨wa, hwa⟩ : ∃ wa, wa = w.alloc (.cells #[.int .u32 (e1 : Int), .int .u32 (e2 : Int), .int .i64 s, .int .i64 q] 56) := ⟨_, rfl⟩
  rw [← hwa, ← hp]
  have Hp : Hid (wa.heap[p]? = some (lifeCells ((e1, e2), s, q))) := by show _ = _; rw [hwa, hp]; exact heap_alloc_new _ _
  have Hf : Hid (Fr w wa (fun _ => False)) := by show Fr _ _ _; rw [hwa]; exact (Fr.refl _ _).alloc _
  clear hwa hp
  obtain ⟨k0, k1, k2, k3⟩ := four_cells Hp.out
  by_cases h1 : s ≤ t
  · have d1 : decide (s ≤ t) = true := decide_eq_true h1
    clear h1
    go_wp2_with fail
    refine (he _).mono ?_
    by_cases h2 : 0 ≤ q
    · rw [decide_eq_true h2]
      rintro r w2 ⟨rfl, hf2⟩
      obtain ⟨j0, j1, j2, j3⟩ := four_cells (hf2.kept Hp.out (fun h => h))
      have Hf2 : Hid (Fr w w2 (fun _ => False)) := Hf.out.none hf2
      have HT2 : Hid (T = decide (t < q)) := by show _ = _; rw [HT.out, d1, decide_eq_false (by omega : ¬ q < 0)]; simp
      obtain ⟨B, hB⟩ : ∃ B, decide (t < q) = B := ⟨_, rfl⟩
      rw [hB] at HT2
      obtain rfl := HT2.out
      clear hf2 h2 k0 k1 k2 k3 HT HT2 he
      go_wp2_with fail
      go_ret
      exact ⟨by first | rfl | rw [hB], Hf2.out⟩
    · rw [decide_eq_false h2]
      rintro r w2 ⟨rfl, hf2⟩
      have Hf2 : Hid (Fr w w2 (fun _ => False)) := Hf.out.none hf2
      have HT2 : Hid (T = true) := by show _ = _; rw [HT.out, d1, decide_eq_true (by omega : q < 0)]; simp
      obtain rfl := HT2.out
      clear hf2 h2 k0 k1 k2 k3 HT HT2 he
      go_wp2_with fail
      go_ret
      exact ⟨rfl, Hf2.out⟩
  · have d1 : decide (s ≤ t) = false := decide_eq_false h1
    have HT2 : Hid (T = false) := by show _ = _; rw [HT.out, d1]; rfl
    obtain rfl := HT2.out
    clear h1 HT HT2 he
    go_wp2_with fail
    go_ret
    exact ⟨rfl, Hf.out⟩

set_option maxRecDepth 4000 in
set_option maxHeartbeats 400000 in
theorem lfits_any (n m : Nat) (w : World) (hm : m ≤ 1000000) : Calls Try.prog 35 #[.int .u64 (n : Int), .int .u64 (m : Int)] w fun r w' =>
    r = .returned (.bool (decide (n ≤ 4294967296))) ∧ Fr w w' (fun _ => False) := by
  have d2 : decide ((m : Int) ≤ 2147483648) = true := decide_eq_true (by omega)
  have d2' : decide (m ≤ 2147483648) = true := decide_eq_true (by omega)
  by_cases h : n ≤ 4294967296
  · have d1 : decide ((n : Int) ≤ 4294967296) = true := decide_eq_true (by omega)
    have d1' : decide (n ≤ 4294967296) = true := decide_eq_true h
    rw [d1']
    go_enter Try.func35, Try.ntmps35
    go_wp2
    go_ret
    exact ⟨rfl, Fr.refl w _⟩
  · have d1 : decide ((n : Int) ≤ 4294967296) = false := decide_eq_false (by omega)
    have d1' : decide (n ≤ 4294967296) = false := decide_eq_false h
    rw [d1']
    go_enter Try.func35, Try.ntmps35
    go_wp2
    go_ret
    exact ⟨rfl, Fr.refl w _⟩

/-- How many events lives have. -/
def cntL : List Lf → Nat
  | [] => 0
  | x :: r => (if 0 ≤ x.2.2 then 1 else 0) + cntL r
theorem cntL_le : ∀ l : List Lf, cntL l ≤ l.length
  | [] => Nat.le_refl _
  | x :: r => by
    have := cntL_le r
    rw [cntL, List.length_cons]
    split <;> omega
theorem cntL_take {l : List Lf} {i : Nat} {x : Lf} (h : l[i]? = some x) : cntL (l.take (i + 1)) = cntL (l.take i) + if 0 ≤ x.2.2 then 1 else 0 := by
  induction l generalizing i with
  | nil => simp at h
  | cons y r ih =>
    cases i with
    | zero =>
      simp at h
      subst h
      simp [cntL]
    | succ i =>
      rw [List.take_succ_cons, List.take_succ_cons, cntL, cntL, ih (by simpa using h)]
      omega

set_option maxRecDepth 4000 in
set_option maxHeartbeats 800000 in
theorem count_any (v : Value) (l : List Lf) (w : World) (h : RdL w v l) (hl : l.length ≤ 400000) : Calls Try.prog 36 #[v] w fun r w' => r = .returned (.int .u64 ((l.length + cntL l : Nat) : Int)) ∧ Fr w w' (fun _ => False) := by
  obtain ⟨a0, c0, rfl, hc0⟩ := h.form
  obtain ⟨m, hm⟩ : ∃ m, m = l.length := ⟨_, rfl⟩
  rw [← hm] at h hl hc0 ⊢
  obtain ⟨T, hT⟩ : ∃ T, T = m + cntL l := ⟨_, rfl⟩
  rw [← hT]
  have HT : Hid _ := hT
  clear hT
  have Hr : Hid (RdL w (.slice a0 m c0) l) := h
  have Hm : Hid _ := hm
  have wm : IntKind.u64.wrap (m : Int) = (m : Int) := by rw [IntKind.wrap_u64]; omega
  clear h hm
  go_enter Try.func36, Try.ntmps36
  go_wp2_with fail
  go_loopg [3, 11] m (fun g C I wr => ∃ i c : Nat, g = m - i ∧ i ≤ m ∧ I = .int .i64 (i : Int) ∧ C = .int .u64 (c : Int) ∧ c = m + cntL (l.take i) ∧ c ≤ 800000 ∧ Fr w wr (fun _ => False))
  case atStart => exact ⟨0, m, by omega, by omega, rfl, rfl, by simp [cntL], by omega, Fr.refl _ _⟩
  case round =>
    obtain ⟨i, c, hg, hi, rfl, rfl, hc, hcb, hf⟩ := hrel
    have Hg : Hid _ := hg
    have Hc : Hid _ := hc
    have Hf : Hid (Fr w wr (fun _ => False)) := hf
    clear hg hc hf
    by_cases hlt : i < m
    · have hin : (i : Int) < (m : Int) := by omega
      have hin' : decide (i < m) = true := decide_eq_true hlt
      obtain ⟨⟨⟨e1, e2⟩, s, q⟩, ha⟩ : ∃ a, l[i]? = some a := ⟨_, List.getElem?_eq_getElem (by rw [← Hm.out]; omega)⟩
      have Hct : Hid (cntL (l.take (i + 1)) = cntL (l.take i) + if 0 ≤ q then 1 else 0) := cntL_take ha
      have Hcl : Hid (cntL (l.take (i + 1)) ≤ m) := by show _ ≤ _; refine Nat.le_trans (cntL_le _) ?_; rw [List.length_take, ← Hm.out]; exact Nat.min_le_right _ _
      obtain ⟨bk, off, cap, e3, hbk, hca⟩ := Hr.out.get i _ ha
      simp only [Value.slice.injEq] at e3
      obtain ⟨rfl, -, rfl⟩ := e3
      obtain ⟨k0, k1, k2, k3⟩ := hca wr (Hf.out.mono (fun _ _ h => h.elim))
      have hi0 : (0 : Int) ≤ (i : Int) := by omega
      clear hca ha hbk
      go_upto_region 5 with fail
      obtain ⟨pe, hpe⟩ : ∃ p, p = wr.heap.size := ⟨_, rfl⟩
      obtain ⟨wE, hwE⟩ : ∃ x, x = wr.alloc (.cells #[.int .u32 (e1 : Int), .int .u32 (e2 : Int), .int .i64 s, .int .i64 q] 56) := ⟨_, rfl⟩
      rw [← hwE, ← hpe]
      have Hpe : Hid (wE.heap[pe]? = some (lifeCells ((e1, e2), s, q))) := by show _ = _; rw [hwE, hpe]; exact heap_alloc_new _ _
      have HfE : Hid (Fr w wE (fun _ => False)) := by show Fr _ _ _; rw [hwE]; exact Hf.out.alloc _
      clear k0 k1 k2 k3 hwE hpe
      obtain ⟨k0, k1, k2, k3⟩ := four_cells Hpe.out
      have he := ends_any ((e1, e2), s, q) wE
      unfold lifeV at he
      dsimp only at he
      go_wp2_with fail
      refine he.mono ?_
      by_cases h2 : 0 ≤ q
      · rw [decide_eq_true h2]
        have Hcx : Hid (c + 1 = m + cntL (l.take (i + 1))) := by show _ = _; rw [Hct.out, if_pos h2, Hc.out]; omega
        have hcb2 : c + 1 ≤ 800000 := by have := Hcx.out; have := Hcl.out; omega
        rintro r w2 ⟨rfl, hf2⟩
        have Hf2 : Hid (Fr w w2 (fun _ => False)) := HfE.out.none hf2
        clear hf2 he k0 k1 k2 k3 h2
        go_wp2_with fail
        go_roundg (m - (i + 1))
        case rel => exact ⟨i + 1, c + 1, rfl, by omega, by go_num, by go_num, Hcx.out, hcb2, Hf2.out⟩
        case measure => rw [Hg.out]; omega
      · rw [decide_eq_false h2]
        have Hcx : Hid (c = m + cntL (l.take (i + 1))) := by show _ = _; rw [Hct.out, if_neg h2, Hc.out]; omega
        rintro r w2 ⟨rfl, hf2⟩
        have Hf2 : Hid (Fr w w2 (fun _ => False)) := HfE.out.none hf2
        clear hf2 he k0 k1 k2 k3 h2
        go_wp2_with fail
        go_roundg (m - (i + 1))
        case rel => exact ⟨i + 1, c, rfl, by omega, by go_num, rfl, Hcx.out, hcb, Hf2.out⟩
        case measure => rw [Hg.out]; omega
    · have hin : ¬ (i : Int) < (m : Int) := by omega
      have hin' : decide (i < m) = false := decide_eq_false hlt
      have Hcx : Hid (T = c) := by
        show _ = _
        rw [HT.out, Hc.out, List.take_of_length_le (by rw [← Hm.out]; omega)]
      obtain rfl := Hcx.out
      go_wp2_with fail
      go_ret
      exact ⟨rfl, Hf.out⟩

set_option maxRecDepth 4000 in
set_option maxHeartbeats 800000 in
theorem ahead_any (a x : Lf) (w : World) : Calls Try.prog 60 #[lifeV a, lifeV x] w fun r w' => r = .returned (.bool (!lOrd a x)) ∧ Fr w w' (fun _ => False) := by
  obtain ⟨T, hT⟩ : ∃ T, T = !lOrd a x := ⟨_, rfl⟩
  rw [← hT]
  have he := ends_any a
  have hl := less_any a.1 x.1
  obtain ⟨⟨a1, a2⟩, s, q⟩ := a
  obtain ⟨⟨x1, x2⟩, s', q'⟩ := x
  have HT : Hid _ := hT
  unfold lifeV at he ⊢
  unfold edgeV at hl
  dsimp only at he hl ⊢
  clear hT
  go_enter Try.func60, Try.ntmps60
  go_upto_region 1 with fail
  obtain ⟨p, hp⟩ : ∃ p, p = w.heap.size := ⟨_, rfl⟩
  obtain ⟨p2, hp2⟩ : ∃ p2, p2 = w.heap.size + 1 := ⟨_, rfl⟩
  obtain ⟨wa, hwa⟩ : ∃ wa, wa = (w.alloc (.cells #[.int .u32 (a1 : Int), .int .u32 (a2 : Int), .int .i64 s, .int .i64 q] 56)).alloc (.cells #[.int .u32 (x1 : Int), .int .u32 (x2 : Int), .int .i64 s', .int .i64 q'] 56) := ⟨_, rfl⟩
  rw [← hwa]
  have Hp : Hid (wa.heap[p]? = some (lifeCells ((a1, a2), s, q))) := by show _ = _; rw [hwa, hp]; exact blk_alloc _ (heap_alloc_new _ _)
  have Hp2 : Hid (wa.heap[p2]? = some (lifeCells ((x1, x2), s', q'))) := by
    show _ = _
    have e : (w.alloc (.cells #[.int .u32 (a1 : Int), .int .u32 (a2 : Int), .int .i64 s, .int .i64 q] 56)).heap.size = p2 := by rw [hp2]; simp
    rw [hwa, ← e]
    exact heap_alloc_new _ _
  have Hf : Hid (Fr w wa (fun _ => False)) := by show Fr _ _ _; rw [hwa]; exact ((Fr.refl _ _).alloc _).alloc _
  rw [← hp]
  rw [← hp] at hp2
  clear hwa hp
  subst hp2
  obtain ⟨k0, k1, k2, k3⟩ := four_cells Hp.out
  obtain ⟨j0, j1, j2, j3⟩ := four_cells Hp2.out
  by_cases h1 : a1 = x1
  · subst h1
    by_cases h2 : a2 = x2
    · subst h2
      have HT1 : Hid (T = (decide (0 ≤ q) && decide (q < s'))) := by
        show _ = _
        rw [HT.out]
        unfold lOrd
        dsimp only
        rw [eLess_irrefl]
        simp
      clear HT
      go_wp2_with fail
      refine (he _).mono ?_
      by_cases h3 : 0 ≤ q
      · rw [decide_eq_true h3]
        rintro r w2 ⟨rfl, hf2⟩
        obtain ⟨i0, i1, i2, i3⟩ := four_cells (hf2.kept Hp.out (fun h => h))
        obtain ⟨l0, l1, l2, l3⟩ := four_cells (hf2.kept Hp2.out (fun h => h))
        have Hf2 : Hid (Fr w w2 (fun _ => False)) := Hf.out.none hf2
        obtain ⟨B, hB⟩ : ∃ B, decide (q < s') = B := ⟨_, rfl⟩
        have HT2 : Hid (T = B) := by show _ = _; rw [HT1.out, decide_eq_true h3, hB]; rfl
        obtain rfl := HT2.out
        clear hf2 h3 k0 k1 k2 k3 j0 j1 j2 j3 he hl HT1 HT2
        go_wp2_with fail
        go_ret
        exact ⟨by first | rfl | rw [hB], Hf2.out⟩
      · rw [decide_eq_false h3]
        rintro r w2 ⟨rfl, hf2⟩
        have Hf2 : Hid (Fr w w2 (fun _ => False)) := Hf.out.none hf2
        have HT2 : Hid (T = false) := by show _ = _; rw [HT1.out, decide_eq_false h3]; rfl
        obtain rfl := HT2.out
        clear hf2 h3 k0 k1 k2 k3 j0 j1 j2 j3 he hl HT1 HT2
        go_wp2_with fail
        go_ret
        exact ⟨rfl, Hf2.out⟩
    · go_wp2_with fail
      refine (hl _).mono ?_
      rintro r w2 ⟨rfl, hf2⟩
      have Hf2 : Hid (Fr w w2 (fun _ => False)) := Hf.out.none hf2
      obtain ⟨B, hB⟩ : ∃ B, B = eLess (a1, a2) (a1, x2) := ⟨_, rfl⟩
      have HT2 : Hid (T = B) := by show _ = _; rw [HT.out, hB]; unfold lOrd; dsimp only; rw [decide_eq_false (p := (a1, a2) = (a1, x2)) (by simp only [Prod.mk.injEq]; omega)]; simp
      rw [← hB]
      obtain rfl := HT2.out
      clear hf2 k0 k1 k2 k3 j0 j1 j2 j3 he hl hB HT HT2
      go_wp2_with fail
      go_ret
      exact ⟨rfl, Hf2.out⟩
  · go_wp2_with fail
    refine (hl _).mono ?_
    rintro r w2 ⟨rfl, hf2⟩
    have Hf2 : Hid (Fr w w2 (fun _ => False)) := Hf.out.none hf2
    obtain ⟨B, hB⟩ : ∃ B, B = eLess (a1, a2) (x1, x2) := ⟨_, rfl⟩
    have HT2 : Hid (T = B) := by show _ = _; rw [HT.out, hB]; unfold lOrd; dsimp only; rw [decide_eq_false (p := (a1, a2) = (x1, x2)) (by simp only [Prod.mk.injEq]; omega)]; simp
    rw [← hB]
    obtain rfl := HT2.out
    clear hf2 k0 k1 k2 k3 j0 j1 j2 j3 he hl hB HT HT2
    go_wp2_with fail
    go_ret
    exact ⟨rfl, Hf2.out⟩

end Go.Proofs.Ytanimgfhabkmcaa

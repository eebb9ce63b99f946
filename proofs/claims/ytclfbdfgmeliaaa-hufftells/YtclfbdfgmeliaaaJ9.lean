/-
  Texts of ours, joined: MLay MCmp MSort MLens HPutP HReadP HProof.
-/
import Derived.Test.YtclfbdfgmeliaaaRows
import Derived.Shelf.SlSortCmp.WholeK
import Derived.Test.YtclfbdfgmeliaaaJ7
import Derived.Test.YtclfbdfgmeliaaaJ3
import Derived.Shelf.SlSortCmp.NoneTotal
import Derived.Test.YtclfbdfgmeliaaaJ5
import Derived.Test.YtclfbdfgmeliaaaJ6
import Derived.Test.YtclfbdfgmeliaaaJ8

/-
  The library's sort by a function, laid at the program's items.
-/
namespace Go.Proofs.Ytclfbdfgmeliaaa
open Go.Shelf

def sortIt_ren : Go.Shelf.Ren := ⟨fun | 6 => 48 | 15 => 67 | 14 => 66 | 28 => 81 | 29 => 82 | 20 => 73 | 21 => 74 | 22 => 75 | 23 => 76 | 24 => 77 | 25 => 78 | 26 => 79 | 27 => 80 | 46 => 85 | 47 => 86 | 48 => 87 | 49 => 88 | 50 => 89 | 57 => 90 | n => n, fun | 22 => 74 | 24 => 77 | 25 => 98 | 3 => 3 | 39 => 67 | 0 => 0 | 53 => 133 | 55 => 42 | 4 => 4 | 46 => 127 | 45 => 126 | 50 => 64 | 5 => 5 | 9 => 9 | 66 => 135 | 70 => 138 | 76 => 140 | 77 => 141 | n => n, fun | n => n⟩
theorem sortIt : Go.Proofs.SlLaysF0.n6 Try.prog sortIt_ren := {
  mixed := by kernel_rfl,
  f6 := ⟨Try.f48.name, by decide, Try.func48.trans (congrArg some (by kernel_rfl))⟩,
  f14 := ⟨Try.f66.name, by decide, Try.func66.trans (congrArg some (by kernel_rfl))⟩,
  f15 := Try.func67.trans (congrArg some (by kernel_rfl)),
  f20 := ⟨Try.f73.name, by decide, Try.func73.trans (congrArg some (by kernel_rfl))⟩,
  f21 := ⟨Try.f74.name, by decide, Try.func74.trans (congrArg some (by kernel_rfl))⟩,
  f22 := ⟨Try.f75.name, by decide, Try.func75.trans (congrArg some (by kernel_rfl))⟩,
  f23 := ⟨Try.f76.name, by decide, Try.func76.trans (congrArg some (by kernel_rfl))⟩,
  f24 := ⟨Try.f77.name, by decide, Try.func77.trans (congrArg some (by kernel_rfl))⟩,
  f25 := ⟨Try.f78.name, by decide, Try.func78.trans (congrArg some (by kernel_rfl))⟩,
  f26 := ⟨Try.f79.name, by decide, Try.func79.trans (congrArg some (by kernel_rfl))⟩,
  f27 := ⟨Try.f80.name, by decide, Try.func80.trans (congrArg some (by kernel_rfl))⟩,
  f28 := Try.func81.trans (congrArg some (by kernel_rfl)),
  f29 := Try.func82.trans (congrArg some (by kernel_rfl)),
  f46 := ⟨Try.f85.name, by decide, Try.func85.trans (congrArg some (by kernel_rfl))⟩,
  f47 := Try.func86.trans (congrArg some (by kernel_rfl)),
  f48 := Try.func87.trans (congrArg some (by kernel_rfl)),
  f49 := ⟨Try.f88.name, by decide, Try.func88.trans (congrArg some (by kernel_rfl))⟩,
  f50 := ⟨Try.f89.name, by decide, Try.func89.trans (congrArg some (by kernel_rfl))⟩,
  f57 := ⟨Try.f90.name, by decide, Try.func90.trans (congrArg some (by kernel_rfl))⟩,
  t0 := Try.underlying0,
  a0 := Try.isAgg0,
  z0 := Try.sizeOf0,
  v0 := Try.zeroValue0,
  t3 := Try.underlying3,
  a3 := Try.isAgg3,
  z3 := Try.sizeOf3,
  v3 := Try.zeroValue3,
  t4 := Try.underlying4,
  a4 := Try.isAgg4,
  z4 := Try.sizeOf4,
  v4 := Try.zeroValue4,
  t5 := Try.underlying5,
  a5 := Try.isAgg5,
  z5 := Try.sizeOf5,
  v5 := Try.zeroValue5,
  t9 := Try.underlying9,
  a9 := Try.isAgg9,
  z9 := Try.sizeOf9,
  v9 := Try.zeroValue9,
  t22 := Try.underlying74,
  a22 := Try.isAgg74,
  z22 := Try.sizeOf74,
  v22 := Try.zeroValue74,
  t25 := Try.underlying98,
  a25 := Try.isAgg98,
  z25 := Try.sizeOf98,
  v25 := Try.zeroValue98,
  t39 := Try.underlying67,
  a39 := Try.isAgg67,
  z39 := Try.sizeOf67,
  v39 := Try.zeroValue67,
  t45 := Try.underlying126,
  a45 := Try.isAgg126,
  z45 := Try.sizeOf126,
  v45 := Try.zeroValue126,
  t46 := Try.underlying127,
  a46 := Try.isAgg127,
  z46 := Try.sizeOf127,
  v46 := Try.zeroValue127,
  t50 := Try.underlying64,
  a50 := Try.isAgg64,
  z50 := Try.sizeOf64,
  v50 := Try.zeroValue64,
  t53 := Try.underlying133,
  a53 := Try.isAgg133,
  z53 := Try.sizeOf133,
  v53 := Try.zeroValue133,
  t55 := Try.underlying42,
  a55 := Try.isAgg42,
  z55 := Try.sizeOf42,
  v55 := Try.zeroValue42,
  t66 := Try.underlying135,
  a66 := Try.isAgg135,
  z66 := Try.sizeOf135,
  v66 := Try.zeroValue135,
  t70 := Try.underlying138,
  a70 := Try.isAgg138,
  z70 := Try.sizeOf138,
  v70 := Try.zeroValue138,
  t76 := Try.underlying140,
  a76 := Try.isAgg140,
  z76 := Try.sizeOf140,
  v76 := Try.zeroValue140,
  t77 := Try.underlying141,
  a77 := Try.isAgg141,
  z77 := Try.sizeOf141,
  v77 := Try.zeroValue141 }

end Go.Proofs.Ytclfbdfgmeliaaa

/-
  The contract of the function by which the program's items are sorted.
-/
namespace Go.Proofs.Ytclfbdfgmeliaaa
open Go.RowKit Go.Sort

set_option maxRecDepth 4000 in
set_option maxHeartbeats 400000 in
theorem isNaN_any (x : Int) (w : World) : Calls Try.prog 68 #[.int .i64 x] w fun e w' => e = .returned (.bool false) ∧ w' = w := by
  go_enter Try.func68, Try.ntmps68
  go_wp2
  go_ret
  exact ⟨rfl, rfl⟩

/-- -1, 0, 1. -/
def cmpZ (x y : Int) : Int := if x < y then -1 else if y < x then 1 else 0
set_option maxRecDepth 4000 in
set_option maxHeartbeats 400000 in
theorem compare_any (x y : Int) (w : World) : Calls Try.prog 51 #[.int .i64 x, .int .i64 y] w fun e w' => e = .returned (.int .i64 (cmpZ x y)) ∧ w' = w := by
  obtain ⟨r, hr⟩ : ∃ r, r = cmpZ x y := ⟨_, rfl⟩
  rw [← hr]
  have Hr : Hid _ := hr
  clear hr
  have Hc : Hid (r = if x < y then -1 else if y < x then 1 else 0) := Hr
  rcases Int.lt_trichotomy x y with h | h | h
  · have He : Hid (r = -1) := by show _ = _; rw [Hc.out, if_pos h]
    clear Hc Hr
    go_enter Try.func51, Try.ntmps51
    go_wp2_with fail
    refine (isNaN_any _ _).mono ?_
    rintro e w' ⟨rfl, rfl⟩
    go_wp2_with fail
    refine (isNaN_any _ _).mono ?_
    rintro e w' ⟨rfl, rfl⟩
    go_wp2
    go_ret
    exact ⟨by rw [He.out]; rfl, rfl⟩
  · have He : Hid (r = 0) := by show _ = _; rw [Hc.out, if_neg (by omega), if_neg (by omega)]
    clear Hc Hr
    go_enter Try.func51, Try.ntmps51
    go_wp2_with fail
    refine (isNaN_any _ _).mono ?_
    rintro e w' ⟨rfl, rfl⟩
    go_wp2_with fail
    refine (isNaN_any _ _).mono ?_
    rintro e w' ⟨rfl, rfl⟩
    go_wp2
    go_ret
    exact ⟨by rw [He.out]; rfl, rfl⟩
  · have He : Hid (r = 1) := by show _ = _; rw [Hc.out, if_neg (by omega), if_pos h]
    clear Hc Hr
    go_enter Try.func51, Try.ntmps51
    go_wp2_with fail
    refine (isNaN_any _ _).mono ?_
    rintro e w' ⟨rfl, rfl⟩
    go_wp2_with fail
    refine (isNaN_any _ _).mono ?_
    rintro e w' ⟨rfl, rfl⟩
    have h2 : ¬ x < y := by omega
    go_wp2
    go_ret
    exact ⟨by rw [He.out]; rfl, rfl⟩

/-- The first that isn't 0. -/
def orZ (a b : Int) : Int := if a = 0 then b else a
set_option maxRecDepth 4000 in
set_option maxHeartbeats 400000 in
theorem or_any (v : Value) (a b : Int) (w : World) (h : ReadsZ w v [a, b]) : Calls Try.prog 50 #[v] w fun e w' => e = .returned (.int .i64 (orZ a b)) ∧ w' = w := by
  obtain ⟨a0, c0, rfl, hc0⟩ := h.form
  obtain ⟨bb, off, cp, e, hb0, kx⟩ := h.get 0 a rfl
  obtain ⟨bb', off', cp', e', -, ky⟩ := h.get 1 b rfl
  simp only [Value.slice.injEq] at e e'
  obtain ⟨rfl, -, rfl⟩ := e
  obtain ⟨e', -, -⟩ := e'
  simp only [Option.some.injEq, Addr.mk.injEq, and_true] at e'
  obtain ⟨rfl, rfl⟩ := e'
  have d0 := kx w (Fr.refl _ _)
  have d1 := ky w (Fr.refl _ _)
  rw [Nat.add_zero] at d0
  obtain ⟨r, hr⟩ : ∃ r, r = orZ a b := ⟨_, rfl⟩
  rw [← hr]
  have Hr : Hid _ := hr
  clear hr h kx ky
  go_enter Try.func50, Try.ntmps50
  go_wp2_with fail
  go_loopg [8] 2 (fun g I wr => ∃ i : Nat, g = 2 - i ∧ i ≤ 2 ∧ I = .int .i64 (i : Int) ∧ wr = w ∧ (1 ≤ i → a = 0) ∧ (2 ≤ i → b = 0))
  case atStart => exact ⟨0, rfl, by omega, rfl, rfl, by omega, by omega⟩
  case round =>
    obtain ⟨i, hg, hi, rfl, rfl, ha, hb⟩ := hrel
    have hii : i = 0 ∨ i = 1 ∨ i = 2 := by omega
    rcases hii with rfl | rfl | rfl
    · by_cases h0 : a = 0
      · subst h0
        go_wp2
        go_roundg 1
        case rel => exact ⟨1, rfl, by omega, rfl, rfl, fun _ => by first | rfl | trivial, by omega⟩
        case measure => omega
      · have h1 : (a != 0) = true := by simpa using h0
        have He : Hid (r = a) := by show _ = _; rw [Hr.out]; unfold orZ; rw [if_neg h0]
        go_wp2
        go_ret
        exact ⟨by rw [He.out]; rfl, rfl⟩
    · obtain rfl := ha (by omega)
      by_cases h0 : b = 0
      · subst h0
        go_wp2
        go_roundg 0
        case rel => exact ⟨2, rfl, by omega, rfl, rfl, fun _ => by first | rfl | trivial, fun _ => by first | rfl | trivial⟩
        case measure => omega
      · have h1 : (b != 0) = true := by simpa using h0
        have He : Hid (r = b) := by show _ = _; rw [Hr.out]; unfold orZ; rw [if_pos rfl]
        go_wp2
        go_ret
        exact ⟨by rw [He.out]; rfl, rfl⟩
    · obtain rfl := ha (by omega)
      obtain rfl := hb (by omega)
      have He : Hid (r = 0) := by show _ = _; rw [Hr.out]; rfl
      go_wp2
      go_ret
      exact ⟨by rw [He.out]; rfl, rfl⟩

set_option maxRecDepth 4000 in
set_option maxHeartbeats 400000 in
theorem closure_any (x y : Int × Int) (w : World) : Calls Try.prog 49 #[.agg #[.int .i64 x.1, .int .i64 x.2], .agg #[.int .i64 y.1, .int .i64 y.2]] w fun e w' => e = .returned (.int .i64 (orZ (cmpZ x.1 y.1) (cmpZ x.2 y.2))) ∧ ∃ q os', w' = grow (w.drewN q) os' := by
  obtain ⟨r, hr⟩ : ∃ r, r = orZ (cmpZ x.1 y.1) (cmpZ x.2 y.2) := ⟨_, rfl⟩
  rw [← hr]
  have Hr : Hid _ := hr
  clear hr
  obtain ⟨x1, x2⟩ := x
  obtain ⟨y1, y2⟩ := y
  simp only at Hr ⊢
  have hb1 : ((w.alloc (.cells #[.int .i64 x1, .int .i64 x2] 77)).alloc (.cells #[.int .i64 y1, .int .i64 y2] 77)).drew.heap[w.heap.size]? = some (.cells #[.int .i64 x1, .int .i64 x2] 77 (0, 0)) := blk_alloc _ (heap_alloc_new _ _)
  have hb2 : ((w.alloc (.cells #[.int .i64 x1, .int .i64 x2] 77)).alloc (.cells #[.int .i64 y1, .int .i64 y2] 77)).drew.heap[w.heap.size + 1]? = some (.cells #[.int .i64 y1, .int .i64 y2] 77 (0, 0)) := by
    have := heap_alloc_new (w.alloc (.cells #[.int .i64 x1, .int .i64 x2] 77)) (.cells #[.int .i64 y1, .int .i64 y2] 77)
    rw [World.size_alloc] at this
    exact this
  obtain ⟨W2, hW2⟩ : ∃ W2, W2 = ((w.alloc (.cells #[.int .i64 x1, .int .i64 x2] 77)).alloc (.cells #[.int .i64 y1, .int .i64 y2] 77)).drew := ⟨_, rfl⟩
  rw [← hW2] at hb1 hb2
  have k1 : ∀ x, Fr W2 x (fun _ => False) → x.cell? ⟨w.heap.size, 0, none⟩ = some (.int .i64 x1) := fun x hx => two_cell0 (hx.kept hb1 (fun h => h))
  have k2 : ∀ x, Fr W2 x (fun _ => False) → x.cell? ⟨w.heap.size, 1, none⟩ = some (.int .i64 x2) := fun x hx => two_cell1 (hx.kept hb1 (fun h => h))
  have k3 : ∀ x, Fr W2 x (fun _ => False) → x.cell? ⟨w.heap.size + 1, 0, none⟩ = some (.int .i64 y1) := fun x hx => two_cell0 (hx.kept hb2 (fun h => h))
  have k4 : ∀ x, Fr W2 x (fun _ => False) → x.cell? ⟨w.heap.size + 1, 1, none⟩ = some (.int .i64 y2) := fun x hx => two_cell1 (hx.kept hb2 (fun h => h))
  have HW : Hid _ := hW2
  clear hb1 hb2 hW2
  go_enter Try.func49, Try.ntmps49
  go_wp2_with fail
  refine wp_region_tree (fun _ => False) (.take 0 (.take 1 (.take 2 (.take 3 (.take 5 (.take 6 (.take 7 (.take 8 (.one 4 (.one 9 (.one 10 (.one 11 (.take 12 .nil))))))))))))) (by kernel_rfl) (by kernel_rfl) (by decide) (by kernel_rfl) ?_
  rw [← HW.out]
  repeat (refine wpT_take (v := ?_) rfl rfl (fun x hx => ?_) ?_; rotate_left; (focus (go_simp; with_reducible rfl)); simp only [Act.put, List.setIfInBounds_toArray, List.set_cons_zero, List.set_cons_succ])
  refine wpT_one rfl rfl (fun K hK => ?_)
  go_simp
  refine (compare_any _ _ _).mono ?_
  rintro e w' ⟨rfl, rfl⟩
  refine hK _ _ (Fr.refl _ _) ?_
  clear hK K
  refine wpT_one rfl rfl (fun K hK => ?_)
  go_simp
  refine (compare_any _ _ _).mono ?_
  rintro e w' ⟨rfl, rfl⟩
  refine hK _ _ (Fr.refl _ _) ?_
  clear hK K
  refine wpT_one rfl rfl (fun K hK => ?_)
  go_simp
  refine hK _ _ ((Fr.refl _ (fun _ => False)).alloc _) ?_
  clear hK K
  refine wpT_one rfl rfl (fun K hK => ?_)
  go_simp
  refine (or_any _ (cmpZ x1 y1) (cmpZ x2 y2) _ ?rd).mono ?_
  case rd => exact holds_lit w' 3 (zrow [cmpZ x1 y1, cmpZ x2 y2]) (by simp [zrow])
  rintro e w3 ⟨rfl, rfl⟩
  refine hK _ _ (Fr.refl _ _) ?_
  clear hK K
  repeat (refine wpT_take (v := ?_) rfl rfl (fun x hx => ?_) ?_; rotate_left; (focus (go_simp; with_reducible rfl)); simp only [Act.put, List.setIfInBounds_toArray, List.set_cons_zero, List.set_cons_succ])
  unfold wpT
  go_wp2
  go_ret
  refine ⟨by rw [Hr.out]; rfl, 1, #[.cells #[.int .i64 x1, .int .i64 x2] 77, .cells #[.int .i64 y1, .int .i64 y2] 77, .cells #[.int .i64 (cmpZ x1 y1), .int .i64 (cmpZ x2 y2)] 3], ?_⟩
  rw [HW.out, alloc_eq_grow, alloc_eq_grow, alloc_eq_grow]
  change grow (grow (grow (w.drewN 1) #[_]) #[_]) #[_] = _
  rw [grow_grow, grow_grow]
  rfl

/-- What the function answers. -/
def cfI (x y : Int × Int) : Int := orZ (cmpZ x.1 y.1) (cmpZ x.2 y.2)
theorem ltOf_cfI (x y : Int × Int) : ltOf cfI x y = ltI x y := by
  unfold ltOf cfI ltI orZ cmpZ
  obtain ⟨a, b⟩ := x
  obtain ⟨c, d⟩ := y
  simp only
  rcases Int.lt_trichotomy a c with h | h | h
  · rw [if_pos h]; simp [h]
  · subst h
    rcases Int.lt_trichotomy b d with h | h | h
    · simp [h]
    · subst h; simp
    · have : ¬ b < d := by omega
      simp [h, this]
  · have h1 : ¬ a < c := by omega
    have h2 : a ≠ c := by omega
    simp [h, h1, h2]
theorem swoI : SWO (ltOf cfI) where
  irrefl x := by rw [ltOf_cfI]; unfold ltI; rw [decide_eq_false_iff_not]; omega
  trans x y z h1 h2 := by rw [ltOf_cfI] at *; unfold ltI at *; rw [decide_eq_true_eq] at *; omega
  ntrans x y z h1 h2 := by rw [ltOf_cfI] at *; unfold ltI at *; rw [decide_eq_false_iff_not] at *; omega
theorem cmpLays (blk off size : Nat) (w : World) : CmpLays Try.prog 49 #[] enc2 2 cfI blk off size w :=
  fun _ _ _ _ x y => closure_any x y _

end Go.Proofs.Ytclfbdfgmeliaaa

/-
  The contract of merge's sorted: the coins by count, then by symbol.
-/
namespace Go.Proofs.Ytclfbdfgmeliaaa
open Go.RowKit
open Go.Sort (flatK get_flatK size_flatK HoldsK putRowK putRow putCells mapBlock onCells grow SWO PermIn SortedIn heap_grow_old)

theorem flat_xrow (d : List (Int × Int)) : (flatK enc2 2 d.toArray).toList = xrow d := by
  apply List.ext_getElem?
  intro t
  rcases Nat.lt_or_ge t (d.length * 2) with h | h
  · have e1 : (flatK enc2 2 d.toArray).toList[t]? = some ((enc2 d.toArray[t / 2]!)[t % 2]!) := by
      have := get_flatK enc2 2 d.toArray t (by simpa using h)
      rw [getElem!_pos _ t (by simpa using h)] at this
      rw [Array.getElem?_toList, Array.getElem?_eq_getElem (by simpa using h), this]
    have hq : t / 2 < d.length := by omega
    obtain ⟨h0, h1⟩ := xrow_get d (t / 2) d[t / 2] (List.getElem?_eq_getElem hq)
    rw [e1]
    have e2 : d.toArray[t / 2]! = d[t / 2] := by rw [getElem!_pos _ _ (by simpa using hq)]; simp
    rw [e2]
    rcases (by omega : t % 2 = 0 ∨ t % 2 = 1) with hm | hm
    · have e3 : (xrow d)[t]? = some (.int .i64 d[t / 2].1) := by rw [← h0]; congr 1; omega
      rw [hm, e3]
      simp [enc2]
    · have e3 : (xrow d)[t]? = some (.int .i64 d[t / 2].2) := by rw [← h1]; congr 1; omega
      rw [hm, e3]
      simp [enc2]
  · rw [List.getElem?_eq_none (by simpa using h), List.getElem?_eq_none (by rw [xrow_length]; exact h)]
theorem flat_get (d : List (Int × Int)) (t : Nat) (h : t < d.length * 2) : (xrow d)[t]? = some ((flatK enc2 2 d.toArray)[t]!) := by
  rw [← flat_xrow, Array.getElem?_toList, getElem!_pos _ t (by simpa using h), Array.getElem?_eq_getElem (by simpa using h)]

theorem own_holdsK {w : World} {g cap : Nat} {d : List (Int × Int)} (h : OwnX w (.slice (some ⟨g, 0, none⟩) d.length cap) d) : HoldsK enc2 2 w g 0 d.toArray := by
  intro j hj
  have hj' : j < d.length * 2 := by simpa using hj
  have h1 := World.ownsRow.cellAt h j hj'
  have h2 := World.ownsRow.frozenAt h j
  rw [flat_get d j hj'] at h1
  rw [Nat.zero_add]
  exact ⟨h1, h2⟩

theorem own_sorted {w : World} {g cap : Nat} {d : List (Int × Int)} (h : OwnX w (.slice (some ⟨g, 0, none⟩) d.length cap) d) (d' : Array (Int × Int)) (hl : d'.size = d.length) (n : Nat) (os : Array Obj) :
    OwnX (sortWorldK enc2 2 w g 0 n d' os) (.slice (some ⟨g, 0, none⟩) d.length cap) d'.toList ∧ Fr w (sortWorldK enc2 2 w g 0 n d' os) (fun k => k = g) := by
  rcases h.2 with ⟨h', _⟩ | ⟨g', cap', cur, h', hb, hg, hnc, hcm, hcs, htake⟩
  · simp at h'
  · simp only [Value.slice.injEq, Option.some.injEq, Addr.mk.injEq, and_true, true_and] at h'
    obtain ⟨rfl, rfl⟩ := h'
    have hgs : g < w.heap.size := lt_of_block hg
    have hm : ∀ k, (putRowK enc2 2 (Go.Sort.ahead w n) g 0 d').heap[k]? = if g = k then (w.heap[k]?).map (onCells (putCells id 0 (flatK enc2 2 d'))) else w.heap[k]? := fun k => by
      show ((w.heap.modify g (onCells (putCells id 0 (flatK enc2 2 d'))))[k]?) = _
      rw [Array.getElem?_modify]
    have hsz : (putRowK enc2 2 (Go.Sort.ahead w n) g 0 d').heap.size = w.heap.size := by
      show (w.heap.modify g (onCells (putCells id 0 (flatK enc2 2 d')))).size = _
      simp
    have hk : ∀ k, k < w.heap.size → (sortWorldK enc2 2 w g 0 n d' os).heap[k]? = if g = k then (w.heap[k]?).map (onCells (putCells id 0 (flatK enc2 2 d'))) else w.heap[k]? := fun k hk => by
      unfold sortWorldK
      rw [heap_grow_old _ _ (by rw [hsz]; exact hk), hm]
    refine ⟨⟨by rw [xrow_length], .inr ⟨g, cap, putCells id 0 (flatK enc2 2 d') cur, by simp [hl], Nat.zero_le _, ?_, by simpa [hl] using hnc, hcm, by simpa [putCells] using hcs, ?_⟩⟩, ⟨rfl, rfl, rfl, ?_, fun k hk1 hk2 => ?_⟩⟩
    · rw [hk g hgs, if_pos rfl, hg]
      rfl
    · apply List.ext_getElem?
      intro t
      rw [← flat_xrow, List.getElem?_take]
      have e0 : d'.toList.toArray = d' := by simp
      rw [e0]
      by_cases ht : t < d'.toList.length * 2
      · rw [if_pos ht, Array.getElem?_toList, Array.getElem?_toList]
        have ht' : t < (flatK enc2 2 d').size := by simpa using ht
        have htc : t < cur.size := by rw [hcs]; simp at ht; have := Nat.mul_le_mul_right 2 hnc; omega
        simp only [putCells, Array.getElem?_mapIdx]
        rw [Array.getElem?_eq_getElem htc, Option.map_some, if_pos (by omega), Array.getElem?_eq_getElem ht', getElem!_pos _ _ (by simpa using ht')]
        simp
      · rw [if_neg ht, List.getElem?_eq_none (by simpa using ht)]
    · unfold sortWorldK
      rw [Go.Sort.size_grow, hsz]
      omega
    · rw [hk k hk1, if_neg (fun e => hk2 e.symm)]

/-- The library's sort at items that the call owns. -/
theorem sort_any (wt : Nat → Nat) (n : Nat) (v : Value) (w : World) (h : OwnX w v ((some_ wt n).map (cItm wt))) (hl : (some_ wt n).length ≤ 1000000) :
    Calls Try.prog 48 #[v, .func (.func 49) #[] #[]] w fun e w' => e = .returned (.tuple #[]) ∧ OwnX w' v ((symsTo wt n).map (cItm wt)) ∧ Fr w w' (fun k => v.ownBlock = some k) := by
  have hperm := syms_perm wt n
  have hlen : (symsTo wt n).length = (some_ wt n).length := hperm.length_eq
  rcases h.2 with ⟨rfl, h0⟩ | ⟨g, cap, cur, rfl, hrest⟩
  · rw [List.length_map] at h0
    have hnone := AnyF.slices_SortFunc_none sortIt none 0 (.func (.func 49) #[] #[]) w
    change Calls Try.prog 48 _ _ _ at hnone
    refine hnone.mono ?_
    rintro e w' ⟨rfl, rfl⟩
    have e1 : symsTo wt n = [] := List.eq_nil_of_length_eq_zero (by omega)
    rw [e1]
    exact ⟨rfl, OwnX.nil _, Fr.refl _ _⟩
  · have hgs : g < w.heap.size := (World.ownsRow.lt h g rfl).2
    have eg : ∀ args w, (callFunc 49 args).run Try.prog w = .ok (.enter 49 args) w := enters_of Try.func49 (by kernel_rfl) rfl
    obtain ⟨d, hd⟩ : ∃ d, d = (some_ wt n).map (cItm wt) := ⟨_, rfl⟩
    rw [← hd] at h ⊢
    have hdl : d.length ≤ 1000000 := by rw [hd, List.length_map]; exact hl
    have hcon := AnyQ.slices_SortFunc sortIt 2 Try.isAgg77 Try.sizeOf77 enc2 (fun _ => rfl) (fun x v hv => by simp [enc2] at hv; rcases hv with rfl | rfl <;> rfl) cfI swoI 49 #[] g 0 cap d.toArray w eg (cmpLays g 0 d.toArray.size w) (own_holdsK h) hgs (by simp; omega)
    change Calls Try.prog 48 _ _ _ at hcon
    have e1 : d.toArray.size = d.length := by simp
    rw [e1] at hcon
    refine hcon.mono ?_
    rintro e w' ⟨rfl, d', m, os, hp, hs, rfl⟩
    have hsz : d'.size = d.length := by rw [hp.1]; simp
    obtain ⟨h1, h2⟩ := own_sorted h d' hsz m os
    have hpl : List.Perm d'.toList d := by
      have h3 := hp.2.2
      have e1 : d'.extract 0 d.length = d' := by rw [← hsz]; exact Array.extract_size
      have e2 : d.toArray.extract 0 d.length = d.toArray := by simp
      rw [e1, e2] at h3
      exact h3
    have hss : d'.toList.Pairwise fun a b => ltI b a = false := by
      rw [List.pairwise_iff_getElem]
      intro i j hi hj hij
      have hi' : i < d'.size := by simpa using hi
      have hj' : j < d'.size := by simpa using hj
      have := hs i j (Nat.zero_le _) hij (by rw [← hsz]; exact hj')
      rw [ltOf_cfI, getElem!_pos d' j hj', getElem!_pos d' i hi'] at this
      simpa using this
    have heq := sorted_is wt n d'.toList (by rw [← hd]; exact hpl) hss
    rw [heq] at h1
    refine ⟨rfl, h1, h2.mono (fun k _ hk => by rw [hk]; rfl)⟩

set_option maxRecDepth 4000 in
set_option maxHeartbeats 800000 in
theorem sorted_any (v : Value) (zs : List Int) (w : World) (h : ReadsZ w v zs) (hl : zs.length ≤ 256) :
    Calls Try.prog 35 #[v] w fun e w' => ∃ sv, e = .returned sv ∧ OwnL (cnt (zs.map clampN)) w' sv (coin (there (zs.map clampN))) ∧ Fr w w' (fun _ => False) := by
  obtain ⟨a0, c0, rfl, hc0⟩ := h.form
  have Hz : Hid (ReadsZ w (.slice a0 zs.length c0) zs) := h
  obtain ⟨n, hn⟩ : ∃ n, n = zs.length := ⟨_, rfl⟩
  rw [← hn] at Hz hc0 hl ⊢
  have Hn : Hid _ := hn
  clear h hn
  obtain ⟨wt, hwt⟩ : ∃ wt, wt = cnt (zs.map clampN) := ⟨_, rfl⟩
  have Hwt : Hid _ := hwt
  have Hth : Hid (there (zs.map clampN) = symsTo wt n) := by show _ = _; unfold there; rw [← hwt, List.length_map, Hn.out]
  rw [← hwt, Hth.out]
  clear hwt
  go_enter Try.func35, Try.ntmps35
  go_wp2_with fail
  go_loopg [3, 8] n (fun g S I wr => ∃ i : Nat, g = n - i ∧ i ≤ n ∧ I = .int .i64 (i : Int) ∧ OwnX wr S ((some_ wt i).map (cItm wt)) ∧ (some_ wt i).length ≤ i ∧ Fr w wr (fun _ => False) ∧ (∀ k, S.ownBlock = some k → w.heap.size ≤ k))
  case atStart => exact ⟨0, rfl, by omega, rfl, OwnX.nil _, Nat.le_refl _, Fr.refl _ _, fun k hk => (by simp [Value.ownBlock] at hk)⟩
  case round =>
    obtain ⟨i, hg, hi, rfl, ho, hil, hf, hnew⟩ := hrel
    have Hg : Hid _ := hg
    have Ho : Hid (OwnX wr u3 ((some_ wt i).map (cItm wt))) := ho
    have Hnew : Hid _ := hnew
    clear hg ho hnew
    by_cases hlt : i < n
    · obtain ⟨x, hx⟩ : ∃ x, zs[i]? = some x := ⟨_, List.getElem?_eq_getElem (by rw [← Hn.out]; exact hlt)⟩
      obtain ⟨b, off, cp, e, hb0, kx⟩ := (Hz.out.keep hf).get i x hx
      simp only [Value.slice.injEq] at e
      obtain ⟨rfl, -, rfl⟩ := e
      have cx := kx wr (Fr.refl _ _)
      have hwi : wt i = clampN x := by
        rw [Hwt.out]
        unfold cnt
        rw [List.getD_eq_getElem?_getD, List.getElem?_map, hx]
        rfl
      have hi1 : (i : Int) < (n : Int) := by omega
      clear kx hx
      by_cases h0 : 0 < x
      · have hne : wt i ≠ 0 := by rw [hwi]; unfold clampN; omega
        have Hs : Hid ((some_ wt (i + 1)).map (cItm wt) = (some_ wt i).map (cItm wt) ++ [(((clampN x : Nat) : Int), (i : Int))]) := by
          show _ = _
          rw [some_succ, if_neg hne, List.map_append, List.map_singleton]
          unfold cItm
          rw [hwi]
        have Hs2 : Hid ((some_ wt (i + 1)).length ≤ i + 1) := by show _ ≤ _; rw [some_succ, if_neg hne]; simp; omega
        clear hwi hne
        go_wp2_with fail
        refine (counted_any _ _).mono ?_
        rintro e w' ⟨rfl, rfl⟩
        generalize clampN x = c at Hs ⊢
        obtain ⟨v5, w5, hrun5, ho5, hf5, hm5⟩ := app_x_lit w' u3 _ (c : Int) (i : Int) Ho.out (by simp; omega)
        rw [← Hs.out] at ho5
        have Hro : Hid _ := ho5
        have Hfo : Hid (Fr w w5 (fun _ => False)) := hf.newer hf5 (fun k hk => Hnew.out k hk)
        have Hnw : Hid (∀ k, v5.ownBlock = some k → w.heap.size ≤ k) := fun k hk => by
          rcases hm5 k hk with h | h
          · exact Hnew.out k h
          · have := hf.size; omega
        clear ho5 hf5 hm5
        go_wp2_with (at_builtin; refine wpList_append_run rfl (.tmp 15) (.tmp 20) 74 rfl rfl rfl hrun5 ?_)
        go_roundg (n - (i + 1))
        case rel => exact ⟨i + 1, rfl, by omega, by go_num, Hro.out, Hs2.out, Hfo.out, Hnw.out⟩
        case measure => rw [Hg.out]; omega
      · have hze : wt i = 0 := by rw [hwi]; unfold clampN; omega
        have Hs : Hid (some_ wt (i + 1) = some_ wt i) := by show _ = _; rw [some_succ, if_pos hze]
        clear hwi hze
        go_wp2_with fail
        go_roundg (n - (i + 1))
        case rel => exact ⟨i + 1, rfl, by omega, by go_num, by rw [Hs.out]; exact Ho.out, by rw [Hs.out]; omega, hf, Hnew.out⟩
        case measure => rw [Hg.out]; omega
    · obtain rfl : i = n := by omega
      go_wp2_with fail
      refine (sort_any wt i u3 wr Ho.out (by omega)).mono ?_
      rintro e w1 ⟨rfl, ho1, hf1⟩
      have hfw := hf.newer hf1 (fun k hk => Hnew.out k hk)
      go_wp2_with fail
      go_ret
      refine ⟨_, rfl, ?_, hfw⟩
      unfold OwnL
      rw [itm_coin]
      exact ho1

end Go.Proofs.Ytclfbdfgmeliaaa

/-
  The contract of merge's Lengths.
-/
namespace Go.Proofs.Ytclfbdfgmeliaaa
open Go.RowKit

theorem infoInt : (Try.prog.info? 3).map (fun i => (i.zero, i.size, i.bytes)) = some (some (.int .i64 0), 1, 8) := by kernel_rfl

set_option maxRecDepth 4000 in
set_option maxHeartbeats 800000 in
theorem lengths_any (v : Value) (zs : List Int) (most : Int) (w : World) (h : ReadsZ w v zs) (hm1 : -9223372036854775808 ≤ most) (hm2 : most ≤ 9223372036854775807) :
    Calls Try.prog 23 #[v, .int .i64 most] w fun e w' => ∃ sv, e = .returned sv ∧ Reads .i64 w' sv (pmLens (zs.map clampN) (clampM most)) ∧ Fr w w' (fun _ => False) ∧ (∀ k, sv.ownBlock = some k → w.heap.size ≤ k) := by
  obtain ⟨a0, c0, rfl, hc0⟩ := h.form
  have Hz : Hid (ReadsZ w (.slice a0 zs.length c0) zs) := h
  obtain ⟨n, hn⟩ : ∃ n, n = zs.length := ⟨_, rfl⟩
  rw [← hn] at Hz hc0 ⊢
  have Hn : Hid _ := hn
  clear h hn
  obtain ⟨L, hL⟩ : ∃ L, L = clampM most := ⟨_, rfl⟩
  rw [← hL]
  have HL : Hid ((L : Int) = min (max most 1) 15) := by show _ = _; rw [hL]; unfold clampM; omega
  clear hL
  by_cases h256 : 256 < n
  · have He : Hid (pmLens (zs.map clampN) L = []) := by
      show _ = _
      unfold pmLens
      rw [if_pos (by rw [List.length_map, ← Hn.out]; exact .inl h256)]
    go_enter Try.func23, Try.ntmps23
    go_wp2_with fail
    go_ret
    refine ⟨_, rfl, ?_, Fr.refl _ _, fun k hk => by simp [Value.ownBlock] at hk⟩
    rw [He.out]
    exact holds_own (World.ownsRow_nil w 0 0 1)
  · have hL1 : 1 ≤ L := by have := HL.out; omega
    have hL15 : L ≤ 15 := by have := HL.out; omega
    have hmm : (most < 1 ∧ L = 1) ∨ (15 < most ∧ L = 15) ∨ (1 ≤ most ∧ most ≤ 15 ∧ most = (L : Int)) := by have := HL.out; omega
    go_enter Try.func23, Try.ntmps23
    go_wp2_with fail
    rw [← HL.out]
    refine (sorted_any _ zs _ Hz.out (by rw [← Hn.out]; omega)).mono ?_
    rintro e w1 ⟨sv1, rfl, ho1, hf1⟩
    obtain ⟨a1, c1, rfl, hc1⟩ := RdX.form ho1.rd
    rw [List.length_map, coin_length] at ho1 hc1 ⊢
    have Ho1 : Hid (OwnL (cnt (zs.map clampN)) w1 (.slice a1 (there (zs.map clampN)).length c1) (coin (there (zs.map clampN)))) := ho1
    obtain ⟨m, hm⟩ : ∃ m, m = (there (zs.map clampN)).length := ⟨_, rfl⟩
    rw [← hm] at Ho1 hc1 ⊢
    have Hm : Hid _ := hm
    obtain ⟨P, hP⟩ : ∃ P, P = 2 ^ L := ⟨_, rfl⟩
    have hPb : P ≤ 32768 := by rw [hP]; exact Nat.le_trans (Nat.pow_le_pow_right (by omega) hL15) (by decide)
    have HP : Hid _ := hP
    have hpw : wrap64 ((2 : Int) ^ L) = (P : Int) := by
      have e1 : (2 : Int) ^ L = ((2 ^ L : Nat) : Int) := by simp
      rw [e1, ← hP, wrap64_small _ (by omega) (by omega)]
    clear ho1 hm hP hmm
    by_cases hmP : P < m
    · have hd : decide ((P : Int) < (m : Int)) = true := by simp; omega
      have He : Hid (pmLens (zs.map clampN) L = []) := by
        show _ = _
        unfold pmLens
        rw [if_pos (by rw [← Hm.out, ← HP.out]; exact .inr hmP)]
      go_wp2_with fail
      go_ret
      refine ⟨_, rfl, ?_, hf1, fun k hk => by simp [Value.ownBlock] at hk⟩
      rw [He.out]
      exact holds_own (World.ownsRow_nil w1 0 0 1)
    · have hd : decide ((P : Int) < (m : Int)) = false := by simp; omega
      have Hpm : Hid (pmLens (zs.map clampN) L = fnRow n (pmLen (zs.map clampN) L)) := by
        show _ = _
        unfold pmLens fnRow
        rw [if_neg (by rw [← Hm.out, ← HP.out, List.length_map, ← Hn.out]; omega), List.length_map, ← Hn.out]
      obtain ⟨i0, hi0, hz0, hz1, hz2⟩ := info_parts infoInt
      go_wp2_with (at_make; refine wpList_make_full _ rfl _ _ 28 rfl 0 3 i0 (.int .i64 0) 1 Try.underlying28 hi0 hz0 hz1 _ _ _ _ n rfl rfl rfl rfl ?b1 ?b2 (Nat.zero_le _) ?_)
      case b1 => rw [hz2]; omega
      case b2 => unfold maxLen; omega
      intro wm hown hgrow
      have hz : (madeCells #[Value.int .i64 0] n).toList = row .i64 (fnRow n (fun _ => 0)) := by
        rw [toList_madeCells_one]
        apply List.ext_getElem?
        intro t
        simp only [row, fnRow, List.map_map, List.getElem?_map]
        by_cases ht : t < n
        · simp [ht]
        · simp [ht]
      rw [hz] at hown
      have hfm : Fr w1 wm (fun _ => False) := (Fr.refl w1 _).grown hgrow (fun k hk => by cases hk)
      have hfwm := hf1.none hfm
      obtain ⟨g, hg⟩ : ∃ g, g = w1.heap.size := ⟨_, rfl⟩
      have Hgw : Hid (w.heap.size ≤ g) := by show _ ≤ _; have := hf1.size; omega
      rw [← hg] at hown ⊢
      have Hown : Hid (OwnC wm (.slice (some ⟨g, 0, none⟩) n n) (fnRow n (fun _ => 0))) := by unfold OwnC; rw [fnRow_length]; exact hown
      have Ho2 : Hid (OwnL (cnt (zs.map clampN)) wm (.slice a1 m c1) (coin (there (zs.map clampN)))) := OwnX.keep Ho1.out hfm
      clear hgrow hfm hf1 hg hown hz Ho1 hi0 hz0 hz1 hz2
      rcases (by omega : m = 0 ∨ m = 1 ∨ 2 ≤ m) with hm0 | hm1 | hm2
      · have Hr : Hid (fnRow n (pmLen (zs.map clampN) L) = fnRow n (fun _ => 0)) := by
          show _ = _
          have e0 : there (zs.map clampN) = [] := List.eq_nil_of_length_eq_zero (by rw [← Hm.out]; exact hm0)
          congr 1
          funext s
          have h1 := (there_mem (zs.map clampN) s)
          have hs := (pmLen_pos (counts := zs.map clampN) (L := L) hL1 (by rw [e0]; simp) s).1
          rw [e0] at h1
          simp at h1
          omega
        subst hm0
        go_wp2_with fail
        go_ret
        refine ⟨_, rfl, ?_, hfwm, fun k hk => by simp [Value.ownBlock] at hk; rw [← hk]; exact Hgw.out⟩
        rw [Hpm.out, Hr.out]
        exact holds_own Hown.out
      · obtain ⟨s0, hs0⟩ : ∃ s, there (zs.map clampN) = [s] := List.length_eq_one_iff.1 (by rw [← Hm.out]; exact hm1)
        have hsn : s0 < n := by
          have h1 : s0 ∈ there (zs.map clampN) := by rw [hs0]; simp
          unfold there at h1
          have := ((syms_mem _ _ _).1 h1).1
          rw [List.length_map, ← Hn.out] at this
          exact this
        have Hr : Hid ((fnRow n (fun _ => 0)).set s0 1 = fnRow n (pmLen (zs.map clampN) L)) := by
          show _ = _
          refine fnRow_set n _ _ s0 1 ?_ ?_
          · unfold pmLen
            rw [if_pos (by rw [hs0]; rfl), if_neg ((there_mem _ _).1 (by rw [hs0]; simp))]
          · intro t ht
            unfold pmLen
            rw [if_pos (by rw [hs0]; rfl), if_pos]
            have := (there_mem (zs.map clampN) t)
            rw [hs0] at this
            simp only [List.mem_singleton] at this
            by_cases h0 : cnt (zs.map clampN) t = 0
            · exact h0
            · exact absurd (this.2 h0) ht
        have ho := Ho2.out
        rw [hs0] at ho
        obtain ⟨b, off, cp, e, hb0, kx⟩ := RdX.get ho.rd 0 (itm (cnt (zs.map clampN)) [s0]) rfl
        simp only [Value.slice.injEq] at e
        obtain ⟨rfl, -, rfl⟩ := e
        have c1 := (kx wm (Fr.refl _ _)).2
        have hY : (itm (cnt (zs.map clampN)) [s0]).2 = (s0 : Int) := rfl
        rw [hY, Nat.zero_mul, Nat.add_zero] at c1
        have hoc := Hown.out
        unfold OwnC at hoc
        rw [fnRow_length] at hoc
        have hfz := World.ownsRow.frozenAt hoc s0
        have hce : wm.cell? ⟨g, s0, none⟩ = some (.int .i64 0) := by
          rw [World.ownsRow.cellAt hoc s0 (by omega)]
          simp [row, fnRow, hsn]
        have Hst : Hid (OwnC (wm.setCell ⟨g, s0, none⟩ (.int .i64 1)) (.slice (some ⟨g, 0, none⟩) n n) (fnRow n (pmLen (zs.map clampN) L))) := by
          have := (World.ownsRow.stored hoc s0 (.int .i64 ((1 : Nat) : Int))).1
          unfold OwnC
          rw [fnRow_length, ← Hr.out, row_set]
          exact this
        have hs1 : (s0 : Int) < (n : Int) := by omega
        clear ho kx hoc hY hs0
        subst hm1
        go_wp2_with fail
        go_ret
        refine ⟨_, rfl, ?_, hfwm.setCell ⟨g, s0, none⟩ (fun h => by have := Hgw.out; simp at h; omega) _, fun k hk => by simp [Value.ownBlock] at hk; rw [← hk]; exact Hgw.out⟩
        rw [Hpm.out]
        exact holds_own Hst.out
      · have hb1 : ((m : Int) == 1) = false := by rw [beq_eq_false_iff_ne]; omega
        have hb2 : decide ((1 : Int) < (m : Int)) = true := decide_eq_true (by omega)
        have hmn : m ≤ n := by
          have h1 := (syms_perm (cnt (zs.map clampN)) (zs.map clampN).length).length_eq
          have h2 : (some_ (cnt (zs.map clampN)) (zs.map clampN).length).length ≤ (zs.map clampN).length := by
            unfold some_
            exact Nat.le_trans (List.length_filter_le _ _) (by simp)
          rw [← h1, List.length_map, ← Hn.out] at h2
          rw [Hm.out]
          unfold there
          rw [List.length_map, ← Hn.out]
          exact h2
        have ht1 : IntKind.i64.wrap (2 * (m : Int)) = ((2 * m : Nat) : Int) := by rw [IntWalk.i64_in _ (by omega)]; omega
        have ht2 : IntKind.i64.wrap (((2 * m : Nat) : Int) - 2) = ((2 * m - 2 : Nat) : Int) := by rw [IntWalk.i64_in _ (by omega)]; omega
        obtain ⟨T, hT⟩ : ∃ T, T = 2 * m := ⟨_, rfl⟩
        obtain ⟨T2, hT2⟩ : ∃ T2, T2 = 2 * m - 2 := ⟨_, rfl⟩
        rw [← hT2, ← hT] at ht2
        rw [← hT] at ht1
        have HT2 : Hid _ := hT2
        clear hT hT2
        go_wp2_with fail
        refine (lists_any (cnt (zs.map clampN)) _ (there (zs.map clampN)) L wm Ho2.out (by rw [← Hm.out]; omega) (by rw [← Hm.out]; omega) (fun s => ?wb) hL1 hL15).mono ?_
        case wb =>
          unfold cnt
          rw [List.getD_eq_getElem?_getD, List.getElem?_map]
          cases zs[s]? with
          | none => simp
          | some z => exact clampN_le z
        rintro e w2 ⟨sv2, vs, rfl, hoa, hvl, hf2⟩
        have Hoa : Hid _ := hoa
        have Hof : Hid (OwnC w2 (.slice (some ⟨g, 0, none⟩) n n) (fnRow n (fun _ => 0))) := hf2.owns Hown.out (fun _ _ h => h)
        clear hoa
        obtain ⟨a3, c3, hl3⟩ : ∃ a c, sv2 = .slice a L c := by
          rcases Hoa.out.1.2 with ⟨_, h0⟩ | ⟨g', cap', _, rfl, _⟩
          · omega
          · exact ⟨_, _, by rw [hvl]⟩
        subst hl3
        go_wp2_with fail
        refine (tally_any (cnt (zs.map clampN)) (there (zs.map clampN)) _ g n vs n L T2 w2 Hoa.out hvl hL1 hL15 Hof.out (fun s hs => ?cn) (by rw [← Hm.out]; omega) (by rw [← Hm.out]; omega) ?ft).mono ?_
        case cn =>
          unfold there at hs
          have := ((syms_mem _ _ _).1 hs).1
          rw [List.length_map, ← Hn.out] at this
          exact this
        case ft =>
          have := pm_fits (wt := cnt (zs.map clampN)) (cs := there (zs.map clampN)) (L := L) hL1 (by rw [← Hm.out]; exact hm2) (by rw [← Hm.out, ← HP.out]; omega)
          rw [← Hm.out] at this
          rw [HT2.out]
          exact this
        rintro e w3 ⟨rfl, ho3, hf3⟩
        have hf23 : Fr w w3 (fun _ => False) := (hfwm.none hf2).newer hf3 (fun k hk => by rw [hk]; exact Hgw.out)
        have Hr : Hid (fnRow n (fun s => occ ((lv (cnt (zs.map clampN)) (there (zs.map clampN)) (L - 1)).take T2) s) = fnRow n (pmLen (zs.map clampN) L)) := by
          show _ = _
          congr 1
          funext s
          unfold pmLen pmOcc
          rw [if_neg (by rw [← Hm.out]; omega), ← Hm.out, HT2.out]
        clear hf2 hf3 hfwm
        go_wp2_with fail
        go_ret
        refine ⟨_, rfl, ?_, hf23, fun k hk => by simp [Value.ownBlock] at hk; rw [← hk]; exact Hgw.out⟩
        rw [Hpm.out, ← Hr.out]
        exact holds_own ho3

end Go.Proofs.Ytclfbdfgmeliaaa

/-
  The contract of huff's Put.
-/
namespace Go.Proofs.Ytclfbdfgmeliaaa
open Go.RowKit

set_option maxRecDepth 4000 in
set_option maxHeartbeats 1600000 in
theorem hputP_any (v : Value) (bs : List Nat) (w : World) (h : Reads .u8 w v bs) (hb : ∀ x ∈ bs, x < 256) (hl : bs.length ≤ 1000000) :
    Calls Try.prog 11 #[v] w fun e w' => ∃ sv, e = .returned sv ∧ Own w' sv (hput bs) ∧ Fr w w' (fun _ => False) ∧ (∀ k, sv.ownBlock = some k → w.heap.size ≤ k) := by
  obtain ⟨a0, c0, rfl, hc0, -⟩ := id h
  rw [length_row] at h hc0 ⊢
  obtain ⟨n, hn⟩ : ∃ n, n = bs.length := ⟨_, rfl⟩
  rw [← hn] at h hl hc0 ⊢
  have Hr : Hid (Reads .u8 w (.slice a0 n c0) bs) := h
  have Hn : Hid _ := hn
  have Hb : Hid _ := hb
  clear h hn hb
  have wn : IntKind.u64.wrap (n : Int) = (n : Int) := by rw [IntKind.wrap_u64]; omega
  go_enter Try.func11, Try.ntmps11
  go_wp2_with fail
  refine (vputs_any _ [n] _ (holds_lit w 42 [.int .u64 (n : Int)] (by simp)) (by simp; omega) (by simp)).mono ?_
  rintro e w1 ⟨s1, rfl, ho1, hf1, hn1⟩
  have hf1' : Fr w w1 (fun _ => False) := ((Fr.refl w (fun _ => False)).alloc _).none hf1
  have hn1' : ∀ k, s1.ownBlock = some k → w.heap.size ≤ k := fun k hk => by have := hn1 k hk; simp at this; omega
  have e1 : encs [n] = enc n := by simp [encs]
  rw [e1] at ho1
  have Ho1 : Hid (Own w1 s1 (enc n)) := ho1
  have Hf1 : Hid (Fr w w1 (fun _ => False)) := hf1'
  have Hn1 : Hid _ := hn1'
  clear ho1 hf1 hf1' hn1 hn1' e1 wn
  by_cases h0 : n = 0
  · subst h0
    have Hres : Hid (hput bs = enc 0) := by
      show _ = _
      have e : bs = [] := List.eq_nil_of_length_eq_zero Hn.out.symm
      subst e
      unfold hput
      simp
    go_wp2_with fail
    go_ret
    exact ⟨_, rfl, by rw [Hres.out]; exact Ho1.out, Hf1.out, Hn1.out⟩
  · have hn2 : ((n : Int) == 0) = false := by rw [beq_eq_false_iff_ne]; omega
    have h0n : 0 < n := by omega
    have hne : bs ≠ [] := fun e => by have := Hn.out; rw [e] at this; simp at this; omega
    have Hput : Hid (hput bs = enc n ++ (headOf (lensB bs) ++ pack (bitsOf (lensB bs) bs))) := by show _ = _; unfold hput; rw [if_neg hne, ← Hn.out]
    have HR : Hid (RightL (lensB bs)) := lensB_right bs Hb.out hne
    have H15 : Hid (∀ s, ln (lensB bs) s ≤ 15) := lnB_15 bs
    have Hll : Hid ((lensB bs).length = 256) := lensB_len bs
    have Hpos : Hid (∀ x ∈ bs, 0 < ln (lensB bs) x) := fun x hx => (lnB_pos bs x (Hb.out x hx)).2 hx
    clear hne
    go_wp2_with fail
    refine (hcounts_any _ bs w1 (Hr.out.keep Hf1.out) Hb.out (by rw [← Hn.out]; omega)).mono ?_
    rintro e w2 ⟨sc, rfl, hrc, hf2, -⟩
    go_wp2_with fail
    refine (lengths_any sc _ 15 w2 hrc.z (by decide) (by decide)).mono ?_
    rw [lensB_of bs (by rw [← Hn.out]; exact hl)]
    rintro e w3 ⟨sl, rfl, hrl, hf3, hnl⟩
    have Hf13 : Hid (Fr w1 w3 (fun _ => False)) := hf2.none hf3
    generalize lensB bs = l at Hput HR H15 Hll hrl Hpos
    have Hrl : Hid (Reads .i64 w3 sl l) := hrl
    obtain ⟨al, cl, ll, hsl⟩ := hrl.form
    subst hsl
    have HnL : Hid (∀ k, (Value.slice al cl ll).ownBlock = some k → w1.heap.size ≤ k) := fun k hk => Nat.le_trans hf2.size (hnl k hk)
    clear hrc hf2 hf3 hrl hnl
    go_wp2_with fail
    refine (putLengths_any _ l w3 Hrl.out Hll.out H15.out).mono ?_
    rintro e w4 ⟨s4, rfl, ho4, hf4, hn4⟩
    have hlh : (headOf l).length ≤ 2000 := by
      have h2 := rowsTo_small l H15.out 256 (Nat.le_refl _)
      have h3 := enc_le (someTo l 256) (by have := someTo_le l 256; omega)
      unfold headOf
      rw [List.length_append]
      omega
    have hel := enc_le n (by omega)
    have hf14 : Fr w1 w4 (fun _ => False) := Hf13.out.none hf4
    obtain ⟨v5, w5, hrun5, ho5, hf5, hm5, -⟩ := app_bytes w4 s1 s4 _ _ (Ho1.out.frame hf14 (fun _ _ h => h)) ho4.reads (by omega)
    have Ho5 : Hid (Own w5 v5 (enc n ++ headOf l)) := ho5
    have Hlen5 : Hid ((enc n ++ headOf l).length ≤ 3000) := by show _ ≤ _; rw [List.length_append]; omega
    have Hn5 : Hid (∀ k, v5.ownBlock = some k → w.heap.size ≤ k) := fun k hk => by
      rcases hm5 k hk with h2 | h2
      · exact Hn1.out k h2
      · have := Hf1.out.size; have := hf14.size; omega
    have Hf5 : Hid (Fr w w5 (fun _ => False)) := (Hf1.out.none hf14).newer hf5 Hn1.out
    have hlt1 := Ho1.out.lt
    have Hrl5 : Hid (Reads .i64 w5 (.slice al cl ll) l) := by
      refine ((Hrl.out.keep hf4).frame hf5 (fun k hk h2 => ?_))
      have := hlt1 k h2; have := HnL.out k hk; omega
    clear ho4 hf4 hn4 hlh hel hf14 ho5 hf5 hm5 hlt1
    go_wp2_with (at_builtin; refine wpList_append_run rfl (.tmp 17) (.tmp 19) 22 rfl rfl rfl hrun5 ?_)
    clear hrun5
    refine (putCodes_any _ _ l bs w5 Hrl5.out (Hr.out.keep Hf5.out) HR.out H15.out Hpos.out (by rw [← Hn.out]; exact hl)).mono ?_
    rintro e w6 ⟨s6, rfl, ho6, hf6, hn6⟩
    have hlp := length_pack (bitsOf l bs)
    have hlb := bitsOf_le l bs H15.out
    rw [← Hn.out] at hlb
    obtain ⟨v7, w7, hrun7, ho7, hf7, hm7, -⟩ := app_bytes w6 v5 s6 _ _ (Ho5.out.frame hf6 (fun _ _ h => h)) ho6.reads (by have := Hlen5.out; omega)
    have Hres : Hid (Own w7 v7 (hput bs)) := by rw [Hput.out, ← List.append_assoc]; exact ho7
    have Hfo : Hid (Fr w w7 (fun _ => False)) := (Hf5.out.none hf6).newer hf7 Hn5.out
    have Hno : Hid (∀ k, v7.ownBlock = some k → w.heap.size ≤ k) := fun k hk => by
      rcases hm7 k hk with h1 | h1
      · exact Hn5.out k h1
      · have := Hf5.out.size; have := hf6.size; omega
    clear ho6 hf6 hn6 hlp hlb ho7 hf7 hm7
    go_wp2_with (at_builtin; refine wpList_append_run rfl (.tmp 21) (.tmp 24) 22 rfl rfl rfl hrun7 ?_)
    go_ret
    exact ⟨_, rfl, Hres.out, Hfo.out, Hno.out⟩

end Go.Proofs.Ytclfbdfgmeliaaa

/-
  The contract of huff's Read; bytes.Equal.
-/
namespace Go.Proofs.Ytclfbdfgmeliaaa
open Go.RowKit

set_option maxRecDepth 4000 in
set_option maxHeartbeats 800000 in
theorem equal_any (u v : Value) (xs bs : List Nat) (w : World) (hu : Reads .u8 w u xs) (hv : Reads .u8 w v bs) (ha : ∀ x ∈ xs, x < 256) (hb : ∀ x ∈ bs, x < 256) :
    Calls Try.prog 27 #[u, v] w fun e w' => e = .returned (.bool (decide (xs = bs))) ∧ w' = w := by
  have hcu := conv_reads hu
  have hcv := conv_reads hv
  by_cases hEq : xs = bs
  · have Hd : Hid (decide (xs = bs) = true) := decide_eq_true hEq
    rw [hEq] at hcu
    clear hEq hu hv ha hb
    generalize strOf bs = S at hcu hcv
    go_enter Try.func27, Try.ntmps27
    go_wp2
    go_ret
    exact ⟨by rw [Hd.out]; rfl, rfl⟩
  · have hSn : strOf xs ≠ strOf bs := fun e => hEq (strOf_inj ha hb e)
    have Hd : Hid (decide (xs = bs) = false) := decide_eq_false hEq
    clear hEq hu hv ha hb
    generalize strOf xs = S1 at hSn hcu
    generalize strOf bs = S2 at hSn hcv
    have hSd := str_ne hSn
    go_enter Try.func27, Try.ntmps27
    go_wp2
    go_ret
    exact ⟨by rw [Hd.out]; rfl, rfl⟩

set_option maxRecDepth 4000 in
set_option maxHeartbeats 1600000 in
theorem hreadP_any (v : Value) (bs : List Nat) (w : World) (h : Reads .u8 w v bs) (hb : ∀ x ∈ bs, x < 256) (hl : bs.length ≤ 100000) :
    Calls Try.prog 15 #[v] w fun e w' => Fr w w' (fun _ => False) ∧ ((hread bs = none ∧ e = .returned (.tuple #[.slice none 0 0, .int .i64 21])) ∨
      ∃ x, hread bs = some x ∧ ∃ sv, e = .returned (.tuple #[sv, .int .i64 0]) ∧ Own w' sv x) := by
  have Hr : Hid (Reads .u8 w v bs) := h
  have Hb : Hid _ := hb
  clear h hb
  go_enter Try.func15, Try.ntmps15
  go_wp2_with fail
  refine (takeP_any _ bs w Hr.out Hb.out hl).mono ?_
  rintro e w1 ⟨hf1, hcase⟩
  have Hf1 : Hid (Fr w w1 (fun _ => False)) := hf1
  clear hf1
  rcases hcase with ⟨hpn, rfl⟩ | ⟨x, hx, sv, rfl, ho, hxl⟩
  · have Hnone : Hid (hread bs = none) := by show _ = _; unfold hread; rw [hpn]
    clear hpn
    go_wp2
    go_ret2
    exact ⟨Hf1.out, .inl ⟨Hnone.out, rfl⟩⟩
  · have Hx : Hid _ := hx
    have Ho : Hid (Own w1 sv x) := ho
    have Hxl : Hid (x.length ≤ 800000) := hxl
    clear hx ho hxl
    go_wp2_with fail
    have HxB : Hid (∀ s ∈ x, s < 256) := (rawDec_is Hx.out).2
    refine (hputP_any sv x w1 Ho.out.reads HxB.out (by have := Hxl.out; omega)).mono ?_
    rintro e w2 ⟨s2, rfl, ho2, hf2, -⟩
    have Hf2 : Hid (Fr w w2 (fun _ => False)) := Hf1.out.none hf2
    have Hox : Hid (Own w2 sv x) := Ho.out.frame hf2 (fun _ _ h => h)
    have Ho2 : Hid (Own w2 s2 (hput x)) := ho2
    clear ho2 hf2
    go_wp2_with fail
    refine (equal_any s2 v (hput x) bs w2 Ho2.out.reads (Hr.out.keep Hf2.out) (hput_bytes x) Hb.out).mono ?_
    rintro e w3 ⟨rfl, hw3⟩
    obtain rfl : w2 = w3 := hw3.symm
    by_cases hEq : hput x = bs
    · have Hres : Hid (hread bs = some x) := by show _ = _; unfold hread; rw [Hx.out]; simp [hEq]
      rw [decide_eq_true hEq]
      clear hEq
      go_wp2
      go_ret2
      exact ⟨Hf2.out, .inr ⟨x, Hres.out, _, rfl, Hox.out⟩⟩
    · have Hres : Hid (hread bs = none) := by show _ = _; unfold hread; rw [Hx.out]; simp [hEq]
      rw [decide_eq_false hEq]
      clear hEq
      go_wp2
      go_ret2
      exact ⟨Hf2.out, .inl ⟨Hres.out, rfl⟩⟩

end Go.Proofs.Ytclfbdfgmeliaaa

/-
  Package huff meets the condition HC.
-/
namespace Go.Proofs.Ytclfbdfgmeliaaa
open Go.RowKit

theorem hc : HC where
  cnt := fun v bs w h hb hl => (hcounts_any v bs w h hb (by omega)).mono fun _ _ ⟨sv, he, hr, hf, _⟩ => ⟨sv, he, hr, hf⟩
  put := fun v bs w h hb hl => (hputP_any v bs w h hb (by omega)).mono fun _ _ ⟨sv, he, ho, hf, _⟩ => ⟨sv, he, ho.reads, hf⟩
  read := fun v bs w h hb hl => (hreadP_any v bs w h hb hl).mono fun _ _ ⟨hf, hcase⟩ => ⟨hf, hcase.imp id fun ⟨x, hx, sv, he, ho⟩ => ⟨x, hx, sv, he, ho.reads⟩⟩

end Go.Proofs.Ytclfbdfgmeliaaa

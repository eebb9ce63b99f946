/-
  The contract of the function by which the program's items are sorted.
-/
import Derived.Test.YtclfbdfgmeliaaaMLay
import Derived.Test.YtclfbdfgmeliaaaMItems
import Derived.Test.YtclfbdfgmeliaaaTree
namespace Go.Proofs.Ytclfbdfgmeliaaa
open Go.RowKit Go.Sort

set_option maxRecDepth 4000 in
set_option maxHeartbeats 400000 in
theorem isNaN_any (x : Int) (w : World) : Calls Try.prog 68 #[.int .i64 x] w fun e w' => e = .returned (.bool false) ∧ w' = w := by
  go_enter Try.func68, Try.ntmps68
  go_wp2
  go_ret
  exact ⟨rfl, rfl⟩

/-- -1, 0, 1. -/
def cmpZ (x y : Int) : Int := if x < y then -1 else if y < x then 1 else 0
set_option maxRecDepth 4000 in
set_option maxHeartbeats 400000 in
theorem compare_any (x y : Int) (w : World) : Calls Try.prog 51 #[.int .i64 x, .int .i64 y] w fun e w' => e = .returned (.int .i64 (cmpZ x y)) ∧ w' = w := by
  obtain ⟨r, hr⟩ : ∃ r, r = cmpZ x y := ⟨_, rfl⟩
  rw [← hr]
  have Hr : Hid _ := hr
  clear hr
  have Hc : Hid (r = if x < y then -1 else if y < x then 1 else 0) := Hr
  rcases Int.lt_trichotomy x y with h | h | h
  · have He : Hid (r = -1) := by show _ = _; rw [Hc.out, if_pos h]
    clear Hc Hr
    go_enter Try.func51, Try.ntmps51
    go_wp2_with fail
    refine (isNaN_any _ _).mono ?_
    rintro e w' ⟨rfl, rfl⟩
    go_wp2_with fail
    refine (isNaN_any _ _).mono ?_
    rintro e w' ⟨rfl, rfl⟩
    go_wp2
    go_ret
    exact ⟨by rw [He.out]; rfl, rfl⟩
  · have He : Hid (r = 0) := by show _ = _; rw [Hc.out, if_neg (by omega), if_neg (by omega)]
    clear Hc Hr
    go_enter Try.func51, Try.ntmps51
    go_wp2_with fail
    refine (isNaN_any _ _).mono ?_
    rintro e w' ⟨rfl, rfl⟩
    go_wp2_with fail
    refine (isNaN_any _ _).mono ?_
    rintro e w' ⟨rfl, rfl⟩
    go_wp2
    go_ret
    exact ⟨by rw [He.out]; rfl, rfl⟩
  · have He : Hid (r = 1) := by show _ = _; rw [Hc.out, if_neg (by omega), if_pos h]
    clear Hc Hr
    go_enter Try.func51, Try.ntmps51
    go_wp2_with fail
    refine (isNaN_any _ _).mono ?_
    rintro e w' ⟨rfl, rfl⟩
    go_wp2_with fail
    refine (isNaN_any _ _).mono ?_
    rintro e w' ⟨rfl, rfl⟩
    have h2 : ¬ x < y := by omega
    go_wp2
    go_ret
    exact ⟨by rw [He.out]; rfl, rfl⟩

/-- The first that isn't 0. -/
def orZ (a b : Int) : Int := if a = 0 then b else a
set_option maxRecDepth 4000 in
set_option maxHeartbeats 400000 in
theorem or_any (v : Value) (a b : Int) (w : World) (h : ReadsZ w v [a, b]) : Calls Try.prog 50 #[v] w fun e w' => e = .returned (.int .i64 (orZ a b)) ∧ w' = w := by
  obtain ⟨a0, c0, rfl, hc0⟩ := h.form
  obtain ⟨bb, off, cp, e, hb0, kx⟩ := h.get 0 a rfl
  obtain ⟨bb', off', cp', e', -, ky⟩ := h.get 1 b rfl
  simp only [Value.slice.injEq] at e e'
  obtain ⟨rfl, -, rfl⟩ := e
  obtain ⟨e', -, -⟩ := e'
  simp only [Option.some.injEq, Addr.mk.injEq, and_true] at e'
  obtain ⟨rfl, rfl⟩ := e'
  have d0 := kx w (Fr.refl _ _)
  have d1 := ky w (Fr.refl _ _)
  rw [Nat.add_zero] at d0
  obtain ⟨r, hr⟩ : ∃ r, r = orZ a b := ⟨_, rfl⟩
  rw [← hr]
  have Hr : Hid _ := hr
  clear hr h kx ky
  go_enter Try.func50, Try.ntmps50
  go_wp2_with fail
  go_loopg [8] 2 (fun g I wr => ∃ i : Nat, g = 2 - i ∧ i ≤ 2 ∧ I = .int .i64 (i : Int) ∧ wr = w ∧ (1 ≤ i → a = 0) ∧ (2 ≤ i → b = 0))
  case atStart => exact ⟨0, rfl, by omega, rfl, rfl, by omega, by omega⟩
  case round =>
    obtain ⟨i, hg, hi, rfl, rfl, ha, hb⟩ := hrel
    have hii : i = 0 ∨ i = 1 ∨ i = 2 := by omega
    rcases hii with rfl | rfl | rfl
    · by_cases h0 : a = 0
      · subst h0
        go_wp2
        go_roundg 1
        case rel => exact ⟨1, rfl, by omega, rfl, rfl, fun _ => by first | rfl | trivial, by omega⟩
        case measure => omega
      · have h1 : (a != 0) = true := by simpa using h0
        have He : Hid (r = a) := by show _ = _; rw [Hr.out]; unfold orZ; rw [if_neg h0]
        go_wp2
        go_ret
        exact ⟨by rw [He.out]; rfl, rfl⟩
    · obtain rfl := ha (by omega)
      by_cases h0 : b = 0
      · subst h0
        go_wp2
        go_roundg 0
        case rel => exact ⟨2, rfl, by omega, rfl, rfl, fun _ => by first | rfl | trivial, fun _ => by first | rfl | trivial⟩
        case measure => omega
      · have h1 : (b != 0) = true := by simpa using h0
        have He : Hid (r = b) := by show _ = _; rw [Hr.out]; unfold orZ; rw [if_pos rfl]
        go_wp2
        go_ret
        exact ⟨by rw [He.out]; rfl, rfl⟩
    · obtain rfl := ha (by omega)
      obtain rfl := hb (by omega)
      have He : Hid (r = 0) := by show _ = _; rw [Hr.out]; rfl
      go_wp2
      go_ret
      exact ⟨by rw [He.out]; rfl, rfl⟩

set_option maxRecDepth 4000 in
set_option maxHeartbeats 400000 in
theorem closure_any (x y : Int × Int) (w : World) : Calls Try.prog 49 #[.agg #[.int .i64 x.1, .int .i64 x.2], .agg #[.int .i64 y.1, .int .i64 y.2]] w fun e w' => e = .returned (.int .i64 (orZ (cmpZ x.1 y.1) (cmpZ x.2 y.2))) ∧ ∃ q os', w' = grow (w.drewN q) os' := by
  obtain ⟨r, hr⟩ : ∃ r, r = orZ (cmpZ x.1 y.1) (cmpZ x.2 y.2) := ⟨_, rfl⟩
  rw [← hr]
  have Hr : Hid _ := hr
  clear hr
  obtain ⟨x1, x2⟩ := x
  obtain ⟨y1, y2⟩ := y
  simp only at Hr ⊢
  have hb1 : ((w.alloc (.cells #[.int .i64 x1, .int .i64 x2] 77)).alloc (.cells #[.int .i64 y1, .int .i64 y2] 77)).drew.heap[w.heap.size]? = some (.cells #[.int .i64 x1, .int .i64 x2] 77 (0, 0)) := blk_alloc _ (heap_alloc_new _ _)
  have hb2 : ((w.alloc (.cells #[.int .i64 x1, .int .i64 x2] 77)).alloc (.cells #[.int .i64 y1, .int .i64 y2] 77)).drew.heap[w.heap.size + 1]? = some (.cells #[.int .i64 y1, .int .i64 y2] 77 (0, 0)) := by
    have := heap_alloc_new (w.alloc (.cells #[.int .i64 x1, .int .i64 x2] 77)) (.cells #[.int .i64 y1, .int .i64 y2] 77)
    rw [World.size_alloc] at this
    exact this
  obtain ⟨W2, hW2⟩ : ∃ W2, W2 = ((w.alloc (.cells #[.int .i64 x1, .int .i64 x2] 77)).alloc (.cells #[.int .i64 y1, .int .i64 y2] 77)).drew := ⟨_, rfl⟩
  rw [← hW2] at hb1 hb2
  have k1 : ∀ x, Fr W2 x (fun _ => False) → x.cell? ⟨w.heap.size, 0, none⟩ = some (.int .i64 x1) := fun x hx => two_cell0 (hx.kept hb1 (fun h => h))
  have k2 : ∀ x, Fr W2 x (fun _ => False) → x.cell? ⟨w.heap.size, 1, none⟩ = some (.int .i64 x2) := fun x hx => two_cell1 (hx.kept hb1 (fun h => h))
  have k3 : ∀ x, Fr W2 x (fun _ => False) → x.cell? ⟨w.heap.size + 1, 0, none⟩ = some (.int .i64 y1) := fun x hx => two_cell0 (hx.kept hb2 (fun h => h))
  have k4 : ∀ x, Fr W2 x (fun _ => False) → x.cell? ⟨w.heap.size + 1, 1, none⟩ = some (.int .i64 y2) := fun x hx => two_cell1 (hx.kept hb2 (fun h => h))
  have HW : Hid _ := hW2
  clear hb1 hb2 hW2
  go_enter Try.func49, Try.ntmps49
  go_wp2_with fail
  refine wp_region_tree (fun _ => False) (.take 0 (.take 1 (.take 2 (.take 3 (.take 5 (.take 6 (.take 7 (.take 8 (.one 4 (.one 9 (.one 10 (.one 11 (.take 12 .nil))))))))))))) (by kernel_rfl) (by kernel_rfl) (by decide) (by kernel_rfl) ?_
  rw [← HW.out]
  repeat (refine wpT_take (v := ?_) rfl rfl (fun x hx => ?_) ?_; rotate_left; (focus (go_simp; with_reducible rfl)); simp only [Act.put, List.setIfInBounds_toArray, List.set_cons_zero, List.set_cons_succ])
  refine wpT_one rfl rfl (fun K hK => ?_)
  go_simp
  refine (compare_any _ _ _).mono ?_
  rintro e w' ⟨rfl, rfl⟩
  refine hK _ _ (Fr.refl _ _) ?_
  clear hK K
  refine wpT_one rfl rfl (fun K hK => ?_)
  go_simp
  refine (compare_any _ _ _).mono ?_
  rintro e w' ⟨rfl, rfl⟩
  refine hK _ _ (Fr.refl _ _) ?_
  clear hK K
  refine wpT_one rfl rfl (fun K hK => ?_)
  go_simp
  refine hK _ _ ((Fr.refl _ (fun _ => False)).alloc _) ?_
  clear hK K
  refine wpT_one rfl rfl (fun K hK => ?_)
  go_simp
  refine (or_any _ (cmpZ x1 y1) (cmpZ x2 y2) _ ?rd).mono ?_
  case rd => exact holds_lit w' 3 (zrow [cmpZ x1 y1, cmpZ x2 y2]) (by simp [zrow])
  rintro e w3 ⟨rfl, rfl⟩
  refine hK _ _ (Fr.refl _ _) ?_
  clear hK K
  repeat (refine wpT_take (v := ?_) rfl rfl (fun x hx => ?_) ?_; rotate_left; (focus (go_simp; with_reducible rfl)); simp only [Act.put, List.setIfInBounds_toArray, List.set_cons_zero, List.set_cons_succ])
  unfold wpT
  go_wp2
  go_ret
  refine ⟨by rw [Hr.out]; rfl, 1, #[.cells #[.int .i64 x1, .int .i64 x2] 77, .cells #[.int .i64 y1, .int .i64 y2] 77, .cells #[.int .i64 (cmpZ x1 y1), .int .i64 (cmpZ x2 y2)] 3], ?_⟩
  rw [HW.out, alloc_eq_grow, alloc_eq_grow, alloc_eq_grow]
  change grow (grow (grow (w.drewN 1) #[_]) #[_]) #[_] = _
  rw [grow_grow, grow_grow]
  rfl

/-- What the function answers. -/
def cfI (x y : Int × Int) : Int := orZ (cmpZ x.1 y.1) (cmpZ x.2 y.2)
theorem ltOf_cfI (x y : Int × Int) : ltOf cfI x y = ltI x y := by
  unfold ltOf cfI ltI orZ cmpZ
  obtain ⟨a, b⟩ := x
  obtain ⟨c, d⟩ := y
  simp only
  rcases Int.lt_trichotomy a c with h | h | h
  · rw [if_pos h]; simp [h]
  · subst h
    rcases Int.lt_trichotomy b d with h | h | h
    · simp [h]
    · subst h; simp
    · have : ¬ b < d := by omega
      simp [h, this]
  · have h1 : ¬ a < c := by omega
    have h2 : a ≠ c := by omega
    simp [h, h1, h2]
theorem swoI : SWO (ltOf cfI) where
  irrefl x := by rw [ltOf_cfI]; unfold ltI; rw [decide_eq_false_iff_not]; omega
  trans x y z h1 h2 := by rw [ltOf_cfI] at *; unfold ltI at *; rw [decide_eq_true_eq] at *; omega
  ntrans x y z h1 h2 := by rw [ltOf_cfI] at *; unfold ltI at *; rw [decide_eq_false_iff_not] at *; omega
theorem cmpLays (blk off size : Nat) (w : World) : CmpLays Try.prog 49 #[] enc2 2 cfI blk off size w :=
  fun _ _ _ _ x y => closure_any x y _

end Go.Proofs.Ytclfbdfgmeliaaa

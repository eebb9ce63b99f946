/-
  Lives that the call owns: a store into one; the contract of the laws' own bent.
-/
import Derived.Test.YtanimgfhabkmcaaLLives
import Derived.Test.YtanimgfhabkmcaaXBent
namespace Go.Proofs.Ytanimgfhabkmcaa
open Go.RowKit

theorem lrow_set : ∀ (evs : List Lf) (i k : Nat) (x y : Lf) (u : Value), evs[i]? = some x → k < 4 → (encL x).set k u = encL y → (lrow evs).set (i * 4 + k) u = lrow (evs.set i y)
  | [], i, k, x, y, u, h, _, _ => by simp at h
  | z :: r, 0, k, x, y, u, h, hk, he => by
    simp only [List.getElem?_cons_zero, Option.some.injEq] at h
    subst h
    simp only [lrow, List.flatMap_cons, List.set_cons_zero, Nat.zero_mul, Nat.zero_add]
    rw [List.set_append, if_pos (by simp [encL]; omega), he]
  | z :: r, i + 1, k, x, y, u, h, hk, he => by
    simp only [List.getElem?_cons_succ] at h
    have ih := lrow_set r i k x y u h hk he
    simp only [lrow, List.flatMap_cons, List.set_cons_succ] at ih ⊢
    rw [List.set_append, if_neg (by simp [encL]; omega), ← ih]
    congr 2
    simp [encL]
    omega
theorem OwnL.put {w : World} {g c n : Nat} {evs : List Lf} (h : OwnL w (.slice (some ⟨g, 0, none⟩) n c) evs) (hn : evs.length = n) {i k : Nat} {x y : Lf} {u : Value} (hx : evs[i]? = some x) (hk : k < 4) (he : (encL x).set k u = encL y) : OwnL (w.setCell ⟨g, i * 4 + k, none⟩ u) (.slice (some ⟨g, 0, none⟩) n c) (evs.set i y) := by
  subst hn
  have := (World.ownsRow.stored h (i * 4 + k) u).1
  rw [lrow_set evs i k x y u hx hk he] at this
  unfold OwnL
  rw [List.length_set]
  exact this
theorem OwnL.cells4 {w : World} {g c n : Nat} {evs : List Lf} (h : OwnL w (.slice (some ⟨g, 0, none⟩) n c) evs) (hn : evs.length = n) {i : Nat} {x : Lf} (hx : evs[i]? = some x) : w.cell? ⟨g, i * 4, none⟩ = some (.int .u32 (x.1.1 : Int)) ∧ w.cell? ⟨g, i * 4 + 1, none⟩ = some (.int .u32 (x.1.2 : Int)) ∧ w.cell? ⟨g, i * 4 + 2, none⟩ = some (.int .i64 x.2.1) ∧ w.cell? ⟨g, i * 4 + 3, none⟩ = some (.int .i64 x.2.2) := by
  subst hn
  have hi := (List.getElem?_eq_some_iff.1 hx).1
  obtain ⟨g0, g1, g2, g3⟩ := lrow_get evs i x hx
  refine ⟨?_, ?_, ?_, ?_⟩
  · rw [World.ownsRow.cellAt h _ (by omega)]; exact g0
  · rw [World.ownsRow.cellAt h _ (by omega)]; exact g1
  · rw [World.ownsRow.cellAt h _ (by omega)]; exact g2
  · rw [World.ownsRow.cellAt h _ (by omega)]; exact g3
theorem OwnL.free {w : World} {g c n : Nat} {evs : List Lf} (h : OwnL w (.slice (some ⟨g, 0, none⟩) n c) evs) (hn : evs.length = n) (j : Nat) : w.frozen? ⟨g, j, none⟩ = false := by
  subst hn
  exact World.ownsRow.frozenAt h j
theorem OwnL.put4 {w : World} {g c n : Nat} {evs : List Lf} (h : OwnL w (.slice (some ⟨g, 0, none⟩) n c) evs) (hn : evs.length = n) {i : Nat} {x : Lf} (y : Lf) (hx : evs[i]? = some x) : OwnL ((((w.setCell ⟨g, i * 4, none⟩ (.int .u32 (y.1.1 : Int))).setCell ⟨g, i * 4 + 1, none⟩ (.int .u32 (y.1.2 : Int))).setCell ⟨g, i * 4 + 2, none⟩ (.int .i64 y.2.1)).setCell ⟨g, i * 4 + 3, none⟩ (.int .i64 y.2.2)) (.slice (some ⟨g, 0, none⟩) n c) (evs.set i y) := by
  have hi := (List.getElem?_eq_some_iff.1 hx).1
  have h1 := OwnL.put h hn (k := 0) (y := ((y.1.1, x.1.2), x.2)) (u := .int .u32 (y.1.1 : Int)) hx (by omega) rfl
  have h2 := OwnL.put h1 (by rw [List.length_set, hn]) (i := i) (k := 1) (x := ((y.1.1, x.1.2), x.2)) (y := (y.1, x.2)) (u := .int .u32 (y.1.2 : Int)) (by simp [hi]) (by omega) rfl
  have h3 := OwnL.put h2 (by rw [List.length_set, List.length_set, hn]) (i := i) (k := 2) (x := (y.1, x.2)) (y := (y.1, y.2.1, x.2.2)) (u := .int .i64 y.2.1) (by simp [hi]) (by omega) rfl
  have h4 := OwnL.put h3 (by rw [List.length_set, List.length_set, List.length_set, hn]) (i := i) (k := 3) (x := (y.1, y.2.1, x.2.2)) (y := y) (u := .int .i64 y.2.2) (by simp [hi]) (by omega) rfl
  simpa only [List.set_set, Nat.add_zero] using h4

/-- Lives of which one thing is another one. -/
def lbentF (l : List Lf) (what at_ : Nat) (z : Int) : List Lf :=
  match l[at_ % l.length]?, l[0]? with
  | some x, some x0 =>
    if what % 7 = 0 then l.set (at_ % l.length) (x.1, z, x.2.2)
    else if what % 7 = 1 then l.set (at_ % l.length) (x.1, x.2.1, z)
    else if what % 7 = 2 then l.set (at_ % l.length) ((u32of z, x.1.2), x.2)
    else if what % 7 = 3 then l.set (at_ % l.length) ((x.1.1, u32of z), x.2)
    else if what % 7 = 4 then (l.set (at_ % l.length) x0).set 0 x
    else if what % 7 = 5 then l ++ [x]
    else l.set (at_ % l.length) (x.1, x.2.1, x.2.1)
  | _, _ => [((what, at_), z, wrap64 (z + 1))]

set_option maxRecDepth 4000 in
set_option maxHeartbeats 3200000 in
theorem bent_any (v : Value) (l : List Lf) (what at_ : Nat) (z : Int) (w : World) (h : RdL w v l) (hl : l.length ≤ 1000000) (hwh : what < 256) (hat : at_ < 256) : Calls Try.prog 14 #[v, .int .u8 (what : Int), .int .u8 (at_ : Int), .int .i64 z] w fun r w' =>
    (∃ v', r = .returned v' ∧ RdL w' v' (lbentF l what at_ z)) ∧ Fr w w' (fun _ => False) := by
  obtain ⟨a0, c0, rfl, hc0⟩ := h.form
  obtain ⟨m, hm⟩ : ∃ m, m = l.length := ⟨_, rfl⟩
  rw [← hm] at h hl hc0 ⊢
  obtain ⟨R, hR⟩ : ∃ R, R = lbentF l what at_ z := ⟨_, rfl⟩
  rw [← hR]
  have HR : Hid _ := hR
  have Hm' : Hid (l.length = m) := hm.symm
  obtain ⟨v9, w9, hrun9, ho9, hf9, hn9⟩ := app_lives_nil w (.slice a0 m c0) l w.heap.size (Nat.le_refl _) h (by rw [← hm]; omega)
  obtain ⟨a9, c9, rfl, hc9⟩ : ∃ a c, v9 = .slice a m c ∧ m ≤ c := by obtain ⟨a, c, e, e2⟩ := ho9.rd.form; rw [← hm] at e e2; exact ⟨a, c, e, e2⟩
  have HO : Hid (OwnL w9 (.slice a9 m c9) l) := ho9
  have Hn9 : Hid (∀ k, (Value.slice a9 m c9).ownBlock = some k → w.heap.size ≤ k) := hn9
  have Hf9 : Hid (Fr w w9 (fun _ => False)) := hf9.old (Nat.le_refl _)
  obtain ⟨vz, hvz⟩ : ∃ u, u = u32of z := ⟨_, rfl⟩
  have wz2 : IntKind.u32.wrap z = (vz : Int) := by rw [hvz]; unfold u32of; rw [IntKind.wrap_u32]; omega
  have Hvz : Hid _ := hvz
  have ww : IntKind.u32.wrap (what : Int) = (what : Int) := by rw [IntKind.wrap_u32]; omega
  have wa32 : IntKind.u32.wrap (at_ : Int) = (at_ : Int) := by rw [IntKind.wrap_u32]; omega
  have wat : IntKind.i64.wrap (at_ : Int) = (at_ : Int) := IntWalk.i64_in _ (by omega)
  clear h hm hR ho9 hn9 hf9 hvz
  go_enter Try.func14, Try.ntmps14
  go_upto_region 2 with (at_builtin; refine wpList_append_run rfl (.const (.slice none 0 0)) (.tmp 11) 31 rfl rfl rfl hrun9 ?_)
  clear hrun9
  by_cases h0 : m = 0
  · subst h0
    have he : l = [] := List.eq_nil_of_length_eq_zero Hm'.out
    have Hres : Hid (R = [((what, at_), z, wrap64 (z + 1))]) := by
      show _ = _
      rw [HR.out, he]
      rfl
    have Hlit : Hid (RdL (w9.alloc (.cells #[.int .u32 (what : Int), .int .u32 (at_ : Int), .int .i64 z, .int .i64 (wrap64 (z + 1))] 56)) (.slice (some ⟨w9.heap.size, 0, none⟩) 1 1) [((what, at_), z, wrap64 (z + 1))]) := lit_life w9 ((what, at_), z, wrap64 (z + 1))
    obtain rfl := Hres.out
    clear he
    go_wp2
    go_ret
    exact ⟨⟨_, rfl, Hlit.out⟩, Hf9.out.alloc _⟩
  · have d1 : ((m : Int) == 0) = false := by rw [beq_eq_false_iff_ne]; omega
    have d1' : (m == 0) = false := by rw [beq_eq_false_iff_ne]; exact h0
    obtain ⟨g9, rfl⟩ : ∃ g, a9 = some ⟨g, 0, none⟩ := by
      rcases HO.out.2 with ⟨e, h⟩ | ⟨g, cap, cur, e, -⟩
      · simp only [Value.slice.injEq] at e; omega
      · simp only [Value.slice.injEq] at e; exact ⟨g, e.1⟩
    obtain ⟨i, hi⟩ : ∃ i, i = at_ % m := ⟨_, rfl⟩
    have him : i < m := by rw [hi]; exact Nat.mod_lt _ (by omega)
    obtain ⟨⟨⟨f1, f2⟩, s, s2⟩, hx⟩ : ∃ a, l[i]? = some a := ⟨_, List.getElem?_eq_getElem (by rw [Hm'.out]; omega)⟩
    obtain ⟨⟨⟨g1, g2⟩, s0, s02⟩, hx0⟩ : ∃ a, l[0]? = some a := ⟨_, List.getElem?_eq_getElem (by rw [Hm'.out]; omega)⟩
    have Hx : Hid _ := hx
    have Hx0 : Hid _ := hx0
    have HR2 : Hid (R = if what % 7 = 0 then l.set i ((f1, f2), z, s2)
      else if what % 7 = 1 then l.set i ((f1, f2), s, z)
      else if what % 7 = 2 then l.set i ((vz, f2), s, s2)
      else if what % 7 = 3 then l.set i ((f1, vz), s, s2)
      else if what % 7 = 4 then (l.set i ((g1, g2), s0, s02)).set 0 ((f1, f2), s, s2)
      else if what % 7 = 5 then l ++ [((f1, f2), s, s2)]
      else l.set i ((f1, f2), s, s)) := by
      show _ = _
      rw [HR.out]
      unfold lbentF
      rw [Hm'.out, ← hi, hx, hx0, Hvz.out]
    have wm1 : (at_ : Int).tmod (m : Int) = (i : Int) := by rw [Int.tmod_eq_emod_of_nonneg (by omega), hi]; simp
    have wm2 : (at_ : Int) % (m : Int) = (i : Int) := by rw [hi]; simp
    have hz0 : ¬ m = 0 := h0
    have him' : (i : Int) < (m : Int) := by omega
    have hi0 : (0 : Int) ≤ (i : Int) := by omega
    have h0m : (0 : Int) < (m : Int) := by omega
    have h0m' : 0 < m := by omega
    have Him : Hid (i < m) := him
    have Hg9 : Hid (w.heap.size ≤ g9) := Hn9.out g9 rfl
    clear hi hx hx0 HR h0
    obtain ⟨k0, k1, k2, k3⟩ := OwnL.cells4 HO.out Hm'.out Hx.out
    obtain ⟨l0, l1, l2, l3⟩ := OwnL.cells4 HO.out Hm'.out Hx0.out
    dsimp only at k0 k1 k2 k3 l0 l1 l2 l3
    simp only [Nat.zero_mul, Nat.zero_add] at l0 l1 l2 l3
    have fz0 := OwnL.free HO.out Hm'.out (i * 4)
    have fz1 := OwnL.free HO.out Hm'.out (i * 4 + 1)
    have fz2 := OwnL.free HO.out Hm'.out (i * 4 + 2)
    have fz3 := OwnL.free HO.out Hm'.out (i * 4 + 3)
    have h7 : what % 7 = 0 ∨ what % 7 = 1 ∨ what % 7 = 2 ∨ what % 7 = 3 ∨ what % 7 = 4 ∨ what % 7 = 5 ∨ what % 7 = 6 := by omega
    rcases h7 with h | h | h | h | h | h | h
    · have mw1 : (what : Int).tmod 7 = 0 := by rw [Int.tmod_eq_emod_of_nonneg (by omega)]; omega
      have mw2 : (what : Int) % 7 = 0 := by omega
      have HRR : Hid (R = l.set i ((f1, f2), z, s2)) := by
        show _ = _
        rw [HR2.out, h]
        simp
      clear h
      have HOx : Hid (OwnL (w9.setCell ⟨g9, i * 4 + 2, none⟩ (.int .i64 z)) (.slice (some ⟨g9, 0, none⟩) m c9) R) := by
        show OwnL _ _ _
        rw [HRR.out]
        exact OwnL.put HO.out Hm'.out (k := 2) Hx.out (by omega) rfl
      have Hfx : Hid (Fr w (w9.setCell ⟨g9, i * 4 + 2, none⟩ (.int .i64 z)) (fun _ => False)) := Hf9.out.newer (fr_cell w9 _ _ _) (fun k h => by have h1 := Hg9.out; omega)
      go_wp2
      go_ret
      exact ⟨⟨_, rfl, HOx.out.rd⟩, Hfx.out⟩
    · have mw1 : (what : Int).tmod 7 = 1 := by rw [Int.tmod_eq_emod_of_nonneg (by omega)]; omega
      have mw2 : (what : Int) % 7 = 1 := by omega
      have HRR : Hid (R = l.set i ((f1, f2), s, z)) := by
        show _ = _
        rw [HR2.out, h]
        simp
      clear h
      have HOx : Hid (OwnL (w9.setCell ⟨g9, i * 4 + 3, none⟩ (.int .i64 z)) (.slice (some ⟨g9, 0, none⟩) m c9) R) := by
        show OwnL _ _ _
        rw [HRR.out]
        exact OwnL.put HO.out Hm'.out (k := 3) Hx.out (by omega) rfl
      have Hfx : Hid (Fr w (w9.setCell ⟨g9, i * 4 + 3, none⟩ (.int .i64 z)) (fun _ => False)) := Hf9.out.newer (fr_cell w9 _ _ _) (fun k h => by have h1 := Hg9.out; omega)
      go_wp2
      go_ret
      exact ⟨⟨_, rfl, HOx.out.rd⟩, Hfx.out⟩
    · have mw1 : (what : Int).tmod 7 = 2 := by rw [Int.tmod_eq_emod_of_nonneg (by omega)]; omega
      have mw2 : (what : Int) % 7 = 2 := by omega
      have HRR : Hid (R = l.set i ((vz, f2), s, s2)) := by
        show _ = _
        rw [HR2.out, h]
        simp
      clear h
      have HOx : Hid (OwnL (w9.setCell ⟨g9, i * 4, none⟩ (.int .u32 (vz : Int))) (.slice (some ⟨g9, 0, none⟩) m c9) R) := by
        show OwnL _ _ _
        rw [HRR.out]
        exact OwnL.put HO.out Hm'.out (k := 0) Hx.out (by omega) rfl
      have Hfx : Hid (Fr w (w9.setCell ⟨g9, i * 4, none⟩ (.int .u32 (vz : Int))) (fun _ => False)) := Hf9.out.newer (fr_cell w9 _ _ _) (fun k h => by have h1 := Hg9.out; omega)
      go_wp2
      go_ret
      exact ⟨⟨_, rfl, HOx.out.rd⟩, Hfx.out⟩
    · have mw1 : (what : Int).tmod 7 = 3 := by rw [Int.tmod_eq_emod_of_nonneg (by omega)]; omega
      have mw2 : (what : Int) % 7 = 3 := by omega
      have HRR : Hid (R = l.set i ((f1, vz), s, s2)) := by
        show _ = _
        rw [HR2.out, h]
        simp
      clear h
      have HOx : Hid (OwnL (w9.setCell ⟨g9, i * 4 + 1, none⟩ (.int .u32 (vz : Int))) (.slice (some ⟨g9, 0, none⟩) m c9) R) := by
        show OwnL _ _ _
        rw [HRR.out]
        exact OwnL.put HO.out Hm'.out (k := 1) Hx.out (by omega) rfl
      have Hfx : Hid (Fr w (w9.setCell ⟨g9, i * 4 + 1, none⟩ (.int .u32 (vz : Int))) (fun _ => False)) := Hf9.out.newer (fr_cell w9 _ _ _) (fun k h => by have h1 := Hg9.out; omega)
      go_wp2
      go_ret
      exact ⟨⟨_, rfl, HOx.out.rd⟩, Hfx.out⟩
    · have mw1 : (what : Int).tmod 7 = 4 := by rw [Int.tmod_eq_emod_of_nonneg (by omega)]; omega
      have mw2 : (what : Int) % 7 = 4 := by omega
      have HRR : Hid (R = (l.set i ((g1, g2), s0, s02)).set 0 ((f1, f2), s, s2)) := by
        show _ = _
        rw [HR2.out, h]
        simp
      clear h
      go_wp2_with fail
      refine wp_region_tree (fun k => w.heap.size ≤ k) (.take 0 (.take 1 (.take 2 (.take 3 (.take 4 (.take 6 (.take 7 (.take 8 (.two 5 (.one 9 (.take 10 (.one 11 (.take 12 (.one 13 .nil))))) 9 (.one 5 (.take 10 (.one 11 (.take 12 (.one 13 .nil)))))))))))))) (by kernel_rfl) (by kernel_rfl) (by decide) (by kernel_rfl) ?_
      repeat (refine wpT_take (v := ?_) rfl rfl (fun x hx => ?_) ?_; rotate_left; (focus (go_simp; with_reducible rfl)); simp only [Act.put, List.setIfInBounds_toArray, List.set_cons_zero, List.set_cons_succ])
      refine wpT_two rfl rfl rfl rfl (fun K hK => ?_) (fun K hK => ?_)
      · go_simp
        refine hK _ _ (Fr.refl _ _) ?_
        clear hK K
        refine wpT_one rfl rfl (fun K hK => ?_)
        go_simp
        refine hK _ _ (Fr.refl _ _) ?_
        clear hK K
        repeat (refine wpT_take (v := ?_) rfl rfl (fun x hx => ?_) ?_; rotate_left; (focus (go_simp; with_reducible rfl)); simp only [Act.put, List.setIfInBounds_toArray, List.set_cons_zero, List.set_cons_succ])
        refine wpT_one rfl rfl (fun K hK => ?_)
        go_simp
        refine hK _ _ ((fr_put4 w9.drew _ _ _ _ _ _ _ _ _).mono (fun j _ h => by have h1 := Hg9.out; omega)) ?_
        clear hK K
        clear k0 k1 k2 k3 l0 l1 l2 l3 fz0 fz1 fz2 fz3
        have HOy : OwnL (((((w9.setCell ⟨g9, i * 4, none⟩ (.int .u32 (g1 : Int))).setCell ⟨g9, i * 4 + 1, none⟩ (.int .u32 (g2 : Int))).setCell ⟨g9, i * 4 + 2, none⟩ (.int .i64 s0)).setCell ⟨g9, i * 4 + 3, none⟩ (.int .i64 s02)).drew) (.slice (some ⟨g9, 0, none⟩) m c9) (l.set i ((g1, g2), s0, s02)) := OwnL.put4 HO.out Hm'.out ((g1, g2), s0, s02) Hx.out
        have HfXY : Fr w9 (((((w9.setCell ⟨g9, i * 4, none⟩ (.int .u32 (g1 : Int))).setCell ⟨g9, i * 4 + 1, none⟩ (.int .u32 (g2 : Int))).setCell ⟨g9, i * 4 + 2, none⟩ (.int .i64 s0)).setCell ⟨g9, i * 4 + 3, none⟩ (.int .i64 s02)).drew) (fun k => k = g9) := (fr_put4 w9 _ _ _ _ _ _ _ _ _).drew
        generalize ((((w9.setCell ⟨g9, i * 4, none⟩ (.int .u32 (g1 : Int))).setCell ⟨g9, i * 4 + 1, none⟩ (.int .u32 (g2 : Int))).setCell ⟨g9, i * 4 + 2, none⟩ (.int .i64 s0)).setCell ⟨g9, i * 4 + 3, none⟩ (.int .i64 s02)).drew = Y at HOy HfXY ⊢
        have Hly : Hid ((l.set i ((g1, g2), s0, s02)).length = m) := by show _ = _; rw [List.length_set]; exact Hm'.out
        have Hy0 : Hid ((l.set i ((g1, g2), s0, s02))[0]? = some ((g1, g2), s0, s02)) := by
          show _ = _
          rw [List.getElem?_set]
          split
          · rename_i h
            rw [if_pos (by rw [Hm'.out]; have := Him.out; omega)]
          · exact Hx0.out
        obtain ⟨l0, l1, l2, l3⟩ := OwnL.cells4 HOy Hly.out Hy0.out
        dsimp only at l0 l1 l2 l3
        simp only [Nat.zero_mul, Nat.zero_add] at l0 l1 l2 l3
        have fz0 := OwnL.free HOy Hly.out 0
        have fz1 := OwnL.free HOy Hly.out 1
        have fz2 := OwnL.free HOy Hly.out 2
        have fz3 := OwnL.free HOy Hly.out 3
        have HOy2 : Hid (OwnL Y (.slice (some ⟨g9, 0, none⟩) m c9) (l.set i ((g1, g2), s0, s02))) := HOy
        have HfXY2 : Hid _ := HfXY
        clear HOy HfXY
        repeat (refine wpT_take (v := ?_) rfl rfl (fun x hx => ?_) ?_; rotate_left; (focus (go_simp; with_reducible rfl)); simp only [Act.put, List.setIfInBounds_toArray, List.set_cons_zero, List.set_cons_succ])
        refine wpT_one rfl rfl (fun K hK => ?_)
        go_simp
        refine hK _ _ ((fr_put4 Y _ _ _ _ _ _ _ _ _).mono (fun j _ h => by have h1 := Hg9.out; omega)) ?_
        clear hK K
        clear l0 l1 l2 l3 fz0 fz1 fz2 fz3
        have HOx : OwnL ((((Y.setCell ⟨g9, 0, none⟩ (.int .u32 (f1 : Int))).setCell ⟨g9, 1, none⟩ (.int .u32 (f2 : Int))).setCell ⟨g9, 2, none⟩ (.int .i64 s)).setCell ⟨g9, 3, none⟩ (.int .i64 s2)) (.slice (some ⟨g9, 0, none⟩) m c9) R := by
          rw [HRR.out]
          have := OwnL.put4 HOy2.out Hly.out ((f1, f2), s, s2) Hy0.out
          simpa only [Nat.zero_mul, Nat.zero_add] using this
        have HfXZ : Fr w9 ((((Y.setCell ⟨g9, 0, none⟩ (.int .u32 (f1 : Int))).setCell ⟨g9, 1, none⟩ (.int .u32 (f2 : Int))).setCell ⟨g9, 2, none⟩ (.int .i64 s)).setCell ⟨g9, 3, none⟩ (.int .i64 s2)) (fun k => k = g9) := HfXY2.out.trans (fr_put4 Y _ _ _ _ _ _ _ _ _) (fun _ _ h => h)
        generalize (((Y.setCell ⟨g9, 0, none⟩ (.int .u32 (f1 : Int))).setCell ⟨g9, 1, none⟩ (.int .u32 (f2 : Int))).setCell ⟨g9, 2, none⟩ (.int .i64 s)).setCell ⟨g9, 3, none⟩ (.int .i64 s2) = Z at HOx HfXZ ⊢
        have Hfx : Hid (Fr w Z (fun _ => False)) := Hf9.out.newer HfXZ (fun k h => by have h1 := Hg9.out; omega)
        have HOx : Hid (OwnL Z (.slice (some ⟨g9, 0, none⟩) m c9) R) := HOx
        clear HfXZ
        unfold wpT
        go_wp2
        go_ret
        exact ⟨⟨_, rfl, HOx.out.rd⟩, Hfx.out⟩
      · go_simp
        refine hK _ _ (Fr.refl _ _) ?_
        clear hK K
        refine wpT_one rfl rfl (fun K hK => ?_)
        go_simp
        refine hK _ _ (Fr.refl _ _) ?_
        clear hK K
        repeat (refine wpT_take (v := ?_) rfl rfl (fun x hx => ?_) ?_; rotate_left; (focus (go_simp; with_reducible rfl)); simp only [Act.put, List.setIfInBounds_toArray, List.set_cons_zero, List.set_cons_succ])
        refine wpT_one rfl rfl (fun K hK => ?_)
        go_simp
        refine hK _ _ ((fr_put4 w9.drew _ _ _ _ _ _ _ _ _).mono (fun j _ h => by have h1 := Hg9.out; omega)) ?_
        clear hK K
        clear k0 k1 k2 k3 l0 l1 l2 l3 fz0 fz1 fz2 fz3
        have HOy : OwnL (((((w9.setCell ⟨g9, i * 4, none⟩ (.int .u32 (g1 : Int))).setCell ⟨g9, i * 4 + 1, none⟩ (.int .u32 (g2 : Int))).setCell ⟨g9, i * 4 + 2, none⟩ (.int .i64 s0)).setCell ⟨g9, i * 4 + 3, none⟩ (.int .i64 s02)).drew) (.slice (some ⟨g9, 0, none⟩) m c9) (l.set i ((g1, g2), s0, s02)) := OwnL.put4 HO.out Hm'.out ((g1, g2), s0, s02) Hx.out
        have HfXY : Fr w9 (((((w9.setCell ⟨g9, i * 4, none⟩ (.int .u32 (g1 : Int))).setCell ⟨g9, i * 4 + 1, none⟩ (.int .u32 (g2 : Int))).setCell ⟨g9, i * 4 + 2, none⟩ (.int .i64 s0)).setCell ⟨g9, i * 4 + 3, none⟩ (.int .i64 s02)).drew) (fun k => k = g9) := (fr_put4 w9 _ _ _ _ _ _ _ _ _).drew
        generalize ((((w9.setCell ⟨g9, i * 4, none⟩ (.int .u32 (g1 : Int))).setCell ⟨g9, i * 4 + 1, none⟩ (.int .u32 (g2 : Int))).setCell ⟨g9, i * 4 + 2, none⟩ (.int .i64 s0)).setCell ⟨g9, i * 4 + 3, none⟩ (.int .i64 s02)).drew = Y at HOy HfXY ⊢
        have Hly : Hid ((l.set i ((g1, g2), s0, s02)).length = m) := by show _ = _; rw [List.length_set]; exact Hm'.out
        have Hy0 : Hid ((l.set i ((g1, g2), s0, s02))[0]? = some ((g1, g2), s0, s02)) := by
          show _ = _
          rw [List.getElem?_set]
          split
          · rename_i h
            rw [if_pos (by rw [Hm'.out]; have := Him.out; omega)]
          · exact Hx0.out
        obtain ⟨l0, l1, l2, l3⟩ := OwnL.cells4 HOy Hly.out Hy0.out
        dsimp only at l0 l1 l2 l3
        simp only [Nat.zero_mul, Nat.zero_add] at l0 l1 l2 l3
        have fz0 := OwnL.free HOy Hly.out 0
        have fz1 := OwnL.free HOy Hly.out 1
        have fz2 := OwnL.free HOy Hly.out 2
        have fz3 := OwnL.free HOy Hly.out 3
        have HOy2 : Hid (OwnL Y (.slice (some ⟨g9, 0, none⟩) m c9) (l.set i ((g1, g2), s0, s02))) := HOy
        have HfXY2 : Hid _ := HfXY
        clear HOy HfXY
        repeat (refine wpT_take (v := ?_) rfl rfl (fun x hx => ?_) ?_; rotate_left; (focus (go_simp; with_reducible rfl)); simp only [Act.put, List.setIfInBounds_toArray, List.set_cons_zero, List.set_cons_succ])
        refine wpT_one rfl rfl (fun K hK => ?_)
        go_simp
        refine hK _ _ ((fr_put4 Y _ _ _ _ _ _ _ _ _).mono (fun j _ h => by have h1 := Hg9.out; omega)) ?_
        clear hK K
        clear l0 l1 l2 l3 fz0 fz1 fz2 fz3
        have HOx : OwnL ((((Y.setCell ⟨g9, 0, none⟩ (.int .u32 (f1 : Int))).setCell ⟨g9, 1, none⟩ (.int .u32 (f2 : Int))).setCell ⟨g9, 2, none⟩ (.int .i64 s)).setCell ⟨g9, 3, none⟩ (.int .i64 s2)) (.slice (some ⟨g9, 0, none⟩) m c9) R := by
          rw [HRR.out]
          have := OwnL.put4 HOy2.out Hly.out ((f1, f2), s, s2) Hy0.out
          simpa only [Nat.zero_mul, Nat.zero_add] using this
        have HfXZ : Fr w9 ((((Y.setCell ⟨g9, 0, none⟩ (.int .u32 (f1 : Int))).setCell ⟨g9, 1, none⟩ (.int .u32 (f2 : Int))).setCell ⟨g9, 2, none⟩ (.int .i64 s)).setCell ⟨g9, 3, none⟩ (.int .i64 s2)) (fun k => k = g9) := HfXY2.out.trans (fr_put4 Y _ _ _ _ _ _ _ _ _) (fun _ _ h => h)
        generalize (((Y.setCell ⟨g9, 0, none⟩ (.int .u32 (f1 : Int))).setCell ⟨g9, 1, none⟩ (.int .u32 (f2 : Int))).setCell ⟨g9, 2, none⟩ (.int .i64 s)).setCell ⟨g9, 3, none⟩ (.int .i64 s2) = Z at HOx HfXZ ⊢
        have Hfx : Hid (Fr w Z (fun _ => False)) := Hf9.out.newer HfXZ (fun k h => by have h1 := Hg9.out; omega)
        have HOx : Hid (OwnL Z (.slice (some ⟨g9, 0, none⟩) m c9) R) := HOx
        clear HfXZ
        unfold wpT
        go_wp2
        go_ret
        exact ⟨⟨_, rfl, HOx.out.rd⟩, Hfx.out⟩
    · have mw1 : (what : Int).tmod 7 = 5 := by rw [Int.tmod_eq_emod_of_nonneg (by omega)]; omega
      have mw2 : (what : Int) % 7 = 5 := by omega
      have HRR : Hid (R = l ++ [((f1, f2), s, s2)]) := by
        show _ = _
        rw [HR2.out, h]
        simp
      clear h
      obtain ⟨v5, w5, hrun5, ho5, hf5, hm5⟩ := app_life w9 (.slice (some ⟨g9, 0, none⟩) m c9) l ((f1, f2), s, s2) HO.out (by rw [Hm'.out]; omega)
      have Hfx : Hid (Fr w w5 (fun _ => False)) := (Hf9.out.alloc _).newer (hf5.mono (fun k _ hk => by simp only [Value.ownBlock, Option.some.injEq] at hk; exact hk.symm)) (fun k (h : k = g9) => by have h1 := Hg9.out; omega)
      have HOx : Hid (OwnL w5 v5 R) := by show OwnL _ _ _; rw [HRR.out]; exact ho5
      clear ho5 hf5 hm5
      go_wp2_with (at_builtin; refine wpList_append_run rfl (.tmp 90) (.tmp 95) 31 rfl rfl rfl hrun5 ?_)
      go_ret
      exact ⟨⟨_, rfl, HOx.out.rd⟩, Hfx.out⟩
    · have mw1 : (what : Int).tmod 7 = 6 := by rw [Int.tmod_eq_emod_of_nonneg (by omega)]; omega
      have mw2 : (what : Int) % 7 = 6 := by omega
      have HRR : Hid (R = l.set i ((f1, f2), s, s)) := by
        show _ = _
        rw [HR2.out, h]
        simp
      clear h
      have HOx : Hid (OwnL (w9.setCell ⟨g9, i * 4 + 3, none⟩ (.int .i64 s)) (.slice (some ⟨g9, 0, none⟩) m c9) R) := by
        show OwnL _ _ _
        rw [HRR.out]
        exact OwnL.put HO.out Hm'.out (k := 3) Hx.out (by omega) rfl
      have Hfx : Hid (Fr w (w9.setCell ⟨g9, i * 4 + 3, none⟩ (.int .i64 s)) (fun _ => False)) := Hf9.out.newer (fr_cell w9 _ _ _) (fun k h => by have h1 := Hg9.out; omega)
      go_wp2
      go_ret
      exact ⟨⟨_, rfl, HOx.out.rd⟩, Hfx.out⟩

theorem lbent_fit {l : List Lf} {what at_ : Nat} {z : Int} (hwh : what < 256) (hat : at_ < 256) (hz : -9223372036854775808 ≤ z ∧ z ≤ 9223372036854775807) (hf : ∀ x ∈ l, LfFit x) : (∀ x ∈ lbentF l what at_ z, LfFit x) ∧ (lbentF l what at_ z).length ≤ l.length + 1 := by
  have hu : u32of z < 4294967296 := by unfold u32of; omega
  have set_fit : ∀ (m : List Lf) (i : Nat) (y : Lf), (∀ x ∈ m, LfFit x) → LfFit y → ∀ x ∈ m.set i y, LfFit x := fun m i y hm hy x hx => by
    rcases List.mem_or_eq_of_mem_set hx with h | h
    · exact hm x h
    · exact h ▸ hy
  unfold lbentF
  split
  · rename_i x x0 h1 h0
    obtain ⟨⟨g1, g2⟩, ⟨g3, g4⟩, g5, g6⟩ := hf x (List.mem_of_getElem? h1)
    have hx0 := hf x0 (List.mem_of_getElem? h0)
    have hx := hf x (List.mem_of_getElem? h1)
    repeat' split
    · exact ⟨set_fit _ _ _ hf ⟨⟨g1, g2⟩, hz, g5, g6⟩, by simp⟩
    · exact ⟨set_fit _ _ _ hf ⟨⟨g1, g2⟩, ⟨g3, g4⟩, hz⟩, by simp⟩
    · exact ⟨set_fit _ _ _ hf ⟨⟨hu, g2⟩, ⟨g3, g4⟩, g5, g6⟩, by simp⟩
    · exact ⟨set_fit _ _ _ hf ⟨⟨g1, hu⟩, ⟨g3, g4⟩, g5, g6⟩, by simp⟩
    · exact ⟨set_fit _ _ _ (set_fit _ _ _ hf hx0) hx, by simp⟩
    · refine ⟨fun y hy => ?_, by simp⟩
      rcases List.mem_append.1 hy with h | h
      · exact hf y h
      · rw [List.mem_singleton] at h
        exact h ▸ hx
    · exact ⟨set_fit _ _ _ hf ⟨⟨g1, g2⟩, ⟨g3, g4⟩, g3, g4⟩, by simp⟩
  · refine ⟨fun y hy => ?_, by simp⟩
    rw [List.mem_singleton] at hy
    subst hy
    have hw : -9223372036854775808 ≤ wrap64 (z + 1) ∧ wrap64 (z + 1) ≤ 9223372036854775807 := by unfold wrap64; omega
    exact ⟨⟨(by omega : what < 4294967296), (by omega : at_ < 4294967296)⟩, hz, hw⟩

end Go.Proofs.Ytanimgfhabkmcaa

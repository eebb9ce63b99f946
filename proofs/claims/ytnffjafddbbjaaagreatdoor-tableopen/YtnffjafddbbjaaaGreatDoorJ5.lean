/-
  Texts of ours, joined: EKey EMapI HWrong HMap HTurn HFits HCheck.
-/
import Derived.Test.YtnffjafddbbjaaaGreatDoorJ2
import Derived.Maps.OwnSet
import Derived.DeepKeys4
import Derived.Test.YtnffjafddbbjaaaGreatDoorJ4

/-
  Edges as a map's keys.
-/
namespace Go.Proofs.YtnffjafddbbjaaaGreatDoor
open Go.RowKit Go.Maps

set_option maxRecDepth 8000 in
theorem mLaid : laidOutB Tryz.prog = true := by kernel_rfl
set_option maxRecDepth 8000 in
theorem mRow : (58 : TypeId) < Tryz.prog.types.size := of_decide_eq_true (by kernel_rfl)
set_option maxRecDepth 8000 in
theorem mWide : (match Tryz.prog.underlying 58 with | some (.array _ _) | some (.struct _) => true | _ => false) = true := by rw [Tryz.underlying58]
set_option maxRecDepth 8000 in
theorem mLaw : Keyed Tryz.prog 58 := Keyed.of_law (deep_law_laid mLaid (m := 2) (by omega) mRow (by kernel_rfl) mWide)
theorem mCellsE : Tryz.prog.cellsOf 58 = 2 := by kernel_rfl
theorem mCellsU : Tryz.prog.cellsOf 56 = 1 := by kernel_rfl
set_option maxRecDepth 8000 in
theorem mKeyType : Tryz.prog.keyType 58 = true := by kernel_rfl

/-- What an edge reads as, as a key. -/
def eKey (e : Eg) : Lit := .string (keyBytes [.int .u32 (e.1 : Int), .int .u32 (e.2 : Int)])
set_option maxRecDepth 8000 in
theorem eKey_is (e : Eg) (h : EgFit e) : keyOf Tryz.prog 58 (edgeV e) = some (eKey e) := by
  obtain ⟨h1, h2⟩ := h
  have f : (edgeV e).formed Tryz.prog 58 = true := by simp [edgeV, Value.formed, Tryz.underlying58, mCellsE]
  have w1 : (Lit.int .u32 (e.1 : Int)).wf = true := by
    have hmin : IntKind.u32.min = 0 := by decide
    have hmax : IntKind.u32.max = 4294967295 := by decide
    simp [Lit.wf, hmin, hmax]
    omega
  have w2 : (Lit.int .u32 (e.2 : Int)).wf = true := by
    have hmin : IntKind.u32.min = 0 := by decide
    have hmax : IntKind.u32.max = 4294967295 := by decide
    simp [Lit.wf, hmin, hmax]
    omega
  have e1 : Tryz.prog.keyLits (Tryz.prog.types.size + 1) 58 (edgeV e).cells.toList = some [.int .u32 (e.1 : Int), .int .u32 (e.2 : Int)] := by
    obtain ⟨s, hs⟩ := Nat.exists_eq_succ_of_ne_zero (Nat.ne_of_gt (Nat.lt_of_le_of_lt (Nat.zero_le _) mRow))
    rw [hs]
    simp [Program.keyLits, Tryz.underlying58, Tryz.underlying56, mCellsE, mCellsU, edgeV, Value.cells, w1, w2]
  unfold keyOf
  rw [Tryz.underlying58]
  dsimp only
  rw [if_pos (by rw [mKeyType, f]; rfl), e1]
  rfl
theorem eKey_inj {a b : Eg} (ha : EgFit a) (hb : EgFit b) (h : eKey a = eKey b) : a = b := by
  have e1 := eKey_is a ha
  have e2 := eKey_is b hb
  rw [h] at e1
  have := mLaw.inj e1 e2
  obtain ⟨a1, a2⟩ := a
  obtain ⟨b1, b2⟩ := b
  simp only [edgeV, Value.agg.injEq, Array.mk.injEq, List.cons.injEq, Value.int.injEq, true_and, and_true] at this
  simp only [Prod.mk.injEq]
  omega
theorem fr_turned {w w' : World} {b : Nat} (h : w.mapTurned w' b) : Fr w w' (fun k => k = b) := (Fr.refl w (fun k => k = b)).grown h.grown (fun k hk _ => by simpa using hk.symm)

end Go.Proofs.YtnffjafddbbjaaaGreatDoor

/-
  A map from edges to ints: what it has at each; put, delete.
-/
namespace Go.Proofs.YtnffjafddbbjaaaGreatDoor
open Go.RowKit Go.Maps

/-- What a datum has at each edge. -/
def AtE (D : DataW Unit) (f : Eg → Option Int) : Prop := ∀ e, EgFit e → has D (eKey e) = (f e).isSome ∧ ∀ v, f e = some v → D.atKey (eKey e) (.lit (.int .i64 0)) = .lit (.int .i64 v)
/-- Block b is a map with elements of type E (of kind int64) that has f, of at most n entries. -/
def OwnI (E : TypeId) (w : World) (b n : Nat) (f : Eg → Option Int) : Prop := ∃ D : DataW Unit, w.ownsMap Tryz.prog 58 (plainElem Tryz.prog E) b n D ∧ AtE D f
theorem ownI_new (E : TypeId) (w : World) : OwnI E (w.alloc (.map #[] 0)) w.heap.size 0 (fun _ => none) := ⟨_, World.ownsMap_made w _ _ _, fun e _ => ⟨by simp [has_eq], fun v h => by cases h⟩⟩
theorem OwnI.frame {E : TypeId} {w w' : World} {b n : Nat} {f : Eg → Option Int} {S : Nat → Prop} (h : OwnI E w b n f) (g : Fr w w' S) (hs : ¬ S b) : OwnI E w' b n f := by
  obtain ⟨D, ⟨es, clock, hb, r⟩, hD⟩ := h
  exact ⟨D, ⟨es, clock, g.kept hb hs, r⟩, hD⟩
theorem OwnI.lt {E : TypeId} {w : World} {b n : Nat} {f : Eg → Option Int} (h : OwnI E w b n f) : b < w.heap.size := by
  obtain ⟨D, ho, -⟩ := h
  exact ho.lt
theorem OwnI.mono {E : TypeId} {w : World} {b n m : Nat} {f : Eg → Option Int} (h : OwnI E w b n f) (hm : n ≤ m) : OwnI E w b m f := by
  obtain ⟨D, ho, hD⟩ := h
  exact ⟨D, ho.mono hm, hD⟩
set_option maxRecDepth 8000 in
theorem atE_put {D : DataW Unit} {f : Eg → Option Int} {e : Eg} {v : Int} (he : EgFit e) (hi : IsMap D) (hD : AtE D f) : AtE (D.put (eKey e) (.lit (.int .i64 v))) (fun x => if x = e then some v else f x) := by
  intro x hx
  dsimp only
  by_cases hxe : x = e
  · subst hxe
    rw [if_pos rfl]
    exact ⟨has_put_same hi (mLaw.key (eKey_is _ hx)) _, fun u hu => by simp only [Option.some.injEq] at hu; subst hu; exact atKey_put_same hi (mLaw.key (eKey_is _ hx)) _ _⟩
  · have hne : eKey x ≠ eKey e := fun h => hxe (eKey_inj hx he h)
    rw [if_neg hxe]
    obtain ⟨h1, h2⟩ := hD x hx
    exact ⟨by rw [has_put_other hne]; exact h1, fun u hu => by rw [atKey_put_other hne]; exact h2 u hu⟩
set_option maxRecDepth 8000 in
theorem atE_del {D : DataW Unit} {f : Eg → Option Int} {e : Eg} (he : EgFit e) (hD : AtE D f) : AtE (D.del (eKey e)) (fun x => if x = e then none else f x) := by
  intro x hx
  dsimp only
  by_cases hxe : x = e
  · subst hxe
    rw [if_pos rfl]
    exact ⟨has_del_same, fun u hu => by cases hu⟩
  · have hne : eKey x ≠ eKey e := fun h => hxe (eKey_inj hx he h)
    rw [if_neg hxe]
    obtain ⟨h1, h2⟩ := hD x hx
    exact ⟨by rw [has_del_other hne]; exact h1, fun u hu => by rw [atKey_del_other hne]; exact h2 u hu⟩
set_option maxRecDepth 8000 in
/-- What a look-up answers. -/
theorem atE_look {D : DataW Unit} {f : Eg → Option Int} {e : Eg} {c : Int} (he : EgFit e) (hD : AtE D f) (hc : D.atKey (eKey e) (.lit (.int .i64 0)) = .lit (.int .i64 c)) : c = (f e).getD 0 := by
  obtain ⟨h1, h2⟩ := hD e he
  cases hf : f e with
  | some v =>
    have := h2 v hf
    rw [hc] at this
    simp only [DataW.lit.injEq, Lit.int.injEq, true_and] at this
    rw [this]
    rfl
  | none =>
    rw [hf] at h1
    rw [atKey_of_not_has h1] at hc
    simp only [DataW.lit.injEq, Lit.int.injEq, true_and] at hc
    rw [← hc]
    rfl

end Go.Proofs.YtnffjafddbbjaaaGreatDoor

/-
  The contract of history's wrong: what is wrong with one event, whatever edges are there.
-/
namespace Go.Proofs.YtnffjafddbbjaaaGreatDoor
open Go.RowKit

def wrongF (n : Nat) (pv : Option Ev) (x : Ev) : Nat :=
  if x.1 < 0 ∨ 4611686018427387903 < x.1 then 26 else if eRight x.2.1.1 x.2.1.2 n = false then 24 else if (pv.any fun p => !eBef p x) = true then 23 else 0

set_option maxRecDepth 4000 in
set_option maxHeartbeats 1600000 in
theorem wrong_any (n : Nat) (v : Value) (evs : List Ev) (i : Nat) (x : Ev) (w : World) (h : RdV w v evs) (hl : evs.length ≤ 1000000) (hx : EvFit x) (ha : evs[i]? = some x) : Calls Tryz.prog 79 #[histV n v, .int .i64 (i : Int)] w fun r w' =>
    r = .returned (.int .i64 (wrongF n (prevAt evs i) x : Int)) ∧ Fr w w' (fun _ => False) := by
  obtain ⟨a0, c0, rfl, hc0⟩ := h.form
  obtain ⟨m, hm⟩ : ∃ m, m = evs.length := ⟨_, rfl⟩
  rw [← hm] at h hl hc0 ⊢
  obtain ⟨R, hR⟩ : ∃ R, R = wrongF n (prevAt evs i) x := ⟨_, rfl⟩
  rw [← hR]
  obtain ⟨t, ⟨e1, e2⟩, ad⟩ := x
  have HR : Hid _ := hR
  have Hr0 : Hid (RdV w (.slice a0 m c0) evs) := h
  have Hm : Hid _ := hm
  have hlt : i < m := by rw [hm]; exact (List.getElem?_eq_some_iff.1 ha).1
  have Hx : Hid (EvFit (t, (e1, e2), ad)) := hx
  have hin : (i : Int) < (m : Int) := by omega
  have hi0 : (0 : Int) ≤ (i : Int) := by omega
  have Hlt : Hid _ := hlt
  have Hl : Hid _ := hl
  clear h hm hR hx hl
  unfold histV
  go_enter Tryz.func79, Tryz.ntmps79
  go_upto_region 1 with fail
  obtain ⟨p, hp⟩ : ∃ p, p = w.heap.size := ⟨_, rfl⟩
  obtain ⟨wa, hwa⟩ : ∃ wa, wa = w.alloc (.cells #[.int .u64 (n : Int), .slice a0 m c0] 25) := ⟨_, rfl⟩
  rw [← hwa, ← hp]
  have Hpb : Hid (∀ z, Fr wa z (fun _ => False) → z.heap[p]? = some (.cells #[.int .u64 (n : Int), .slice a0 m c0] 25 (0, 0))) := fun z hz => hz.kept (by rw [hwa, hp]; exact heap_alloc_new _ _) (fun h => h)
  have Hwa : Hid (Fr w wa (fun _ => False)) := by show Fr _ _ _; rw [hwa]; exact (Fr.refl _ _).alloc _
  have Hr : Hid (∀ z, Fr wa z (fun _ => False) → RdV z (.slice a0 m c0) evs) := fun z hz => Hr0.out.keep (Hwa.out.none hz)
  clear hp hwa
  obtain ⟨ca, cb⟩ : wa.cell? ⟨p, 0, none⟩ = some (.int .u64 (n : Int)) ∧ wa.cell? ⟨p, 1, none⟩ = some (.slice a0 m c0) := ⟨two_cell0 (Hpb.out wa (Fr.refl _ _)), two_cell1 (Hpb.out wa (Fr.refl _ _))⟩
  obtain ⟨bk, off, cap, e3, hbk, hca⟩ := (Hr.out wa (Fr.refl _ _)).get i _ ha
  rw [← Hm.out] at e3
  simp only [Value.slice.injEq] at e3
  obtain ⟨rfl, -, rfl⟩ := e3
  obtain ⟨k0, k1, k2, k3⟩ := hca wa (Fr.refl _ _)
  clear hca ha hbk Hr0
  go_upto_region 2 with fail
  obtain ⟨pe, hpe⟩ : ∃ p, p = wa.heap.size := ⟨_, rfl⟩
  obtain ⟨wE, hwE⟩ : ∃ x, x = wa.alloc (.cells #[.int .i64 t, .int .u32 (e1 : Int), .int .u32 (e2 : Int), .bool ad] 60) := ⟨_, rfl⟩
  rw [← hwE, ← hpe]
  have Hpe : Hid (∀ z, Fr wE z (fun _ => False) → z.heap[pe]? = some (.cells #[.int .i64 t, .int .u32 (e1 : Int), .int .u32 (e2 : Int), .bool ad] 60 (0, 0))) := fun z hz => hz.kept (by rw [hwE, hpe]; exact heap_alloc_new _ _) (fun h => h)
  have HfE : Hid (Fr wa wE (fun _ => False)) := by show Fr _ _ _; rw [hwE]; exact (Fr.refl _ _).alloc _
  have HwE : Hid (Fr w wE (fun _ => False)) := Hwa.out.none HfE.out
  clear k0 k1 k2 k3 ca cb hwE hpe
  obtain ⟨k0, k1, k2, k3⟩ := four_cells (Hpe.out wE (Fr.refl _ _))
  obtain ⟨ca, cb⟩ : wE.cell? ⟨p, 0, none⟩ = some (.int .u64 (n : Int)) ∧ wE.cell? ⟨p, 1, none⟩ = some (.slice (some ⟨bk, off, none⟩) m c0) := ⟨two_cell0 (Hpb.out wE HfE.out), two_cell1 (Hpb.out wE HfE.out)⟩
  by_cases ht : t < 0
  · have d3 : decide (t < 0) = true := decide_eq_true ht
    have Hres : Hid (R = 26) := by show _ = _; rw [HR.out]; exact if_pos (.inl ht)
    have Hfo : Hid (Fr w wE (fun _ => False)) := HwE.out
    clear ht
    go_wp2
    go_ret
    obtain rfl := Hres.out
    exact ⟨rfl, Hfo.out⟩
  have d3 : decide (t < 0) = false := decide_eq_false ht
  by_cases ht2 : 4611686018427387903 < t
  · have d4 : decide (4611686018427387903 < t) = true := decide_eq_true ht2
    have Hres : Hid (R = 26) := by show _ = _; rw [HR.out]; exact if_pos (.inr ht2)
    have Hfo : Hid (Fr w wE (fun _ => False)) := HwE.out
    clear ht ht2
    go_wp2
    go_ret
    obtain rfl := Hres.out
    exact ⟨rfl, Hfo.out⟩
  have d4 : decide (4611686018427387903 < t) = false := decide_eq_false ht2
  have Hlim : Hid (¬ (t < 0 ∨ 4611686018427387903 < t)) := by show ¬ _; omega
  obtain ⟨B1, hB1⟩ : ∃ B, B = eRight e1 e2 n := ⟨_, rfl⟩
  have HB1 : Hid _ := hB1
  clear ht ht2 hB1
  go_wp2_with fail
  refine (right_any e1 e2 n _ Hx.out.2.2).mono ?_
  rw [← HB1.out]
  rintro r x1 ⟨rfl, g⟩
  have G1 : Hid (Fr wE x1 (fun _ => False)) := g
  clear g k0 k1 k2 k3 ca cb
  cases B1 with
  | false =>
    have Hres : Hid (R = 24) := by show _ = _; rw [HR.out]; exact (if_neg Hlim.out).trans (if_pos HB1.out.symm)
    have Hfo : Hid (Fr w x1 (fun _ => False)) := HwE.out.none G1.out
    go_wp2
    go_ret
    obtain rfl := Hres.out
    exact ⟨rfl, Hfo.out⟩
  | true =>
  obtain ⟨B2, hB2⟩ : ∃ B, B = ((prevAt evs i).any fun p => !eBef p (t, (e1, e2), ad)) := ⟨_, rfl⟩
  have HB2 : Hid _ := hB2
  clear hB2
  go_upto_region 6 with fail
  go_cut [27] from 28 to 40 (fun V wx => V = .bool B2 ∧ Fr x1 wx (fun _ => False))
  case first =>
    by_cases h0 : i = 0
    · subst h0
      have HB3 : Hid (B2 = false) := by show _ = _; rw [HB2.out]; rfl
      obtain rfl := HB3.out
      go_wp2_with fail
      refine wp_region_tree (fun _ => False) (.take 0 (.take 1 (.take 2 (.take 3 (.take 4 (.take 5 (.take 6 (.take 7 (.take 8 (.take 9 (.one 10 (.take 11 (.take 12 (.take 13 .nil)))))))))))))) (by kernel_rfl) (by kernel_rfl) (by decide) (by kernel_rfl) ?_
      iterate 3 (refine wpT_take (v := ?_) rfl rfl (fun x hx => ?_) ?_; rotate_left; (focus (go_simp; with_reducible rfl)); simp only [Act.put, List.setIfInBounds_toArray, List.set_cons_zero, List.set_cons_succ])
      iterate 7 (refine wpT_pass rfl rfl ?_; simp only [Act.put, List.setIfInBounds_toArray, List.set_cons_zero, List.set_cons_succ])
      refine wpT_skip rfl rfl ?_
      simp only [Act.put, List.setIfInBounds_toArray, List.set_cons_zero, List.set_cons_succ]
      (refine wpT_pass rfl rfl ?_; simp only [Act.put, List.setIfInBounds_toArray, List.set_cons_zero, List.set_cons_succ])
      repeat (refine wpT_take (v := ?_) rfl rfl (fun x hx => ?_) ?_; rotate_left; (focus (go_simp; with_reducible rfl)); simp only [Act.put, List.setIfInBounds_toArray, List.set_cons_zero, List.set_cons_succ])
      have G3 : Hid (Fr x1 x1.drew (fun _ => False)) := (Fr.refl x1 (fun _ => False)).drew
      unfold wpT
      go_wp2_with fail
      go_meet
      case rel => exact ⟨rfl, G3.out⟩
    · obtain ⟨i1, hie⟩ : ∃ j, i = j + 1 := ⟨i - 1, by omega⟩
      obtain ⟨⟨t', ⟨f1, f2⟩, ad'⟩, ha'⟩ : ∃ a, evs[i1]? = some a := ⟨_, List.getElem?_eq_getElem (by rw [← Hm.out]; omega)⟩
      have HB3 : Hid (eBefore t' t (f1, f2) (e1, e2) = !B2) := by
        show _ = _
        rw [HB2.out, hie]
        show _ = !((evs[i1]?).any fun p => !eBef p (t, (e1, e2), ad))
        rw [ha']
        simp [eBef]
      obtain ⟨bk', off', cap', e4, hbk, hca⟩ := (Hr.out wa (Fr.refl _ _)).get i1 _ ha'
      simp only [Value.slice.injEq, Option.some.injEq, Addr.mk.injEq] at e4
      obtain ⟨⟨rfl, rfl, -⟩, -, rfl⟩ := e4
      have hG : Fr wa x1.drew (fun _ => False) := (HfE.out.none G1.out).drew
      have HG : Hid _ := hG
      have ka : ∀ z, Fr x1.drew z (fun _ => False) → z.cell? ⟨bk, off + i1 * 4, none⟩ = some (.int .i64 t') := fun z hz => (hca z ((HG.out.none hz).mono (fun _ _ h => h.elim))).1
      have kb : ∀ z, Fr x1.drew z (fun _ => False) → z.cell? ⟨bk, off + i1 * 4 + 1, none⟩ = some (.int .u32 (f1 : Int)) := fun z hz => (hca z ((HG.out.none hz).mono (fun _ _ h => h.elim))).2.1
      have kc : ∀ z, Fr x1.drew z (fun _ => False) → z.cell? ⟨bk, off + i1 * 4 + 2, none⟩ = some (.int .u32 (f2 : Int)) := fun z hz => (hca z ((HG.out.none hz).mono (fun _ _ h => h.elim))).2.2.1
      have kd : ∀ z, Fr x1.drew z (fun _ => False) → z.cell? ⟨bk, off + i1 * 4 + 3, none⟩ = some (.bool ad') := fun z hz => (hca z ((HG.out.none hz).mono (fun _ _ h => h.elim))).2.2.2
      have ke : ∀ z, Fr x1.drew z (fun _ => False) → z.cell? ⟨pe, 0, none⟩ = some (.int .i64 t) := fun z hz => (four_cells (Hpe.out z (G1.out.drew.none hz))).1
      have kf : ∀ z, Fr x1.drew z (fun _ => False) → z.cell? ⟨pe, 1, none⟩ = some (.int .u32 (e1 : Int)) := fun z hz => (four_cells (Hpe.out z (G1.out.drew.none hz))).2.1
      have kg : ∀ z, Fr x1.drew z (fun _ => False) → z.cell? ⟨pe, 2, none⟩ = some (.int .u32 (e2 : Int)) := fun z hz => (four_cells (Hpe.out z (G1.out.drew.none hz))).2.2.1
      have kh : ∀ z, Fr x1.drew z (fun _ => False) → z.cell? ⟨pe, 3, none⟩ = some (.bool ad) := fun z hz => (four_cells (Hpe.out z (G1.out.drew.none hz))).2.2.2
      have kp : ∀ z, Fr x1.drew z (fun _ => False) → z.cell? ⟨p, 1, none⟩ = some (.slice (some ⟨bk, off, none⟩) m c0) := fun z hz => two_cell1 (Hpb.out z (HG.out.none hz))
      have hpos : decide ((0 : Int) < (i : Int)) = true := decide_eq_true (by omega)
      have hsub : IntKind.i64.wrap ((i : Int) - 1) = (i1 : Int) := by have := Hl.out; rw [IntWalk.i64_in _ (by omega)]; omega
      have hpos' : decide (0 < i) = true := decide_eq_true (by omega)
      have hi1 : (i1 : Int) < (m : Int) := by omega
      have hi10 : (0 : Int) ≤ (i1 : Int) := by omega
      clear hca hbk hG ha' hie
      go_wp2_with fail
      refine wp_region_tree (fun _ => False) (.take 0 (.take 1 (.take 2 (.take 3 (.take 4 (.take 5 (.take 6 (.take 7 (.take 8 (.take 9 (.one 10 (.take 11 (.take 12 (.take 13 .nil)))))))))))))) (by kernel_rfl) (by kernel_rfl) (by decide) (by kernel_rfl) ?_
      repeat (refine wpT_take (v := ?_) rfl rfl (fun x hx => ?_) ?_; rotate_left; (focus (go_simp; with_reducible rfl)); simp only [Act.put, List.setIfInBounds_toArray, List.set_cons_zero, List.set_cons_succ])
      refine wpT_one rfl rfl (fun K hK => ?_)
      go_simp
      refine (before_any t' t (f1, f2) (e1, e2) ad' ad _).mono ?_
      rw [HB3.out]
      rintro r x3 ⟨rfl, g⟩
      refine hK _ _ g ?_
      clear hK K ka kb kc kd ke kf kg kh kp
      have G3 : Hid (Fr x1 x3 (fun _ => False)) := (Fr.refl x1 (fun _ => False)).drew.none g
      have hbb : (!(!B2)) = B2 := by simp
      clear g
      repeat (refine wpT_take (v := ?_) rfl rfl (fun x hx => ?_) ?_; rotate_left; (focus (go_simp; with_reducible rfl)); simp only [Act.put, List.setIfInBounds_toArray, List.set_cons_zero, List.set_cons_succ])
      unfold wpT
      go_wp2_with fail
      go_meet
      case rel => exact ⟨by first | rfl | rw [hbb], G3.out⟩
  case rest =>
    obtain ⟨rfl, hfc⟩ := hcut
    rename_i hKc
    refine hKc _ _ ?_
    clear hKc
    have G4 : Hid (Fr wE wc (fun _ => False)) := G1.out.none hfc
    clear hfc
    cases B2 with
    | true =>
      have Hres : Hid (R = 23) := by show _ = _; rw [HR.out]; exact (if_neg Hlim.out).trans ((if_neg (by rw [← HB1.out]; simp)).trans (if_pos HB2.out.symm))
      have Hfo : Hid (Fr w wc (fun _ => False)) := HwE.out.none G4.out
      go_wp2
      go_ret
      obtain rfl := Hres.out
      exact ⟨rfl, Hfo.out⟩
    | false =>
      have Hres : Hid (R = 0) := by show _ = _; rw [HR.out]; exact (if_neg Hlim.out).trans ((if_neg (by rw [← HB1.out]; simp)).trans (if_neg (by rw [← HB2.out]; simp)))
      have Hfo : Hid (Fr w wc (fun _ => False)) := HwE.out.none G4.out
      go_wp2
      go_ret
      obtain rfl := Hres.out
      exact ⟨rfl, Hfo.out⟩

end Go.Proofs.YtnffjafddbbjaaaGreatDoor

/-
  A set of edges in a map: who is in it; look up, put, delete.
-/
namespace Go.Proofs.YtnffjafddbbjaaaGreatDoor
open Go.RowKit Go.Maps

theorem mZero (w : World) : (zeroValue 165).run Tryz.prog w = .ok (.agg #[]) w := by kernel_rfl
/-- Block b is a map that has just the edges of l, of at most n entries. -/
def OwnM (w : World) (b n : Nat) (l : List Eg) : Prop := ∃ D : DataW Unit, w.ownsMap Tryz.prog 58 unitElem b n D ∧ ∀ e, EgFit e → has D (eKey e) = decide (e ∈ l)

theorem ownM_new (w : World) : OwnM (w.alloc (.map #[] 0)) w.heap.size 0 [] := ⟨_, World.ownsMap_made w _ _ _, fun e _ => by simp [has_eq]⟩
theorem OwnM.frame {w w' : World} {b n : Nat} {l : List Eg} {S : Nat → Prop} (h : OwnM w b n l) (f : Fr w w' S) (hs : ¬ S b) : OwnM w' b n l := by
  obtain ⟨D, ⟨es, clock, hb, r⟩, hD⟩ := h
  exact ⟨D, ⟨es, clock, f.kept hb hs, r⟩, hD⟩
theorem OwnM.lt {w : World} {b n : Nat} {l : List Eg} (h : OwnM w b n l) : b < w.heap.size := by
  obtain ⟨D, ho, -⟩ := h
  exact ho.lt
theorem OwnM.mono {w : World} {b n m : Nat} {l : List Eg} (h : OwnM w b n l) (hm : n ≤ m) : OwnM w b m l := by
  obtain ⟨D, ho, hD⟩ := h
  exact ⟨D, ho.mono hm, hD⟩
set_option maxRecDepth 8000 in
theorem has_put_all {D : DataW Unit} {l l' : List Eg} {e : Eg} (he : EgFit e) (hi : IsMap D) (hD : ∀ x, EgFit x → has D (eKey x) = decide (x ∈ l)) (hl : ∀ x, x ∈ l' ↔ (x ∈ l ∧ x ≠ e) ∨ x = e) :
    ∀ x, EgFit x → has (D.put (eKey e) (.agg [])) (eKey x) = decide (x ∈ l') := by
  intro x hx
  by_cases hxe : x = e
  · subst hxe
    rw [has_put_same hi (mLaw.key (eKey_is _ hx))]
    exact (decide_eq_true ((hl _).2 (.inr rfl))).symm
  · rw [has_put_other (fun h => hxe (eKey_inj hx he h)), hD x hx]
    exact decide_eq_decide.2 ⟨fun h => (hl _).2 (.inl ⟨h, hxe⟩), fun h => by
      rcases (hl _).1 h with h | h
      · exact h.1
      · exact absurd h hxe⟩
set_option maxRecDepth 8000 in
theorem has_del_all {D : DataW Unit} {l l' : List Eg} {e : Eg} (he : EgFit e) (hD : ∀ x, EgFit x → has D (eKey x) = decide (x ∈ l)) (hl : ∀ x, x ∈ l' ↔ x ∈ l ∧ x ≠ e) :
    ∀ x, EgFit x → has (D.del (eKey e)) (eKey x) = decide (x ∈ l') := by
  intro x hx
  by_cases hxe : x = e
  · subst hxe
    rw [has_del_same]
    exact (decide_eq_false (fun h => ((hl _).1 h).2 rfl)).symm
  · rw [has_del_other (fun h => hxe (eKey_inj hx he h)), hD x hx]
    exact decide_eq_decide.2 ⟨fun h => (hl _).2 ⟨h, hxe⟩, fun h => ((hl _).1 h).1⟩

end Go.Proofs.YtnffjafddbbjaaaGreatDoor

/-
  The contract of history's turn.
-/
namespace Go.Proofs.YtnffjafddbbjaaaGreatDoor
open Go.RowKit Go.Maps

set_option maxRecDepth 4000 in
set_option maxHeartbeats 800000 in
theorem turn_any (b n : Nat) (l : List Eg) (x : Ev) (w : World) (h : OwnM w b n l) (hr : eRising l = true) (hn : n ≤ 1000000) (hx : EvFit x) : Calls Tryz.prog 80 #[.map (some b), evV x] w fun r w' =>
    r = .returned (.bool (turnF l x.2.1 x.2.2).isSome) ∧ Fr w w' (fun k => k = b) ∧ (∀ l', turnF l x.2.1 x.2.2 = some l' → OwnM w' b (n + 1) l') := by
  obtain ⟨t, ⟨e1, e2⟩, ad⟩ := x
  obtain ⟨D, ho, hD⟩ := h
  have hfit : EgFit (e1, e2) := hx.2
  have Hfit : Hid _ := hfit
  have Hm : Hid (∀ z, Fr w z (fun _ => False) → z.ownsMap Tryz.prog 58 unitElem b n D) := fun z hz => by
    obtain ⟨es, clock, hb, r⟩ := ho
    exact ⟨es, clock, hz.kept hb (fun h => h), r⟩
  have HD : Hid _ := hD
  have hmx : n < maxLen := by unfold maxLen; omega
  have Hb : Hid (b < w.heap.size) := ho.lt
  obtain ⟨B, hB⟩ : ∃ B, B = decide ((e1, e2) ∈ l) := ⟨_, rfl⟩
  have HhB : Hid (has D (eKey (e1, e2)) = B) := by show _ = _; rw [hB]; exact hD _ hfit
  have HB : Hid _ := hB
  have Hr : Hid _ := hr
  clear hfit ho hD hB hr hx
  unfold evV eventV
  dsimp only
  rcases ad with _ | _ <;> rcases B with _ | _
  · -- not there, goes
    have Hno : Hid (turnF l (e1, e2) false = none) := by show _ = _; unfold turnF; exact if_pos (.inr HB.out)
    rw [Hno.out]
    go_enter Tryz.func80, Tryz.ntmps80
    go_upto_region 1 with fail
    obtain ⟨p, hp⟩ : ∃ p, p = w.heap.size := ⟨_, rfl⟩
    obtain ⟨w1, hw1⟩ : ∃ x, x = w.alloc (.cells #[.int .i64 t, .int .u32 (e1 : Int), .int .u32 (e2 : Int), .bool false] 60) := ⟨_, rfl⟩
    rw [← hw1, ← hp]
    have Hpb : Hid (∀ z, Fr w1 z (fun _ => False) → z.heap[p]? = some (.cells #[.int .i64 t, .int .u32 (e1 : Int), .int .u32 (e2 : Int), .bool false] 60 (0, 0))) := fun z hz => hz.kept (by rw [hw1, hp]; exact heap_alloc_new _ _) (fun h => h)
    have Hw1 : Hid (Fr w w1 (fun _ => False)) := by show Fr _ _ _; rw [hw1]; exact (Fr.refl _ _).alloc _
    clear hp hw1
    obtain ⟨k0, k1, k2, k3⟩ := four_cells (Hpb.out w1 (Fr.refl _ _))
    have k4 : ∀ o, (w1.alloc o).cell? ⟨p, 0, none⟩ = some (.int .i64 t) := fun o => (four_cells (Hpb.out _ ((Fr.refl _ _).alloc o))).1
    have k5 : ∀ o, (w1.alloc o).cell? ⟨p, 1, none⟩ = some (.int .u32 (e1 : Int)) := fun o => (four_cells (Hpb.out _ ((Fr.refl _ _).alloc o))).2.1
    have k6 : ∀ o, (w1.alloc o).cell? ⟨p, 2, none⟩ = some (.int .u32 (e2 : Int)) := fun o => (four_cells (Hpb.out _ ((Fr.refl _ _).alloc o))).2.2.1
    have k7 : ∀ o, (w1.alloc o).cell? ⟨p, 3, none⟩ = some (.bool false) := fun o => (four_cells (Hpb.out _ ((Fr.refl _ _).alloc o))).2.2.2
    have Hfo : Hid (∀ z, Fr w1 z (fun _ => False) → Fr w z (fun k => k = b)) := fun z hz => (Hw1.out.none hz).mono (fun _ _ h => h.elim)
    go_wp2_with (first | (at_lookup; refine wpList_lookup_own_unit _ rfl _ _ 134 rfl 58 165 mLaw Tryz.underlying134 (mZero _) b n D rfl (Hm.out w1 Hw1.out) (edgeV (e1, e2)) _ rfl (eKey_is _ Hfit.out) ?_; rw [HhB.out]) | fail)
    go_ret
    first | exact ⟨rfl, Hfo.out _ ((Fr.refl _ _).alloc _)⟩ | exact ⟨rfl, Hfo.out _ ((Fr.refl _ _).alloc _), fun l' h => by cases h⟩
  · -- there, goes
    obtain ⟨l', hl'⟩ := turn_some (l := l) (e := (e1, e2)) (add := false) Hr.out (by rw [← HB.out]; rfl)
    have Hl : Hid (turnF l (e1, e2) false = some l') := hl'
    rw [Hl.out]
    clear hl'
    go_enter Tryz.func80, Tryz.ntmps80
    go_upto_region 1 with fail
    obtain ⟨p, hp⟩ : ∃ p, p = w.heap.size := ⟨_, rfl⟩
    obtain ⟨w1, hw1⟩ : ∃ x, x = w.alloc (.cells #[.int .i64 t, .int .u32 (e1 : Int), .int .u32 (e2 : Int), .bool false] 60) := ⟨_, rfl⟩
    rw [← hw1, ← hp]
    have Hpb : Hid (∀ z, Fr w1 z (fun _ => False) → z.heap[p]? = some (.cells #[.int .i64 t, .int .u32 (e1 : Int), .int .u32 (e2 : Int), .bool false] 60 (0, 0))) := fun z hz => hz.kept (by rw [hw1, hp]; exact heap_alloc_new _ _) (fun h => h)
    have Hw1 : Hid (Fr w w1 (fun _ => False)) := by show Fr _ _ _; rw [hw1]; exact (Fr.refl _ _).alloc _
    clear hp hw1
    obtain ⟨k0, k1, k2, k3⟩ := four_cells (Hpb.out w1 (Fr.refl _ _))
    have k4 : ∀ o, (w1.alloc o).cell? ⟨p, 0, none⟩ = some (.int .i64 t) := fun o => (four_cells (Hpb.out _ ((Fr.refl _ _).alloc o))).1
    have k5 : ∀ o, (w1.alloc o).cell? ⟨p, 1, none⟩ = some (.int .u32 (e1 : Int)) := fun o => (four_cells (Hpb.out _ ((Fr.refl _ _).alloc o))).2.1
    have k6 : ∀ o, (w1.alloc o).cell? ⟨p, 2, none⟩ = some (.int .u32 (e2 : Int)) := fun o => (four_cells (Hpb.out _ ((Fr.refl _ _).alloc o))).2.2.1
    have k7 : ∀ o, (w1.alloc o).cell? ⟨p, 3, none⟩ = some (.bool false) := fun o => (four_cells (Hpb.out _ ((Fr.refl _ _).alloc o))).2.2.2
    go_wp2_with (first | (at_lookup; refine wpList_lookup_own_unit _ rfl _ _ 134 rfl 58 165 mLaw Tryz.underlying134 (mZero _) b n D rfl (Hm.out w1 Hw1.out) (edgeV (e1, e2)) _ rfl (eKey_is _ Hfit.out) ?_; rw [HhB.out]) | (at_delete; refine wpList_delete_own _ rfl _ _ 134 58 rfl 165 mLaw Tryz.underlying134 unitElem b n D rfl (Hm.out _ (Hw1.out.alloc _)) (edgeV (e1, e2)) _ rfl (eKey_is _ Hfit.out) ?_; intro w3 hown3 hturn3) | fail)
    have Hown : Hid (OwnM w3 b (n + 1) l') := ⟨_, hown3.mono (by omega), has_del_all Hfit.out HD.out (fun x => by rw [mem_turn Hl.out]; simp)⟩
    have Hfo : Hid (Fr w w3 (fun k => k = b)) := ((Hw1.out.alloc _).mono (fun _ _ h => h.elim)).trans (fr_turned hturn3) (fun _ _ h => h)
    clear hown3 hturn3
    go_wp2
    go_ret
    first | exact ⟨rfl, Hfo.out, Hown.out⟩ | exact ⟨rfl, Hfo.out, fun x hx => by cases hx; exact Hown.out⟩
  · -- not there, comes
    obtain ⟨l', hl'⟩ := turn_some (l := l) (e := (e1, e2)) (add := true) Hr.out (by rw [← HB.out]; rfl)
    have Hl : Hid (turnF l (e1, e2) true = some l') := hl'
    have Hmap : Hid (IsMap D) := (Hm.out w (Fr.refl _ _)).isMap
    rw [Hl.out]
    clear hl'
    go_enter Tryz.func80, Tryz.ntmps80
    go_upto_region 1 with fail
    obtain ⟨p, hp⟩ : ∃ p, p = w.heap.size := ⟨_, rfl⟩
    obtain ⟨w1, hw1⟩ : ∃ x, x = w.alloc (.cells #[.int .i64 t, .int .u32 (e1 : Int), .int .u32 (e2 : Int), .bool true] 60) := ⟨_, rfl⟩
    rw [← hw1, ← hp]
    have Hpb : Hid (∀ z, Fr w1 z (fun _ => False) → z.heap[p]? = some (.cells #[.int .i64 t, .int .u32 (e1 : Int), .int .u32 (e2 : Int), .bool true] 60 (0, 0))) := fun z hz => hz.kept (by rw [hw1, hp]; exact heap_alloc_new _ _) (fun h => h)
    have Hw1 : Hid (Fr w w1 (fun _ => False)) := by show Fr _ _ _; rw [hw1]; exact (Fr.refl _ _).alloc _
    clear hp hw1
    obtain ⟨k0, k1, k2, k3⟩ := four_cells (Hpb.out w1 (Fr.refl _ _))
    have k4 : ∀ o, (w1.alloc o).cell? ⟨p, 0, none⟩ = some (.int .i64 t) := fun o => (four_cells (Hpb.out _ ((Fr.refl _ _).alloc o))).1
    have k5 : ∀ o, (w1.alloc o).cell? ⟨p, 1, none⟩ = some (.int .u32 (e1 : Int)) := fun o => (four_cells (Hpb.out _ ((Fr.refl _ _).alloc o))).2.1
    have k6 : ∀ o, (w1.alloc o).cell? ⟨p, 2, none⟩ = some (.int .u32 (e2 : Int)) := fun o => (four_cells (Hpb.out _ ((Fr.refl _ _).alloc o))).2.2.1
    have k7 : ∀ o, (w1.alloc o).cell? ⟨p, 3, none⟩ = some (.bool true) := fun o => (four_cells (Hpb.out _ ((Fr.refl _ _).alloc o))).2.2.2
    go_wp2_with (first | (at_lookup; refine wpList_lookup_own_unit _ rfl _ _ 134 rfl 58 165 mLaw Tryz.underlying134 (mZero _) b n D rfl (Hm.out w1 Hw1.out) (edgeV (e1, e2)) _ rfl (eKey_is _ Hfit.out) ?_; rw [HhB.out]) | (at_mapUpdate; refine wpList_mapUpdate_in _ rfl _ _ _ 134 rfl 58 165 mLaw Tryz.underlying134 unitElem b n D rfl (Hm.out _ (Hw1.out.alloc _)) hmx (edgeV (e1, e2)) (.agg #[]) _ rfl rfl (eKey_is _ Hfit.out) (.agg []) [] unitElem_mk ?_; intro w3 hown3 hturn3) | fail)
    have Hown : Hid (OwnM w3 b (n + 1) l') := ⟨_, hown3, has_put_all Hfit.out Hmap.out HD.out (fun x => by rw [mem_turn Hl.out]; simp)⟩
    have Hfo : Hid (Fr w w3 (fun k => k = b)) := ((Hw1.out.alloc _).mono (fun _ _ h => h.elim)).trans (fr_turned hturn3) (fun _ _ h => h)
    clear hown3 hturn3
    go_wp2
    go_ret
    first | exact ⟨rfl, Hfo.out, Hown.out⟩ | exact ⟨rfl, Hfo.out, fun x hx => by cases hx; exact Hown.out⟩
  · -- there, comes
    have Hno : Hid (turnF l (e1, e2) true = none) := by show _ = _; unfold turnF; exact if_pos (.inr HB.out)
    rw [Hno.out]
    go_enter Tryz.func80, Tryz.ntmps80
    go_upto_region 1 with fail
    obtain ⟨p, hp⟩ : ∃ p, p = w.heap.size := ⟨_, rfl⟩
    obtain ⟨w1, hw1⟩ : ∃ x, x = w.alloc (.cells #[.int .i64 t, .int .u32 (e1 : Int), .int .u32 (e2 : Int), .bool true] 60) := ⟨_, rfl⟩
    rw [← hw1, ← hp]
    have Hpb : Hid (∀ z, Fr w1 z (fun _ => False) → z.heap[p]? = some (.cells #[.int .i64 t, .int .u32 (e1 : Int), .int .u32 (e2 : Int), .bool true] 60 (0, 0))) := fun z hz => hz.kept (by rw [hw1, hp]; exact heap_alloc_new _ _) (fun h => h)
    have Hw1 : Hid (Fr w w1 (fun _ => False)) := by show Fr _ _ _; rw [hw1]; exact (Fr.refl _ _).alloc _
    clear hp hw1
    obtain ⟨k0, k1, k2, k3⟩ := four_cells (Hpb.out w1 (Fr.refl _ _))
    have k4 : ∀ o, (w1.alloc o).cell? ⟨p, 0, none⟩ = some (.int .i64 t) := fun o => (four_cells (Hpb.out _ ((Fr.refl _ _).alloc o))).1
    have k5 : ∀ o, (w1.alloc o).cell? ⟨p, 1, none⟩ = some (.int .u32 (e1 : Int)) := fun o => (four_cells (Hpb.out _ ((Fr.refl _ _).alloc o))).2.1
    have k6 : ∀ o, (w1.alloc o).cell? ⟨p, 2, none⟩ = some (.int .u32 (e2 : Int)) := fun o => (four_cells (Hpb.out _ ((Fr.refl _ _).alloc o))).2.2.1
    have k7 : ∀ o, (w1.alloc o).cell? ⟨p, 3, none⟩ = some (.bool true) := fun o => (four_cells (Hpb.out _ ((Fr.refl _ _).alloc o))).2.2.2
    have Hfo : Hid (∀ z, Fr w1 z (fun _ => False) → Fr w z (fun k => k = b)) := fun z hz => (Hw1.out.none hz).mono (fun _ _ h => h.elim)
    go_wp2_with (first | (at_lookup; refine wpList_lookup_own_unit _ rfl _ _ 134 rfl 58 165 mLaw Tryz.underlying134 (mZero _) b n D rfl (Hm.out w1 Hw1.out) (edgeV (e1, e2)) _ rfl (eKey_is _ Hfit.out) ?_; rw [HhB.out]) | fail)
    go_ret
    first | exact ⟨rfl, Hfo.out _ ((Fr.refl _ _).alloc _)⟩ | exact ⟨rfl, Hfo.out _ ((Fr.refl _ _).alloc _), fun l' h => by cases h⟩

end Go.Proofs.YtnffjafddbbjaaaGreatDoor

/-
  The contract of history's fits.
-/
namespace Go.Proofs.YtnffjafddbbjaaaGreatDoor
open Go.RowKit

set_option maxRecDepth 4000 in
set_option maxHeartbeats 400000 in
theorem fits_any (n m : Nat) (w : World) (hn : n < 18446744073709551616) (hm : m ≤ 1000000) : Calls Tryz.prog 78 #[.int .u64 (n : Int), .int .u64 (m : Int)] w fun r w' =>
    r = .returned (.bool (decide (n ≤ 4294967296))) ∧ Fr w w' (fun _ => False) := by
  have d2 : decide ((m : Int) ≤ 2147483648) = true := decide_eq_true (by omega)
  have d2' : decide (m ≤ 2147483648) = true := decide_eq_true (by omega)
  by_cases h : n ≤ 4294967296
  · have d1 : decide ((n : Int) ≤ 4294967296) = true := decide_eq_true (by omega)
    have d1' : decide (n ≤ 4294967296) = true := decide_eq_true h
    rw [d1']
    go_enter Tryz.func78, Tryz.ntmps78
    go_wp2
    go_ret
    exact ⟨rfl, Fr.refl w _⟩
  · have d1 : decide ((n : Int) ≤ 4294967296) = false := decide_eq_false (by omega)
    have d1' : decide (n ≤ 4294967296) = false := decide_eq_false h
    rw [d1']
    go_enter Tryz.func78, Tryz.ntmps78
    go_wp2
    go_ret
    exact ⟨rfl, Fr.refl w _⟩

end Go.Proofs.YtnffjafddbbjaaaGreatDoor

/-
  The contract of history's Check.
-/
namespace Go.Proofs.YtnffjafddbbjaaaGreatDoor
open Go.RowKit

theorem chk_wrong {n : Nat} {now : List Eg} {pv : Option Ev} {i : Nat} {x : Ev} {r : List Ev} (h : wrongF n pv x ≠ 0) : chkF n now pv i (x :: r) = (i, wrongF n pv x) := by
  unfold wrongF at h ⊢
  by_cases h1 : x.1 < 0 ∨ 4611686018427387903 < x.1
  · rw [if_pos h1]; exact chk_limit h1
  · rw [if_neg h1] at h ⊢
    cases h2 : eRight x.2.1.1 x.2.1.2 n with
    | false => rw [if_pos rfl]; exact chk_vertex h1 h2
    | true =>
      rw [h2, if_neg (by simp)] at h
      rw [if_neg (by simp)]
      cases h3 : (pv.any fun p => !eBef p x) with
      | true => rw [if_pos rfl]; exact chk_order h1 h2 h3
      | false => rw [h3, if_neg (by simp)] at h; exact absurd rfl h
theorem wrong_zero {n : Nat} {pv : Option Ev} {x : Ev} (h : wrongF n pv x = 0) : ¬ (x.1 < 0 ∨ 4611686018427387903 < x.1) ∧ eRight x.2.1.1 x.2.1.2 n = true ∧ (pv.any fun p => !eBef p x) = false := by
  unfold wrongF at h
  by_cases h1 : x.1 < 0 ∨ 4611686018427387903 < x.1
  · rw [if_pos h1] at h; cases h
  · rw [if_neg h1] at h
    cases h2 : eRight x.2.1.1 x.2.1.2 n with
    | false => rw [h2, if_pos rfl] at h; cases h
    | true =>
      rw [h2, if_neg (by simp)] at h
      cases h3 : (pv.any fun p => !eBef p x) with
      | true => rw [h3, if_pos rfl] at h; cases h
      | false => exact ⟨h1, rfl, rfl⟩

set_option maxRecDepth 4000 in
set_option maxHeartbeats 1600000 in
theorem check_any (n : Nat) (v : Value) (evs : List Ev) (w : World) (h : RdV w v evs) (hn : n < 18446744073709551616) (hl : evs.length ≤ 1000000) (hfit : ∀ x ∈ evs, EvFit x) : Calls Tryz.prog 53 #[histV n v] w fun r w' => r = .returned (.tuple #[.int .i64 ((checkF n evs).1 : Int), .int .i64 ((checkF n evs).2 : Int)]) ∧ Fr w w' (fun _ => False) := by
  obtain ⟨a0, c0, rfl, hc0⟩ := h.form
  obtain ⟨m, hm⟩ : ∃ m, m = evs.length := ⟨_, rfl⟩
  rw [← hm] at h hl hc0 ⊢
  obtain ⟨⟨R1, R2⟩, hR⟩ : ∃ R, R = checkF n evs := ⟨_, rfl⟩
  rw [← hR]
  have HR : Hid _ := hR
  have Hr : Hid (RdV w (.slice a0 m c0) evs) := h
  have Hm : Hid _ := hm
  have Hl : Hid (evs.length ≤ 1000000) := by show _ ≤ _; omega
  have Hfit : Hid _ := hfit
  have Hn : Hid _ := hn
  have wm : IntKind.u64.wrap (m : Int) = (m : Int) := by rw [IntKind.wrap_u64]; omega
  clear h hm hR hfit hn
  dsimp only
  have Hh : Hid (histV n (.slice a0 m c0) = .agg #[.int .u64 (n : Int), .slice a0 m c0]) := rfl
  rw [Hh.out]
  go_enter Tryz.func53, Tryz.ntmps53
  go_upto_region 1 with fail
  obtain ⟨p, hp⟩ : ∃ p, p = w.heap.size := ⟨_, rfl⟩
  obtain ⟨wa, hwa⟩ : ∃ wa, wa = w.alloc (.cells #[.int .u64 (n : Int), .slice a0 m c0] 25) := ⟨_, rfl⟩
  rw [← hwa, ← hp]
  have Hpb : Hid (∀ z, Fr wa z (fun _ => False) → z.heap[p]? = some (.cells #[.int .u64 (n : Int), .slice a0 m c0] 25 (0, 0))) := fun z hz => hz.kept (by rw [hwa, hp]; exact heap_alloc_new _ _) (fun h => h)
  have Hwa : Hid (Fr w wa (fun _ => False)) := by show Fr _ _ _; rw [hwa]; exact (Fr.refl _ _).alloc _
  have Hr : Hid (∀ z, Fr wa z (fun _ => False) → RdV z (.slice a0 m c0) evs) := fun z hz => Hr.out.keep (Hwa.out.none hz)
  clear hp hwa
  obtain ⟨ca, cb⟩ : wa.cell? ⟨p, 0, none⟩ = some (.int .u64 (n : Int)) ∧ wa.cell? ⟨p, 1, none⟩ = some (.slice a0 m c0) := ⟨two_cell0 (Hpb.out wa (Fr.refl _ _)), two_cell1 (Hpb.out wa (Fr.refl _ _))⟩
  go_wp2_with fail
  refine (fits_any n m wa Hn.out (by have := Hl.out; rw [← Hm.out] at this; exact this)).mono ?_
  by_cases hn : 4294967296 < n
  · have Hres : Hid ((R1, R2) = (0, 26)) := by show _ = _; rw [HR.out]; unfold checkF; exact if_pos (.inl hn)
    rw [decide_eq_false (by omega)]
    rintro r x1 ⟨rfl, g⟩
    have Hfo : Hid (Fr w x1 (fun _ => False)) := Hwa.out.none g
    clear g ca cb
    go_wp2
    go_ret2
    simp only [Prod.mk.injEq] at Hres
    obtain ⟨rfl, rfl⟩ := Hres.out
    exact ⟨rfl, Hfo.out⟩
  rw [decide_eq_true (by omega)]
  rintro r x1 ⟨rfl, g⟩
  have G1 : Hid (Fr wa x1 (fun _ => False)) := g
  have Hst : Hid (chkF n [] none 0 evs = (R1, R2)) := by show _ = _; rw [HR.out, checkF_small Hl.out hn]
  have hmm := @run_makeMap Tryz.prog
  clear hn HR g ca cb
  go_upto_region 4 with fail
  obtain ⟨b, hb⟩ : ∃ b, b = x1.heap.size := ⟨_, rfl⟩
  obtain ⟨wb, hwb⟩ : ∃ x, x = x1.alloc (.map #[] 0) := ⟨_, rfl⟩
  rw [← hwb, ← hb]
  have Hmap : Hid (OwnM wb b 0 []) := by show OwnM _ _ _ _; rw [hwb, hb]; exact ownM_new x1
  have Hwb : Hid (Fr wa wb (fun _ => False)) := by show Fr _ _ _; rw [hwb]; exact G1.out.alloc _
  have Hb : Hid (wa.heap.size ≤ b) := by show _ ≤ _; rw [hb]; exact G1.out.size
  clear hb hwb hmm
  obtain ⟨ca, cb⟩ : wb.cell? ⟨p, 0, none⟩ = some (.int .u64 (n : Int)) ∧ wb.cell? ⟨p, 1, none⟩ = some (.slice a0 m c0) := ⟨two_cell0 (Hpb.out wb Hwb.out), two_cell1 (Hpb.out wb Hwb.out)⟩
  go_wp2_with fail
  clear ca cb
  go_loopg [20] m (fun g I wr => ∃ (i : Nat) (now : List Eg), g = m - i ∧ i ≤ m ∧ I = .int .i64 (i : Int) ∧ OwnM wr b i now ∧ eRising now = true ∧ chkF n now (prevAt evs i) i (evs.drop i) = (R1, R2) ∧ Fr wa wr (fun _ => False))
  case atStart => exact ⟨0, [], by omega, by omega, rfl, Hmap.out, rfl, Hst.out, Hwb.out⟩
  case round =>
    obtain ⟨i, now, hg, hi, rfl, hmap, hris, hst, hf⟩ := hrel
    have Hg : Hid _ := hg
    have Hmap : Hid (OwnM wr b i now) := hmap
    have Hris : Hid _ := hris
    have Hs : Hid _ := hst
    have Hf : Hid (Fr wa wr (fun _ => False)) := hf
    clear hg hmap hris hst hf
    obtain ⟨ca, cb⟩ : wr.cell? ⟨p, 0, none⟩ = some (.int .u64 (n : Int)) ∧ wr.cell? ⟨p, 1, none⟩ = some (.slice a0 m c0) := ⟨two_cell0 (Hpb.out wr Hf.out), two_cell1 (Hpb.out wr Hf.out)⟩
    by_cases hlt : i < m
    · have hin : (i : Int) < (m : Int) := by omega
      have hin' : decide (i < m) = true := decide_eq_true hlt
      obtain ⟨⟨t, ⟨e1, e2⟩, ad⟩, ha⟩ : ∃ a, evs[i]? = some a := ⟨_, List.getElem?_eq_getElem (by rw [← Hm.out]; omega)⟩
      have Ha : Hid _ := ha
      have Hx : Hid (EvFit (t, (e1, e2), ad)) := Hfit.out _ (List.mem_of_getElem? ha)
      have Hst : Hid (chkF n now (prevAt evs i) i ((t, (e1, e2), ad) :: evs.drop (i + 1)) = (R1, R2)) := by
        show _ = _
        rw [← Hs.out]
        rw [drop_at ha]
      obtain ⟨bk, off, cap, e3, hbk, hca⟩ := (Hr.out wa (Fr.refl _ _)).get i _ ha
      simp only [Value.slice.injEq] at e3
      obtain ⟨rfl, -, rfl⟩ := e3
      obtain ⟨k0, k1, k2, k3⟩ := hca wr (Hf.out.mono (fun _ _ h => h.elim))
      have hi0 : (0 : Int) ≤ (i : Int) := by omega
      clear hca ha hbk Hs
      go_upto_region 7 with fail
      obtain ⟨pe, hpe⟩ : ∃ p, p = wr.heap.size := ⟨_, rfl⟩
      obtain ⟨wE, hwE⟩ : ∃ x, x = wr.alloc (.cells #[.int .i64 t, .int .u32 (e1 : Int), .int .u32 (e2 : Int), .bool ad] 60) := ⟨_, rfl⟩
      rw [← hwE, ← hpe]
      have Hpe : Hid (∀ z, Fr wE z (fun _ => False) → z.heap[pe]? = some (.cells #[.int .i64 t, .int .u32 (e1 : Int), .int .u32 (e2 : Int), .bool ad] 60 (0, 0))) := fun z hz => hz.kept (by rw [hwE, hpe]; exact heap_alloc_new _ _) (fun h => h)
      have HfE : Hid (Fr wa wE (fun _ => False)) := by show Fr _ _ _; rw [hwE]; exact Hf.out.alloc _
      have HrE : Hid (Fr wr wE (fun _ => False)) := by show Fr _ _ _; rw [hwE]; exact (Fr.refl _ _).alloc _
      have Hmap : Hid (∀ z, Fr wE z (fun _ => False) → OwnM z b i now) := fun z hz => OwnM.frame Hmap.out (HrE.out.none hz) (fun h => h)
      clear k0 k1 k2 k3 ca cb hwE hpe
      obtain ⟨ca, cb⟩ : wE.cell? ⟨p, 0, none⟩ = some (.int .u64 (n : Int)) ∧ wE.cell? ⟨p, 1, none⟩ = some (.slice (some ⟨bk, off, none⟩) m c0) := ⟨two_cell0 (Hpb.out wE HfE.out), two_cell1 (Hpb.out wE HfE.out)⟩
      obtain ⟨W, hW⟩ : ∃ W, W = wrongF n (prevAt evs i) (t, (e1, e2), ad) := ⟨_, rfl⟩
      have HW : Hid _ := hW
      clear hW
      go_wp2_with fail
      refine (wrong_any n _ evs i (t, (e1, e2), ad) _ (Hr.out wE HfE.out) Hl.out Hx.out Ha.out).mono ?_
      rw [← HW.out]
      rintro r x2 ⟨rfl, g⟩
      have G2 : Hid (Fr wE x2 (fun _ => False)) := g
      clear g ca cb
      by_cases hW0 : W = 0
      · have Hz : Hid _ := wrong_zero (HW.out.symm.trans hW0)
        subst hW0
        obtain ⟨k0, k1, k2, k3⟩ := four_cells (Hpe.out x2 G2.out)
        obtain ⟨TF, hTF⟩ : ∃ T, T = turnF now (e1, e2) ad := ⟨_, rfl⟩
        have HTF : Hid _ := hTF
        clear hTF
        go_wp2_with fail
        refine (turn_any b i now (t, (e1, e2), ad) x2 (Hmap.out x2 G2.out) Hris.out (by have := Hl.out; rw [← Hm.out] at this; omega) Hx.out).mono ?_
        rw [show turnF now (t, (e1, e2), ad).2.1 (t, (e1, e2), ad).2.2 = TF from HTF.out.symm]
        rintro r x5 ⟨rfl, g, hm5⟩
        have G5 : Hid (Fr wa x5 (fun _ => False)) := (HfE.out.none G2.out).trans g (fun k hk h => by have := Hb.out; omega)
        have Hm5 : Hid _ := hm5
        clear hm5 g k0 k1 k2 k3
        cases TF with
        | none =>
          have Hres : Hid ((R1, R2) = (i, 25)) := by show _ = _; rw [← Hst.out]; exact chk_edge Hz.out.1 Hz.out.2.1 Hz.out.2.2 HTF.out.symm
          have Hfo : Hid (Fr w x5 (fun _ => False)) := Hwa.out.none G5.out
          go_wp2
          go_ret2
          simp only [Prod.mk.injEq] at Hres
          obtain ⟨rfl, rfl⟩ := Hres.out
          exact ⟨rfl, Hfo.out⟩
        | some now' =>
          have Hst5 : Hid (chkF n now' (prevAt evs (i + 1)) (i + 1) (evs.drop (i + 1)) = (R1, R2)) := by
            show _ = _
            rw [show prevAt evs (i + 1) = some (t, (e1, e2), ad) from Ha.out, ← Hst.out]
            exact (chk_step Hz.out.1 Hz.out.2.1 Hz.out.2.2 HTF.out.symm).symm
          go_wp2_with fail
          go_roundg (m - (i + 1))
          case rel => exact ⟨i + 1, now', rfl, by omega, by go_num, Hm5.out _ rfl, turn_rising HTF.out.symm, Hst5.out, G5.out⟩
          case measure => rw [Hg.out]; omega
      · have Hres : Hid ((R1, R2) = (i, W)) := by show _ = _; rw [← Hst.out, HW.out]; exact chk_wrong (by rw [← HW.out]; exact hW0)
        have Hfo : Hid (Fr w x2 (fun _ => False)) := (Hwa.out.none HfE.out).none G2.out
        have d1 : ((W : Int) != 0) = true := by rw [bne_iff_ne]; omega
        have d1' : ((W : Int) == 0) = false := by rw [beq_eq_false_iff_ne]; omega
        have d1n : (W == 0) = false := by rw [beq_eq_false_iff_ne]; exact hW0
        go_wp2
        go_ret2
        simp only [Prod.mk.injEq] at Hres
        obtain ⟨rfl, rfl⟩ := Hres.out
        exact ⟨rfl, Hfo.out⟩
    · have hin : ¬ (i : Int) < (m : Int) := by omega
      have hin' : decide (i < m) = false := decide_eq_false hlt
      have Hres : Hid ((R1, R2) = (0, 0)) := by
        show _ = _
        rw [← Hs.out, List.drop_eq_nil_of_le (by rw [← Hm.out]; omega), chkF]
      have Hfo : Hid (Fr w wr (fun _ => False)) := Hwa.out.none Hf.out
      go_wp2
      go_ret2
      simp only [Prod.mk.injEq] at Hres
      obtain ⟨rfl, rfl⟩ := Hres.out
      exact ⟨rfl, Hfo.out⟩

end Go.Proofs.YtnffjafddbbjaaaGreatDoor

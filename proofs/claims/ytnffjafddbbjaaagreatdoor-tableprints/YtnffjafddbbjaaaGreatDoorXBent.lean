/-
  Events that the call owns: a store into one, a beginning of them; the contract of the seat's Bent.
-/
import Derived.Test.YtnffjafddbbjaaaGreatDoorJ10
namespace Go.Proofs.YtnffjafddbbjaaaGreatDoor
open Go.RowKit

theorem vrow_set : ∀ (evs : List Ev) (i k : Nat) (x y : Ev) (u : Value), evs[i]? = some x → k < 4 → (encV x).set k u = encV y → (vrow evs).set (i * 4 + k) u = vrow (evs.set i y)
  | [], i, k, x, y, u, h, _, _ => by simp at h
  | z :: r, 0, k, x, y, u, h, hk, he => by
    simp only [List.getElem?_cons_zero, Option.some.injEq] at h
    subst h
    simp only [vrow, List.flatMap_cons, List.set_cons_zero, Nat.zero_mul, Nat.zero_add]
    rw [List.set_append, if_pos (by simp [encV]; omega), he]
  | z :: r, i + 1, k, x, y, u, h, hk, he => by
    simp only [List.getElem?_cons_succ] at h
    have ih := vrow_set r i k x y u h hk he
    simp only [vrow, List.flatMap_cons, List.set_cons_succ] at ih ⊢
    rw [List.set_append, if_neg (by simp [encV]; omega), ← ih]
    congr 2
    simp [encV]
    omega
theorem OwnV.put {w : World} {g c n : Nat} {evs : List Ev} (h : OwnV w (.slice (some ⟨g, 0, none⟩) n c) evs) (hn : evs.length = n) {i k : Nat} {x y : Ev} {u : Value} (hx : evs[i]? = some x) (hk : k < 4) (he : (encV x).set k u = encV y) : OwnV (w.setCell ⟨g, i * 4 + k, none⟩ u) (.slice (some ⟨g, 0, none⟩) n c) (evs.set i y) := by
  subst hn
  have := (World.ownsRow.stored h (i * 4 + k) u).1
  rw [vrow_set evs i k x y u hx hk he] at this
  unfold OwnV
  rw [List.length_set]
  exact this
theorem OwnV.cells4 {w : World} {g c n : Nat} {evs : List Ev} (h : OwnV w (.slice (some ⟨g, 0, none⟩) n c) evs) (hn : evs.length = n) {i : Nat} {x : Ev} (hx : evs[i]? = some x) : w.cell? ⟨g, i * 4, none⟩ = some (.int .i64 x.1) ∧ w.cell? ⟨g, i * 4 + 1, none⟩ = some (.int .u32 (x.2.1.1 : Int)) ∧ w.cell? ⟨g, i * 4 + 2, none⟩ = some (.int .u32 (x.2.1.2 : Int)) ∧ w.cell? ⟨g, i * 4 + 3, none⟩ = some (.bool x.2.2) := by
  subst hn
  have hi := (List.getElem?_eq_some_iff.1 hx).1
  obtain ⟨g0, g1, g2, g3⟩ := vrow_get evs i x hx
  refine ⟨?_, ?_, ?_, ?_⟩
  · rw [World.ownsRow.cellAt h _ (by omega)]; exact g0
  · rw [World.ownsRow.cellAt h _ (by omega)]; exact g1
  · rw [World.ownsRow.cellAt h _ (by omega)]; exact g2
  · rw [World.ownsRow.cellAt h _ (by omega)]; exact g3
theorem OwnV.free {w : World} {g c n : Nat} {evs : List Ev} (h : OwnV w (.slice (some ⟨g, 0, none⟩) n c) evs) (hn : evs.length = n) (j : Nat) : w.frozen? ⟨g, j, none⟩ = false := by
  subst hn
  exact World.ownsRow.frozenAt h j
theorem OwnV.put4 {w : World} {g c n : Nat} {evs : List Ev} (h : OwnV w (.slice (some ⟨g, 0, none⟩) n c) evs) (hn : evs.length = n) {i : Nat} {x : Ev} (y : Ev) (hx : evs[i]? = some x) : OwnV ((((w.setCell ⟨g, i * 4, none⟩ (.int .i64 y.1)).setCell ⟨g, i * 4 + 1, none⟩ (.int .u32 (y.2.1.1 : Int))).setCell ⟨g, i * 4 + 2, none⟩ (.int .u32 (y.2.1.2 : Int))).setCell ⟨g, i * 4 + 3, none⟩ (.bool y.2.2)) (.slice (some ⟨g, 0, none⟩) n c) (evs.set i y) := by
  have hi := (List.getElem?_eq_some_iff.1 hx).1
  have h1 := OwnV.put h hn (k := 0) (y := (y.1, x.2.1, x.2.2)) (u := .int .i64 y.1) hx (by omega) rfl
  have h2 := OwnV.put h1 (by rw [List.length_set, hn]) (i := i) (k := 1) (x := (y.1, x.2.1, x.2.2)) (y := (y.1, (y.2.1.1, x.2.1.2), x.2.2)) (u := .int .u32 (y.2.1.1 : Int)) (by simp [hi]) (by omega) rfl
  have h3 := OwnV.put h2 (by rw [List.length_set, List.length_set, hn]) (i := i) (k := 2) (x := (y.1, (y.2.1.1, x.2.1.2), x.2.2)) (y := (y.1, y.2.1, x.2.2)) (u := .int .u32 (y.2.1.2 : Int)) (by simp [hi]) (by omega) rfl
  have h4 := OwnV.put h3 (by rw [List.length_set, List.length_set, List.length_set, hn]) (i := i) (k := 3) (x := (y.1, y.2.1, x.2.2)) (y := y) (u := .bool y.2.2) (by simp [hi]) (by omega) rfl
  simpa only [List.set_set, Nat.add_zero] using h4
theorem fr_put4 (w : World) (g a b c d : Nat) (x y z u : Value) : Fr w ((((w.setCell ⟨g, a, none⟩ x).setCell ⟨g, b, none⟩ y).setCell ⟨g, c, none⟩ z).setCell ⟨g, d, none⟩ u) (fun j => j = g) :=
  (((fr_cell w _ _ _).trans (fr_cell _ _ _ _) (fun _ _ h => h)).trans (fr_cell _ _ _ _) (fun _ _ h => h)).trans (fr_cell _ _ _ _) (fun _ _ h => h)
theorem OwnV.take {w : World} {a : Option Addr} {c n : Nat} {evs : List Ev} (h : OwnV w (.slice a n c) evs) (hn : evs.length = n) (i : Nat) (hi : i ≤ n) (h0 : 0 < n) : OwnV w (.slice a i c) (evs.take i) := by
  subst hn
  obtain ⟨h1, h2⟩ := h
  refine ⟨vrow_length _, .inr ?_⟩
  rcases h2 with ⟨h', h3⟩ | ⟨g, cap, cur, h', hb, hg, hnc, hcm, hcs, htake⟩
  · omega
  · simp only [Value.slice.injEq] at h'
    obtain ⟨rfl, -, rfl⟩ := h'
    refine ⟨g, c, cur, by rw [List.length_take, Nat.min_eq_left hi], hb, hg, by rw [List.length_take]; omega, hcm, hcs, ?_⟩
    rw [List.length_take, Nat.min_eq_left hi, ← vrow_take, ← htake, List.take_take, Nat.min_eq_left (Nat.mul_le_mul_right 4 hi)]

def u64of (z : Int) : Nat := (z % 18446744073709551616).toNat
def u32of (z : Int) : Nat := (z % 4294967296).toNat
/-- A history of which one thing is another one. -/
def bentF (n : Nat) (evs : List Ev) (what at_ : Nat) (z : Int) : Nat × List Ev :=
  match evs[at_ % evs.length]?, evs[0]? with
  | some x, some x0 =>
    if what % 8 = 0 then (u64of z, evs)
    else if what % 8 = 1 then (n, evs.set (at_ % evs.length) (z, x.2.1, x.2.2))
    else if what % 8 = 2 then (n, evs.set (at_ % evs.length) (x.1, (u32of z, x.2.1.2), x.2.2))
    else if what % 8 = 3 then (n, evs.set (at_ % evs.length) (x.1, (x.2.1.1, u32of z), x.2.2))
    else if what % 8 = 4 then (n, evs.set (at_ % evs.length) (x.1, x.2.1, !x.2.2))
    else if what % 8 = 5 then (n, (evs.set (at_ % evs.length) x0).set 0 x)
    else if what % 8 = 6 then (n, evs.take (at_ % evs.length) ++ evs.drop (at_ % evs.length + 1))
    else (x.2.1.2, evs)
  | _, _ => (u64of z, [])

set_option maxRecDepth 4000 in
set_option maxHeartbeats 3200000 in
theorem seatBent_any (n : Nat) (v : Value) (evs : List Ev) (what at_ : Nat) (z : Int) (w : World) (h : RdV w v evs) (hl : evs.length ≤ 1000000) (hfit : ∀ x ∈ evs, EvFit x) (hwh : what < 256) (hat : at_ < 256) : Calls Tryz.prog 11 #[histV n v, .int .u8 (what : Int), .int .u8 (at_ : Int), .int .i64 z] w fun r w' => (∃ v', r = .returned (histV (bentF n evs what at_ z).1 v') ∧ RdV w' v' (bentF n evs what at_ z).2 ∧ (∀ k, v'.ownBlock = some k → w.heap.size ≤ k)) ∧ Fr w w' (fun _ => False) := by
  obtain ⟨a0, c0, rfl, hc0⟩ := h.form
  obtain ⟨m, hm⟩ : ∃ m, m = evs.length := ⟨_, rfl⟩
  rw [← hm] at h hl hc0 ⊢
  obtain ⟨⟨RN, RE⟩, hR⟩ : ∃ R, R = bentF n evs what at_ z := ⟨_, rfl⟩
  rw [← hR]
  dsimp only
  have HR : Hid _ := hR
  have Hr : Hid (RdV w (.slice a0 m c0) evs) := h
  have Hm : Hid _ := hm
  have Hfit : Hid _ := hfit
  clear h hm hR hfit
  unfold histV
  go_enter Tryz.func11, Tryz.ntmps11
  go_upto_region 1 with fail
  obtain ⟨p4, hp4⟩ : ∃ p, p = w.heap.size := ⟨_, rfl⟩
  obtain ⟨p8, hp8⟩ : ∃ p, p = p4 + 1 := ⟨_, rfl⟩
  obtain ⟨wa, hwa⟩ : ∃ wa, wa = (w.alloc (.cells #[.int .u64 (n : Int), .slice a0 m c0] 25)).alloc (.cells #[.int .u64 0, .slice none 0 0] 25) := ⟨_, rfl⟩
  rw [← hwa, ← hp4, ← hp8]
  have Hb1 : Hid (wa.heap[p4]? = some (.cells #[.int .u64 (n : Int), .slice a0 m c0] 25 (0, 0))) := by show _ = _; rw [hwa, hp4]; exact blk_alloc _ (heap_alloc_new _ _)
  have Hb2 : Hid (wa.heap[p8]? = some (.cells #[.int .u64 0, .slice none 0 0] 25 (0, 0))) := by
    show _ = _
    have := heap_alloc_new (w.alloc (.cells #[.int .u64 (n : Int), .slice a0 m c0] 25)) (.cells #[.int .u64 0, .slice none 0 0] 25)
    rw [hwa, hp8, hp4]
    simpa using this
  have Hwa : Hid (Fr w wa (fun _ => False)) := by show Fr _ _ _; rw [hwa]; exact ((Fr.refl _ _).alloc _).alloc _
  have Hp4 : Hid (w.heap.size ≤ p4) := by show _ ≤ _; omega
  have Hp8 : Hid (p4 < p8) := by show _ < _; omega
  have Hs8 : Hid (p8 < wa.heap.size) := lt_of_block Hb2.out
  clear hp4 hp8 hwa
  obtain ⟨ca, cb⟩ : wa.cell? ⟨p4, 0, none⟩ = some (.int .u64 (n : Int)) ∧ wa.cell? ⟨p4, 1, none⟩ = some (.slice a0 m c0) := ⟨two_cell0 Hb1.out, two_cell1 Hb1.out⟩
  obtain ⟨v9, w9, hrun9, ho9, hf9, hn9⟩ := app_events_nil wa (.slice a0 m c0) evs wa.heap.size (Nat.le_refl _) (Hr.out.keep Hwa.out) (by rw [← Hm.out]; omega)
  obtain ⟨a9, c9, rfl, hc9⟩ : ∃ a c, v9 = .slice a m c ∧ m ≤ c := by obtain ⟨a, c, e, e2⟩ := ho9.rd.form; rw [← Hm.out] at e e2; exact ⟨a, c, e, e2⟩
  have Hf9 : Hid (Fr wa w9 (fun _ => False)) := hf9.old (Nat.le_refl _)
  have Ho9 : Hid (OwnV w9 (.slice a9 m c9) evs) := ho9
  have Hn9 : Hid (∀ k, (Value.slice a9 m c9).ownBlock = some k → wa.heap.size ≤ k) := hn9
  obtain ⟨cc, cd⟩ : w9.cell? ⟨p4, 0, none⟩ = some (.int .u64 (n : Int)) ∧ w9.cell? ⟨p4, 1, none⟩ = some (.slice a0 m c0) := ⟨two_cell0 (Hf9.out.kept Hb1.out (fun h => h)), two_cell1 (Hf9.out.kept Hb1.out (fun h => h))⟩
  clear hf9 ho9 hn9
  go_upto_region 3 with (at_builtin; refine wpList_append_run rfl (.const (.slice none 0 0)) (.tmp 13) 23 rfl rfl rfl hrun9 ?_)
  clear ca cb cc cd hrun9
  obtain ⟨p10, hp10⟩ : ∃ p, p = w9.heap.size := ⟨_, rfl⟩
  obtain ⟨X, hX⟩ : ∃ x, x = w9.alloc (.cells #[.int .u64 (n : Int), .slice a9 m c9] 25) := ⟨_, rfl⟩
  rw [← hX, ← hp10]
  have H10x : Hid (X.heap[p10]? = some (.cells #[.int .u64 (n : Int), .slice a9 m c9] 25 (0, 0))) := by show _ = _; rw [hX, hp10]; exact heap_alloc_new _ _
  have H8x : Hid (X.heap[p8]? = some (.cells #[.int .u64 0, .slice none 0 0] 25 (0, 0))) := by show _ = _; rw [hX]; exact blk_alloc _ (Hf9.out.kept Hb2.out (fun h => h))
  have HOx : Hid (OwnV X (.slice a9 m c9) evs) := by show OwnV _ _ _; rw [hX]; exact Ho9.out.alloc _
  have Hnx : Hid (∀ k, (Value.slice a9 m c9).ownBlock = some k → wa.heap.size ≤ k) := Hn9.out
  have Hlx : Hid (∀ k, (Value.slice a9 m c9).ownBlock = some k → k < p10) := fun k hk => by rw [hp10]; exact Ho9.out.lt k hk
  have Hfx : Hid (Fr w X (fun _ => False)) := by show Fr _ _ _; rw [hX]; exact (Hwa.out.none Hf9.out).alloc _
  have H810 : Hid (p8 < p10) := by have h1 := Hs8.out; have h2 := Hf9.out.size; show _ < _; omega
  clear hX hp10 Ho9 Hn9 Hf9 Hb1 Hb2
  obtain ⟨uz, huz⟩ : ∃ u, u = u64of z := ⟨_, rfl⟩
  have wz : IntKind.u64.wrap z = (uz : Int) := by rw [huz]; unfold u64of; rw [IntKind.wrap_u64]; omega
  obtain ⟨vz, hvz⟩ : ∃ u, u = u32of z := ⟨_, rfl⟩
  have wz2 : IntKind.u32.wrap z = (vz : Int) := by rw [hvz]; unfold u32of; rw [IntKind.wrap_u32]; omega
  have Huz : Hid _ := huz
  have Hvz : Hid _ := hvz
  clear huz hvz
  by_cases h0 : m = 0
  · subst h0
    have he : evs = [] := List.eq_nil_of_length_eq_zero Hm.out.symm
    obtain ⟨rfl, rfl⟩ : RN = uz ∧ RE = [] := by
      have := HR.out
      rw [he] at this
      simp only [bentF, List.getElem?_nil, Prod.mk.injEq] at this
      exact ⟨by rw [this.1, Huz.out], this.2⟩
    subst he
    have fz := two_free H10x.out 0
    obtain ⟨c0', c1'⟩ : X.cell? ⟨p10, 0, none⟩ = some (.int .u64 (n : Int)) ∧ X.cell? ⟨p10, 1, none⟩ = some (.slice a9 0 c9) := ⟨two_cell0 H10x.out, two_cell1 H10x.out⟩
    go_upto_region 5 with fail
    have H10x := (two_set0 H10x.out (u := .int .u64 (RN : Int)))
    have H8x : (X.setCell ⟨p10, 0, none⟩ (.int .u64 (RN : Int))).heap[p8]? = some (.cells #[.int .u64 0, .slice none 0 0] 25 (0, 0)) := blk_set_other H8x.out (by have := H810.out; show p8 ≠ p10; omega)
    have HOx : OwnV (X.setCell ⟨p10, 0, none⟩ (.int .u64 (RN : Int))) (.slice a9 0 c9) [] := HOx.out.frame (fr_cell X _ _ _) (fun k hk h => by have h1 := Hlx.out k hk; omega)
    have Hfx : Fr w (X.setCell ⟨p10, 0, none⟩ (.int .u64 (RN : Int))) (fun _ => False) := Hfx.out.newer (fr_cell X _ _ _) (fun k h => by have h1 := Hp4.out; have h2 := Hp8.out; have h3 := H810.out; omega)
    clear c0' c1' fz
    generalize X.setCell ⟨p10, 0, none⟩ (.int .u64 (RN : Int)) = Y at H10x H8x HOx Hfx ⊢
    have H10x : Hid _ := H10x
    have H8x : Hid _ := H8x
    have HOx : Hid (OwnV Y (.slice a9 0 c9) []) := HOx
    have Hfx : Hid _ := Hfx
    obtain ⟨c0', c1'⟩ : Y.cell? ⟨p10, 0, none⟩ = some (.int .u64 (RN : Int)) ∧ Y.cell? ⟨p10, 1, none⟩ = some (.slice a9 0 c9) := ⟨two_cell0 H10x.out, two_cell1 H10x.out⟩
    obtain ⟨e0', e1'⟩ : Y.cell? ⟨p8, 0, none⟩ = some (.int .u64 0) ∧ Y.cell? ⟨p8, 1, none⟩ = some (.slice none 0 0) := ⟨two_cell0 H8x.out, two_cell1 H8x.out⟩
    have f0' : Y.frozen? ⟨p8, 0, none⟩ = false := two_free H8x.out 0
    have f1' : Y.frozen? ⟨p8, 1, none⟩ = false := two_free H8x.out 1
    have Hfin : Hid (Fr w ((Y.setCell ⟨p8, 0, none⟩ (.int .u64 (RN : Int))).setCell ⟨p8, 1, none⟩ (.slice a9 0 c9)) (fun _ => False)) := Hfx.out.newer ((fr_cell Y _ _ _).trans (fr_cell _ _ _ _) (fun _ _ h => h)) (fun i hi => by have h2 := Hp4.out; have h3 := Hp8.out; omega)
    have Hof : Hid (OwnV ((Y.setCell ⟨p8, 0, none⟩ (.int .u64 (RN : Int))).setCell ⟨p8, 1, none⟩ (.slice a9 0 c9)) (.slice a9 0 c9) []) := HOx.out.frame ((fr_cell Y _ _ _).trans (fr_cell _ _ _ _) (fun _ _ h => h)) (fun i hi h => by have h2 := Hnx.out i hi; have h3 := Hs8.out; omega)
    have Hrow : Hid _ := two_set1 (two_set0 H8x.out (u := .int .u64 (RN : Int))) (u := .slice a9 0 c9)
    have Hfresh : Hid (∀ k, Value.ownBlock (.slice a9 0 c9) = some k → w.heap.size ≤ k) := fun k hk => by have h2 := Hnx.out k hk; have h3 := Hwa.out.size; omega
    go_wp2
    refine bodyPost_ret (results_cell1 rfl rfl (run_loadVar_row _ _ 25 _ _ (0, 0) _ Hrow.out Tryz.underlying25 rfl histSize)) rfl ?_
    exact ⟨⟨_, rfl, Hof.out.rd, Hfresh.out⟩, Hfin.out⟩
  · have d1 : ((m : Int) == 0) = false := by rw [beq_eq_false_iff_ne]; omega
    have d1' : (m == 0) = false := by rw [beq_eq_false_iff_ne]; exact h0
    obtain ⟨g9, rfl⟩ : ∃ g, a9 = some ⟨g, 0, none⟩ := by
      rcases HOx.out.2 with ⟨e, h⟩ | ⟨g, cap, cur, e, -⟩
      · simp only [Value.slice.injEq] at e; omega
      · simp only [Value.slice.injEq] at e; exact ⟨g, e.1⟩
    obtain ⟨i, hi⟩ : ∃ i, i = at_ % m := ⟨_, rfl⟩
    have him : i < m := by rw [hi]; exact Nat.mod_lt _ (by omega)
    obtain ⟨⟨s, ⟨f1, f2⟩, ax⟩, hx⟩ : ∃ a, evs[i]? = some a := ⟨_, List.getElem?_eq_getElem (by rw [← Hm.out]; omega)⟩
    obtain ⟨⟨s0, ⟨g1, g2⟩, a0x⟩, hx0⟩ : ∃ a, evs[0]? = some a := ⟨_, List.getElem?_eq_getElem (by rw [← Hm.out]; omega)⟩
    have Hx : Hid _ := hx
    have Hx0 : Hid _ := hx0
    have HR2 : Hid ((RN, RE) = if what % 8 = 0 then (uz, evs)
      else if what % 8 = 1 then (n, evs.set i (z, (f1, f2), ax))
      else if what % 8 = 2 then (n, evs.set i (s, (vz, f2), ax))
      else if what % 8 = 3 then (n, evs.set i (s, (f1, vz), ax))
      else if what % 8 = 4 then (n, evs.set i (s, (f1, f2), !ax))
      else if what % 8 = 5 then (n, (evs.set i (s0, (g1, g2), a0x)).set 0 (s, (f1, f2), ax))
      else if what % 8 = 6 then (n, evs.take i ++ evs.drop (i + 1))
      else (f2, evs)) := by
      show _ = _
      rw [HR.out]
      unfold bentF
      rw [← Hm.out, ← hi, hx, hx0, Huz.out, Hvz.out]
    have wat : IntKind.i64.wrap (at_ : Int) = (at_ : Int) := IntWalk.i64_in _ (by omega)
    have wm1 : (at_ : Int).tmod (m : Int) = (i : Int) := by rw [Int.tmod_eq_emod_of_nonneg (by omega), hi]; simp
    have wm2 : (at_ : Int) % (m : Int) = (i : Int) := by rw [hi]; simp
    have hz0 : ¬ m = 0 := h0
    have him' : (i : Int) < (m : Int) := by omega
    have hi0 : (0 : Int) ≤ (i : Int) := by omega
    have h0m : (0 : Int) < (m : Int) := by omega
    have h0m' : 0 < m := by omega
    have Hm' : Hid (evs.length = m) := Hm.out.symm
    have Him : Hid (i < m) := him
    have Hg10 : Hid (g9 < p10) := Hlx.out g9 rfl
    have Hg8 : Hid (p8 < g9) := by have h1 := Hnx.out g9 rfl; have h2 := Hs8.out; exact (by omega : p8 < g9)
    clear hi hx hx0 HR h0
    obtain ⟨k0, k1, k2, k3⟩ := OwnV.cells4 HOx.out Hm'.out Hx.out
    obtain ⟨l0, l1, l2, l3⟩ := OwnV.cells4 HOx.out Hm'.out Hx0.out
    dsimp only at k0 k1 k2 k3 l0 l1 l2 l3
    simp only [Nat.zero_mul, Nat.zero_add] at l0 l1 l2 l3
    obtain ⟨q0, q1⟩ : X.cell? ⟨p10, 0, none⟩ = some (.int .u64 (n : Int)) ∧ X.cell? ⟨p10, 1, none⟩ = some (.slice (some ⟨g9, 0, none⟩) m c9) := ⟨two_cell0 H10x.out, two_cell1 H10x.out⟩
    have fzN := two_free H10x.out 0
    have fzE := two_free H10x.out 1
    have fz0 := OwnV.free HOx.out Hm'.out (i * 4)
    have fz1 := OwnV.free HOx.out Hm'.out (i * 4 + 1)
    have fz2 := OwnV.free HOx.out Hm'.out (i * 4 + 2)
    have fz3 := OwnV.free HOx.out Hm'.out (i * 4 + 3)
    have h8 : what % 8 = 0 ∨ what % 8 = 1 ∨ what % 8 = 2 ∨ what % 8 = 3 ∨ what % 8 = 4 ∨ what % 8 = 5 ∨ what % 8 = 6 ∨ what % 8 = 7 := by omega
    rcases h8 with h | h | h | h | h | h | h | h
    · have mw1 : (what : Int).tmod 8 = 0 := by rw [Int.tmod_eq_emod_of_nonneg (by omega)]; omega
      have mw2 : (what : Int) % 8 = 0 := by omega
      have hRR : RN = uz ∧ RE = evs := by
        have := HR2.out
        rw [h] at this
        simpa using this
      clear h
      obtain ⟨rfl, rfl⟩ := hRR
      go_upto_region 23 with fail
      clear k0 k1 k2 k3 l0 l1 l2 l3 q0 q1 fzN fzE fz0 fz1 fz2 fz3
      have H10x := (two_set0 H10x.out (u := .int .u64 (RN : Int)))
      have H8x : (X.setCell ⟨p10, 0, none⟩ (.int .u64 (RN : Int))).heap[p8]? = some (.cells #[.int .u64 0, .slice none 0 0] 25 (0, 0)) := blk_set_other H8x.out (by have := H810.out; show p8 ≠ p10; omega)
      have HOx : OwnV (X.setCell ⟨p10, 0, none⟩ (.int .u64 (RN : Int))) (.slice (some ⟨g9, 0, none⟩) m c9) RE := HOx.out.frame (fr_cell X _ _ _) (fun k hk h => by have h1 := Hlx.out k hk; omega)
      have Hfx : Fr w (X.setCell ⟨p10, 0, none⟩ (.int .u64 (RN : Int))) (fun _ => False) := Hfx.out.newer (fr_cell X _ _ _) (fun k h => by have h1 := Hp4.out; have h2 := Hp8.out; have h3 := H810.out; omega)
      generalize X.setCell ⟨p10, 0, none⟩ (.int .u64 (RN : Int)) = Y at H10x H8x HOx Hfx ⊢
      have H10x : Hid _ := H10x
      have H8x : Hid _ := H8x
      have Hfx : Hid _ := Hfx
      have HOx : Hid (OwnV Y (.slice (some ⟨g9, 0, none⟩) m c9) RE) := HOx
      obtain ⟨c0', c1'⟩ : Y.cell? ⟨p10, 0, none⟩ = some (.int .u64 (RN : Int)) ∧ Y.cell? ⟨p10, 1, none⟩ = some (.slice (some ⟨g9, 0, none⟩) m c9) := ⟨two_cell0 H10x.out, two_cell1 H10x.out⟩
      obtain ⟨e0', e1'⟩ : Y.cell? ⟨p8, 0, none⟩ = some (.int .u64 0) ∧ Y.cell? ⟨p8, 1, none⟩ = some (.slice none 0 0) := ⟨two_cell0 H8x.out, two_cell1 H8x.out⟩
      have f0' : Y.frozen? ⟨p8, 0, none⟩ = false := two_free H8x.out 0
      have f1' : Y.frozen? ⟨p8, 1, none⟩ = false := two_free H8x.out 1
      have Hfin : Hid (Fr w ((Y.setCell ⟨p8, 0, none⟩ (.int .u64 (RN : Int))).setCell ⟨p8, 1, none⟩ (.slice (some ⟨g9, 0, none⟩) m c9)) (fun _ => False)) := Hfx.out.newer ((fr_cell Y _ _ _).trans (fr_cell _ _ _ _) (fun _ _ h => h)) (fun i hi => by have h2 := Hp4.out; have h3 := Hp8.out; omega)
      have Hof : Hid (OwnV ((Y.setCell ⟨p8, 0, none⟩ (.int .u64 (RN : Int))).setCell ⟨p8, 1, none⟩ (.slice (some ⟨g9, 0, none⟩) m c9)) (.slice (some ⟨g9, 0, none⟩) m c9) RE) := HOx.out.frame ((fr_cell Y _ _ _).trans (fr_cell _ _ _ _) (fun _ _ h => h)) (fun i hi h => by have h2 := Hnx.out i hi; have h3 := Hs8.out; omega)
      have Hrow : Hid _ := two_set1 (two_set0 H8x.out (u := .int .u64 (RN : Int))) (u := .slice (some ⟨g9, 0, none⟩) m c9)
      have Hfresh : Hid (∀ k, Value.ownBlock (.slice (some ⟨g9, 0, none⟩) m c9) = some k → w.heap.size ≤ k) := fun k hk => by have h2 := Hnx.out k hk; have h3 := Hwa.out.size; omega
      go_wp2
      refine bodyPost_ret (results_cell1 rfl rfl (run_loadVar_row _ _ 25 _ _ (0, 0) _ Hrow.out Tryz.underlying25 rfl histSize)) rfl ?_
      exact ⟨⟨_, rfl, Hof.out.rd, Hfresh.out⟩, Hfin.out⟩
    · have mw1 : (what : Int).tmod 8 = 1 := by rw [Int.tmod_eq_emod_of_nonneg (by omega)]; omega
      have mw2 : (what : Int) % 8 = 1 := by omega
      have hRR : RN = n ∧ RE = evs.set i (z, (f1, f2), ax) := by
        have := HR2.out
        rw [h] at this
        simpa using this
      clear h
      obtain ⟨rfl, hRE⟩ := hRR
      have HRE : Hid _ := hRE
      clear hRE
      go_upto_region 23 with fail
      clear k0 k1 k2 k3 l0 l1 l2 l3 q0 q1 fzN fzE fz0 fz1 fz2 fz3
      have H10x : (X.setCell ⟨g9, i * 4, none⟩ (.int .i64 z)).heap[p10]? = some (.cells #[.int .u64 (RN : Int), .slice (some ⟨g9, 0, none⟩) m c9] 25 (0, 0)) := blk_set_other H10x.out (by have := Hg10.out; show p10 ≠ g9; omega)
      have H8x : (X.setCell ⟨g9, i * 4, none⟩ (.int .i64 z)).heap[p8]? = some (.cells #[.int .u64 0, .slice none 0 0] 25 (0, 0)) := blk_set_other H8x.out (by have := Hg8.out; show p8 ≠ g9; omega)
      have HOx : OwnV (X.setCell ⟨g9, i * 4, none⟩ (.int .i64 z)) (.slice (some ⟨g9, 0, none⟩) m c9) RE := by
        rw [HRE.out]
        exact OwnV.put HOx.out Hm'.out (k := 0) Hx.out (by omega) rfl
      have Hfx : Fr w (X.setCell ⟨g9, i * 4, none⟩ (.int .i64 z)) (fun _ => False) := Hfx.out.newer (fr_cell X _ _ _) (fun k h => by have h1 := Hp4.out; have h2 := Hp8.out; have h3 := Hg8.out; omega)
      generalize X.setCell ⟨g9, i * 4, none⟩ (.int .i64 z) = Y at H10x H8x HOx Hfx ⊢
      have H10x : Hid _ := H10x
      have H8x : Hid _ := H8x
      have Hfx : Hid _ := Hfx
      have HOx : Hid (OwnV Y (.slice (some ⟨g9, 0, none⟩) m c9) RE) := HOx
      obtain ⟨c0', c1'⟩ : Y.cell? ⟨p10, 0, none⟩ = some (.int .u64 (RN : Int)) ∧ Y.cell? ⟨p10, 1, none⟩ = some (.slice (some ⟨g9, 0, none⟩) m c9) := ⟨two_cell0 H10x.out, two_cell1 H10x.out⟩
      obtain ⟨e0', e1'⟩ : Y.cell? ⟨p8, 0, none⟩ = some (.int .u64 0) ∧ Y.cell? ⟨p8, 1, none⟩ = some (.slice none 0 0) := ⟨two_cell0 H8x.out, two_cell1 H8x.out⟩
      have f0' : Y.frozen? ⟨p8, 0, none⟩ = false := two_free H8x.out 0
      have f1' : Y.frozen? ⟨p8, 1, none⟩ = false := two_free H8x.out 1
      have Hfin : Hid (Fr w ((Y.setCell ⟨p8, 0, none⟩ (.int .u64 (RN : Int))).setCell ⟨p8, 1, none⟩ (.slice (some ⟨g9, 0, none⟩) m c9)) (fun _ => False)) := Hfx.out.newer ((fr_cell Y _ _ _).trans (fr_cell _ _ _ _) (fun _ _ h => h)) (fun i hi => by have h2 := Hp4.out; have h3 := Hp8.out; omega)
      have Hof : Hid (OwnV ((Y.setCell ⟨p8, 0, none⟩ (.int .u64 (RN : Int))).setCell ⟨p8, 1, none⟩ (.slice (some ⟨g9, 0, none⟩) m c9)) (.slice (some ⟨g9, 0, none⟩) m c9) RE) := HOx.out.frame ((fr_cell Y _ _ _).trans (fr_cell _ _ _ _) (fun _ _ h => h)) (fun i hi h => by have h2 := Hnx.out i hi; have h3 := Hs8.out; omega)
      have Hrow : Hid _ := two_set1 (two_set0 H8x.out (u := .int .u64 (RN : Int))) (u := .slice (some ⟨g9, 0, none⟩) m c9)
      have Hfresh : Hid (∀ k, Value.ownBlock (.slice (some ⟨g9, 0, none⟩) m c9) = some k → w.heap.size ≤ k) := fun k hk => by have h2 := Hnx.out k hk; have h3 := Hwa.out.size; omega
      go_wp2
      refine bodyPost_ret (results_cell1 rfl rfl (run_loadVar_row _ _ 25 _ _ (0, 0) _ Hrow.out Tryz.underlying25 rfl histSize)) rfl ?_
      exact ⟨⟨_, rfl, Hof.out.rd, Hfresh.out⟩, Hfin.out⟩
    · have mw1 : (what : Int).tmod 8 = 2 := by rw [Int.tmod_eq_emod_of_nonneg (by omega)]; omega
      have mw2 : (what : Int) % 8 = 2 := by omega
      have hRR : RN = n ∧ RE = evs.set i (s, (vz, f2), ax) := by
        have := HR2.out
        rw [h] at this
        simpa using this
      clear h
      obtain ⟨rfl, hRE⟩ := hRR
      have HRE : Hid _ := hRE
      clear hRE
      go_upto_region 23 with fail
      clear k0 k1 k2 k3 l0 l1 l2 l3 q0 q1 fzN fzE fz0 fz1 fz2 fz3
      have H10x : (X.setCell ⟨g9, i * 4 + 1, none⟩ (.int .u32 (vz : Int))).heap[p10]? = some (.cells #[.int .u64 (RN : Int), .slice (some ⟨g9, 0, none⟩) m c9] 25 (0, 0)) := blk_set_other H10x.out (by have := Hg10.out; show p10 ≠ g9; omega)
      have H8x : (X.setCell ⟨g9, i * 4 + 1, none⟩ (.int .u32 (vz : Int))).heap[p8]? = some (.cells #[.int .u64 0, .slice none 0 0] 25 (0, 0)) := blk_set_other H8x.out (by have := Hg8.out; show p8 ≠ g9; omega)
      have HOx : OwnV (X.setCell ⟨g9, i * 4 + 1, none⟩ (.int .u32 (vz : Int))) (.slice (some ⟨g9, 0, none⟩) m c9) RE := by
        rw [HRE.out]
        exact OwnV.put HOx.out Hm'.out (k := 1) Hx.out (by omega) rfl
      have Hfx : Fr w (X.setCell ⟨g9, i * 4 + 1, none⟩ (.int .u32 (vz : Int))) (fun _ => False) := Hfx.out.newer (fr_cell X _ _ _) (fun k h => by have h1 := Hp4.out; have h2 := Hp8.out; have h3 := Hg8.out; omega)
      generalize X.setCell ⟨g9, i * 4 + 1, none⟩ (.int .u32 (vz : Int)) = Y at H10x H8x HOx Hfx ⊢
      have H10x : Hid _ := H10x
      have H8x : Hid _ := H8x
      have Hfx : Hid _ := Hfx
      have HOx : Hid (OwnV Y (.slice (some ⟨g9, 0, none⟩) m c9) RE) := HOx
      obtain ⟨c0', c1'⟩ : Y.cell? ⟨p10, 0, none⟩ = some (.int .u64 (RN : Int)) ∧ Y.cell? ⟨p10, 1, none⟩ = some (.slice (some ⟨g9, 0, none⟩) m c9) := ⟨two_cell0 H10x.out, two_cell1 H10x.out⟩
      obtain ⟨e0', e1'⟩ : Y.cell? ⟨p8, 0, none⟩ = some (.int .u64 0) ∧ Y.cell? ⟨p8, 1, none⟩ = some (.slice none 0 0) := ⟨two_cell0 H8x.out, two_cell1 H8x.out⟩
      have f0' : Y.frozen? ⟨p8, 0, none⟩ = false := two_free H8x.out 0
      have f1' : Y.frozen? ⟨p8, 1, none⟩ = false := two_free H8x.out 1
      have Hfin : Hid (Fr w ((Y.setCell ⟨p8, 0, none⟩ (.int .u64 (RN : Int))).setCell ⟨p8, 1, none⟩ (.slice (some ⟨g9, 0, none⟩) m c9)) (fun _ => False)) := Hfx.out.newer ((fr_cell Y _ _ _).trans (fr_cell _ _ _ _) (fun _ _ h => h)) (fun i hi => by have h2 := Hp4.out; have h3 := Hp8.out; omega)
      have Hof : Hid (OwnV ((Y.setCell ⟨p8, 0, none⟩ (.int .u64 (RN : Int))).setCell ⟨p8, 1, none⟩ (.slice (some ⟨g9, 0, none⟩) m c9)) (.slice (some ⟨g9, 0, none⟩) m c9) RE) := HOx.out.frame ((fr_cell Y _ _ _).trans (fr_cell _ _ _ _) (fun _ _ h => h)) (fun i hi h => by have h2 := Hnx.out i hi; have h3 := Hs8.out; omega)
      have Hrow : Hid _ := two_set1 (two_set0 H8x.out (u := .int .u64 (RN : Int))) (u := .slice (some ⟨g9, 0, none⟩) m c9)
      have Hfresh : Hid (∀ k, Value.ownBlock (.slice (some ⟨g9, 0, none⟩) m c9) = some k → w.heap.size ≤ k) := fun k hk => by have h2 := Hnx.out k hk; have h3 := Hwa.out.size; omega
      go_wp2
      refine bodyPost_ret (results_cell1 rfl rfl (run_loadVar_row _ _ 25 _ _ (0, 0) _ Hrow.out Tryz.underlying25 rfl histSize)) rfl ?_
      exact ⟨⟨_, rfl, Hof.out.rd, Hfresh.out⟩, Hfin.out⟩
    · have mw1 : (what : Int).tmod 8 = 3 := by rw [Int.tmod_eq_emod_of_nonneg (by omega)]; omega
      have mw2 : (what : Int) % 8 = 3 := by omega
      have hRR : RN = n ∧ RE = evs.set i (s, (f1, vz), ax) := by
        have := HR2.out
        rw [h] at this
        simpa using this
      clear h
      obtain ⟨rfl, hRE⟩ := hRR
      have HRE : Hid _ := hRE
      clear hRE
      go_upto_region 23 with fail
      clear k0 k1 k2 k3 l0 l1 l2 l3 q0 q1 fzN fzE fz0 fz1 fz2 fz3
      have H10x : (X.setCell ⟨g9, i * 4 + 2, none⟩ (.int .u32 (vz : Int))).heap[p10]? = some (.cells #[.int .u64 (RN : Int), .slice (some ⟨g9, 0, none⟩) m c9] 25 (0, 0)) := blk_set_other H10x.out (by have := Hg10.out; show p10 ≠ g9; omega)
      have H8x : (X.setCell ⟨g9, i * 4 + 2, none⟩ (.int .u32 (vz : Int))).heap[p8]? = some (.cells #[.int .u64 0, .slice none 0 0] 25 (0, 0)) := blk_set_other H8x.out (by have := Hg8.out; show p8 ≠ g9; omega)
      have HOx : OwnV (X.setCell ⟨g9, i * 4 + 2, none⟩ (.int .u32 (vz : Int))) (.slice (some ⟨g9, 0, none⟩) m c9) RE := by
        rw [HRE.out]
        exact OwnV.put HOx.out Hm'.out (k := 2) Hx.out (by omega) rfl
      have Hfx : Fr w (X.setCell ⟨g9, i * 4 + 2, none⟩ (.int .u32 (vz : Int))) (fun _ => False) := Hfx.out.newer (fr_cell X _ _ _) (fun k h => by have h1 := Hp4.out; have h2 := Hp8.out; have h3 := Hg8.out; omega)
      generalize X.setCell ⟨g9, i * 4 + 2, none⟩ (.int .u32 (vz : Int)) = Y at H10x H8x HOx Hfx ⊢
      have H10x : Hid _ := H10x
      have H8x : Hid _ := H8x
      have Hfx : Hid _ := Hfx
      have HOx : Hid (OwnV Y (.slice (some ⟨g9, 0, none⟩) m c9) RE) := HOx
      obtain ⟨c0', c1'⟩ : Y.cell? ⟨p10, 0, none⟩ = some (.int .u64 (RN : Int)) ∧ Y.cell? ⟨p10, 1, none⟩ = some (.slice (some ⟨g9, 0, none⟩) m c9) := ⟨two_cell0 H10x.out, two_cell1 H10x.out⟩
      obtain ⟨e0', e1'⟩ : Y.cell? ⟨p8, 0, none⟩ = some (.int .u64 0) ∧ Y.cell? ⟨p8, 1, none⟩ = some (.slice none 0 0) := ⟨two_cell0 H8x.out, two_cell1 H8x.out⟩
      have f0' : Y.frozen? ⟨p8, 0, none⟩ = false := two_free H8x.out 0
      have f1' : Y.frozen? ⟨p8, 1, none⟩ = false := two_free H8x.out 1
      have Hfin : Hid (Fr w ((Y.setCell ⟨p8, 0, none⟩ (.int .u64 (RN : Int))).setCell ⟨p8, 1, none⟩ (.slice (some ⟨g9, 0, none⟩) m c9)) (fun _ => False)) := Hfx.out.newer ((fr_cell Y _ _ _).trans (fr_cell _ _ _ _) (fun _ _ h => h)) (fun i hi => by have h2 := Hp4.out; have h3 := Hp8.out; omega)
      have Hof : Hid (OwnV ((Y.setCell ⟨p8, 0, none⟩ (.int .u64 (RN : Int))).setCell ⟨p8, 1, none⟩ (.slice (some ⟨g9, 0, none⟩) m c9)) (.slice (some ⟨g9, 0, none⟩) m c9) RE) := HOx.out.frame ((fr_cell Y _ _ _).trans (fr_cell _ _ _ _) (fun _ _ h => h)) (fun i hi h => by have h2 := Hnx.out i hi; have h3 := Hs8.out; omega)
      have Hrow : Hid _ := two_set1 (two_set0 H8x.out (u := .int .u64 (RN : Int))) (u := .slice (some ⟨g9, 0, none⟩) m c9)
      have Hfresh : Hid (∀ k, Value.ownBlock (.slice (some ⟨g9, 0, none⟩) m c9) = some k → w.heap.size ≤ k) := fun k hk => by have h2 := Hnx.out k hk; have h3 := Hwa.out.size; omega
      go_wp2
      refine bodyPost_ret (results_cell1 rfl rfl (run_loadVar_row _ _ 25 _ _ (0, 0) _ Hrow.out Tryz.underlying25 rfl histSize)) rfl ?_
      exact ⟨⟨_, rfl, Hof.out.rd, Hfresh.out⟩, Hfin.out⟩
    · have mw1 : (what : Int).tmod 8 = 4 := by rw [Int.tmod_eq_emod_of_nonneg (by omega)]; omega
      have mw2 : (what : Int) % 8 = 4 := by omega
      have hRR : RN = n ∧ RE = evs.set i (s, (f1, f2), !ax) := by
        have := HR2.out
        rw [h] at this
        simpa using this
      clear h
      obtain ⟨rfl, hRE⟩ := hRR
      have HRE : Hid _ := hRE
      clear hRE
      go_upto_region 23 with fail
      clear k0 k1 k2 k3 l0 l1 l2 l3 q0 q1 fzN fzE fz0 fz1 fz2 fz3
      have H10x : (X.setCell ⟨g9, i * 4 + 3, none⟩ (.bool (!ax))).heap[p10]? = some (.cells #[.int .u64 (RN : Int), .slice (some ⟨g9, 0, none⟩) m c9] 25 (0, 0)) := blk_set_other H10x.out (by have := Hg10.out; show p10 ≠ g9; omega)
      have H8x : (X.setCell ⟨g9, i * 4 + 3, none⟩ (.bool (!ax))).heap[p8]? = some (.cells #[.int .u64 0, .slice none 0 0] 25 (0, 0)) := blk_set_other H8x.out (by have := Hg8.out; show p8 ≠ g9; omega)
      have HOx : OwnV (X.setCell ⟨g9, i * 4 + 3, none⟩ (.bool (!ax))) (.slice (some ⟨g9, 0, none⟩) m c9) RE := by
        rw [HRE.out]
        exact OwnV.put HOx.out Hm'.out (k := 3) Hx.out (by omega) rfl
      have Hfx : Fr w (X.setCell ⟨g9, i * 4 + 3, none⟩ (.bool (!ax))) (fun _ => False) := Hfx.out.newer (fr_cell X _ _ _) (fun k h => by have h1 := Hp4.out; have h2 := Hp8.out; have h3 := Hg8.out; omega)
      generalize X.setCell ⟨g9, i * 4 + 3, none⟩ (.bool (!ax)) = Y at H10x H8x HOx Hfx ⊢
      have H10x : Hid _ := H10x
      have H8x : Hid _ := H8x
      have Hfx : Hid _ := Hfx
      have HOx : Hid (OwnV Y (.slice (some ⟨g9, 0, none⟩) m c9) RE) := HOx
      obtain ⟨c0', c1'⟩ : Y.cell? ⟨p10, 0, none⟩ = some (.int .u64 (RN : Int)) ∧ Y.cell? ⟨p10, 1, none⟩ = some (.slice (some ⟨g9, 0, none⟩) m c9) := ⟨two_cell0 H10x.out, two_cell1 H10x.out⟩
      obtain ⟨e0', e1'⟩ : Y.cell? ⟨p8, 0, none⟩ = some (.int .u64 0) ∧ Y.cell? ⟨p8, 1, none⟩ = some (.slice none 0 0) := ⟨two_cell0 H8x.out, two_cell1 H8x.out⟩
      have f0' : Y.frozen? ⟨p8, 0, none⟩ = false := two_free H8x.out 0
      have f1' : Y.frozen? ⟨p8, 1, none⟩ = false := two_free H8x.out 1
      have Hfin : Hid (Fr w ((Y.setCell ⟨p8, 0, none⟩ (.int .u64 (RN : Int))).setCell ⟨p8, 1, none⟩ (.slice (some ⟨g9, 0, none⟩) m c9)) (fun _ => False)) := Hfx.out.newer ((fr_cell Y _ _ _).trans (fr_cell _ _ _ _) (fun _ _ h => h)) (fun i hi => by have h2 := Hp4.out; have h3 := Hp8.out; omega)
      have Hof : Hid (OwnV ((Y.setCell ⟨p8, 0, none⟩ (.int .u64 (RN : Int))).setCell ⟨p8, 1, none⟩ (.slice (some ⟨g9, 0, none⟩) m c9)) (.slice (some ⟨g9, 0, none⟩) m c9) RE) := HOx.out.frame ((fr_cell Y _ _ _).trans (fr_cell _ _ _ _) (fun _ _ h => h)) (fun i hi h => by have h2 := Hnx.out i hi; have h3 := Hs8.out; omega)
      have Hrow : Hid _ := two_set1 (two_set0 H8x.out (u := .int .u64 (RN : Int))) (u := .slice (some ⟨g9, 0, none⟩) m c9)
      have Hfresh : Hid (∀ k, Value.ownBlock (.slice (some ⟨g9, 0, none⟩) m c9) = some k → w.heap.size ≤ k) := fun k hk => by have h2 := Hnx.out k hk; have h3 := Hwa.out.size; omega
      go_wp2
      refine bodyPost_ret (results_cell1 rfl rfl (run_loadVar_row _ _ 25 _ _ (0, 0) _ Hrow.out Tryz.underlying25 rfl histSize)) rfl ?_
      exact ⟨⟨_, rfl, Hof.out.rd, Hfresh.out⟩, Hfin.out⟩
    · have mw1 : (what : Int).tmod 8 = 5 := by rw [Int.tmod_eq_emod_of_nonneg (by omega)]; omega
      have mw2 : (what : Int) % 8 = 5 := by omega
      have hRR : RN = n ∧ RE = (evs.set i (s0, (g1, g2), a0x)).set 0 (s, (f1, f2), ax) := by
        have := HR2.out
        rw [h] at this
        simpa using this
      clear h
      obtain ⟨rfl, hRE⟩ := hRR
      have HRE : Hid _ := hRE
      clear hRE
      go_wp2_with fail
      refine wp_region_tree (fun k => w.heap.size ≤ k) (.take 0 (.take 1 (.take 2 (.take 3 (.take 4 (.take 6 (.take 7 (.take 8 (.two 5 (.one 9 (.take 10 (.one 11 (.take 12 (.one 13 .nil))))) 9 (.one 5 (.take 10 (.one 11 (.take 12 (.one 13 .nil)))))))))))))) (by kernel_rfl) (by kernel_rfl) (by decide) (by kernel_rfl) ?_
      repeat (refine wpT_take (v := ?_) rfl rfl (fun x hx => ?_) ?_; rotate_left; (focus (go_simp; with_reducible rfl)); simp only [Act.put, List.setIfInBounds_toArray, List.set_cons_zero, List.set_cons_succ])
      refine wpT_two rfl rfl rfl rfl (fun K hK => ?_) (fun K hK => ?_)
      · go_simp
        refine hK _ _ (Fr.refl _ _) ?_
        clear hK K
        refine wpT_one rfl rfl (fun K hK => ?_)
        go_simp
        refine hK _ _ (Fr.refl _ _) ?_
        clear hK K
        repeat (refine wpT_take (v := ?_) rfl rfl (fun x hx => ?_) ?_; rotate_left; (focus (go_simp; with_reducible rfl)); simp only [Act.put, List.setIfInBounds_toArray, List.set_cons_zero, List.set_cons_succ])
        refine wpT_one rfl rfl (fun K hK => ?_)
        go_simp
        refine hK _ _ ((fr_put4 X.drew _ _ _ _ _ _ _ _ _).mono (fun j _ h => by have h1 := Hg8.out; have h2 := Hp8.out; have h3 := Hp4.out; omega)) ?_
        clear hK K
        clear k0 k1 k2 k3 l0 l1 l2 l3 q0 q1 fzN fzE fz0 fz1 fz2 fz3
        have HOy : OwnV (((((X.setCell ⟨g9, i * 4, none⟩ (.int .i64 s0)).setCell ⟨g9, i * 4 + 1, none⟩ (.int .u32 (g1 : Int))).setCell ⟨g9, i * 4 + 2, none⟩ (.int .u32 (g2 : Int))).setCell ⟨g9, i * 4 + 3, none⟩ (.bool a0x)).drew) (.slice (some ⟨g9, 0, none⟩) m c9) (evs.set i (s0, (g1, g2), a0x)) := OwnV.put4 HOx.out Hm'.out (s0, (g1, g2), a0x) Hx.out
        have HfXY : Fr X (((((X.setCell ⟨g9, i * 4, none⟩ (.int .i64 s0)).setCell ⟨g9, i * 4 + 1, none⟩ (.int .u32 (g1 : Int))).setCell ⟨g9, i * 4 + 2, none⟩ (.int .u32 (g2 : Int))).setCell ⟨g9, i * 4 + 3, none⟩ (.bool a0x)).drew) (fun k => k = g9) := (fr_put4 X _ _ _ _ _ _ _ _ _).drew
        generalize ((((X.setCell ⟨g9, i * 4, none⟩ (.int .i64 s0)).setCell ⟨g9, i * 4 + 1, none⟩ (.int .u32 (g1 : Int))).setCell ⟨g9, i * 4 + 2, none⟩ (.int .u32 (g2 : Int))).setCell ⟨g9, i * 4 + 3, none⟩ (.bool a0x)).drew = Y at HOy HfXY ⊢
        have Hly : Hid ((evs.set i (s0, (g1, g2), a0x)).length = m) := by show _ = _; rw [List.length_set]; exact Hm'.out
        have Hy0 : Hid ((evs.set i (s0, (g1, g2), a0x))[0]? = some (s0, (g1, g2), a0x)) := by
          show _ = _
          rw [List.getElem?_set]
          split
          · rename_i h
            rw [if_pos (by rw [Hm'.out]; have := Him.out; omega)]
          · exact Hx0.out
        obtain ⟨l0, l1, l2, l3⟩ := OwnV.cells4 HOy Hly.out Hy0.out
        dsimp only at l0 l1 l2 l3
        simp only [Nat.zero_mul, Nat.zero_add] at l0 l1 l2 l3
        have fz0 := OwnV.free HOy Hly.out 0
        have fz1 := OwnV.free HOy Hly.out 1
        have fz2 := OwnV.free HOy Hly.out 2
        have fz3 := OwnV.free HOy Hly.out 3
        have HOy2 : Hid (OwnV Y (.slice (some ⟨g9, 0, none⟩) m c9) (evs.set i (s0, (g1, g2), a0x))) := HOy
        have HfXY2 : Hid _ := HfXY
        clear HOy HfXY
        repeat (refine wpT_take (v := ?_) rfl rfl (fun x hx => ?_) ?_; rotate_left; (focus (go_simp; with_reducible rfl)); simp only [Act.put, List.setIfInBounds_toArray, List.set_cons_zero, List.set_cons_succ])
        refine wpT_one rfl rfl (fun K hK => ?_)
        go_simp
        refine hK _ _ ((fr_put4 Y _ _ _ _ _ _ _ _ _).mono (fun j _ h => by have h1 := Hg8.out; have h2 := Hp8.out; have h3 := Hp4.out; omega)) ?_
        clear hK K
        clear l0 l1 l2 l3 fz0 fz1 fz2 fz3
        have HOx : OwnV ((((Y.setCell ⟨g9, 0, none⟩ (.int .i64 s)).setCell ⟨g9, 1, none⟩ (.int .u32 (f1 : Int))).setCell ⟨g9, 2, none⟩ (.int .u32 (f2 : Int))).setCell ⟨g9, 3, none⟩ (.bool ax)) (.slice (some ⟨g9, 0, none⟩) m c9) RE := by
          rw [HRE.out]
          have := OwnV.put4 HOy2.out Hly.out (s, (f1, f2), ax) Hy0.out
          simpa only [Nat.zero_mul, Nat.zero_add] using this
        have HfXZ : Fr X ((((Y.setCell ⟨g9, 0, none⟩ (.int .i64 s)).setCell ⟨g9, 1, none⟩ (.int .u32 (f1 : Int))).setCell ⟨g9, 2, none⟩ (.int .u32 (f2 : Int))).setCell ⟨g9, 3, none⟩ (.bool ax)) (fun k => k = g9) := HfXY2.out.trans (fr_put4 Y _ _ _ _ _ _ _ _ _) (fun _ _ h => h)
        generalize (((Y.setCell ⟨g9, 0, none⟩ (.int .i64 s)).setCell ⟨g9, 1, none⟩ (.int .u32 (f1 : Int))).setCell ⟨g9, 2, none⟩ (.int .u32 (f2 : Int))).setCell ⟨g9, 3, none⟩ (.bool ax) = Z at HOx HfXZ ⊢
        have H10x : Hid (Z.heap[p10]? = some (.cells #[.int .u64 (RN : Int), .slice (some ⟨g9, 0, none⟩) m c9] 25 (0, 0))) := HfXZ.kept H10x.out (fun h => by have := Hg10.out; omega)
        have H8x : Hid (Z.heap[p8]? = some (.cells #[.int .u64 0, .slice none 0 0] 25 (0, 0))) := HfXZ.kept H8x.out (fun h => by have := Hg8.out; omega)
        have Hfx : Hid (Fr w Z (fun _ => False)) := Hfx.out.newer HfXZ (fun k h => by have h1 := Hp4.out; have h2 := Hp8.out; have h3 := Hg8.out; omega)
        have HOx : Hid (OwnV Z (.slice (some ⟨g9, 0, none⟩) m c9) RE) := HOx
        clear HfXZ
        unfold wpT
        go_upto_region 23 with fail
        obtain ⟨c0', c1'⟩ : Z.cell? ⟨p10, 0, none⟩ = some (.int .u64 (RN : Int)) ∧ Z.cell? ⟨p10, 1, none⟩ = some (.slice (some ⟨g9, 0, none⟩) m c9) := ⟨two_cell0 H10x.out, two_cell1 H10x.out⟩
        obtain ⟨e0', e1'⟩ : Z.cell? ⟨p8, 0, none⟩ = some (.int .u64 0) ∧ Z.cell? ⟨p8, 1, none⟩ = some (.slice none 0 0) := ⟨two_cell0 H8x.out, two_cell1 H8x.out⟩
        have f0' : Z.frozen? ⟨p8, 0, none⟩ = false := two_free H8x.out 0
        have f1' : Z.frozen? ⟨p8, 1, none⟩ = false := two_free H8x.out 1
        have Hfin : Hid (Fr w ((Z.setCell ⟨p8, 0, none⟩ (.int .u64 (RN : Int))).setCell ⟨p8, 1, none⟩ (.slice (some ⟨g9, 0, none⟩) m c9)) (fun _ => False)) := Hfx.out.newer ((fr_cell Z _ _ _).trans (fr_cell _ _ _ _) (fun _ _ h => h)) (fun i hi => by have h2 := Hp4.out; have h3 := Hp8.out; omega)
        have Hof : Hid (OwnV ((Z.setCell ⟨p8, 0, none⟩ (.int .u64 (RN : Int))).setCell ⟨p8, 1, none⟩ (.slice (some ⟨g9, 0, none⟩) m c9)) (.slice (some ⟨g9, 0, none⟩) m c9) RE) := HOx.out.frame ((fr_cell Z _ _ _).trans (fr_cell _ _ _ _) (fun _ _ h => h)) (fun i hi h => by have h2 := Hnx.out i hi; have h3 := Hs8.out; omega)
        have Hrow : Hid _ := two_set1 (two_set0 H8x.out (u := .int .u64 (RN : Int))) (u := .slice (some ⟨g9, 0, none⟩) m c9)
        have Hfresh : Hid (∀ k, Value.ownBlock (.slice (some ⟨g9, 0, none⟩) m c9) = some k → w.heap.size ≤ k) := fun k hk => by have h2 := Hnx.out k hk; have h3 := Hwa.out.size; omega
        go_wp2
        refine bodyPost_ret (results_cell1 rfl rfl (run_loadVar_row _ _ 25 _ _ (0, 0) _ Hrow.out Tryz.underlying25 rfl histSize)) rfl ?_
        exact ⟨⟨_, rfl, Hof.out.rd, Hfresh.out⟩, Hfin.out⟩
      · go_simp
        refine hK _ _ (Fr.refl _ _) ?_
        clear hK K
        refine wpT_one rfl rfl (fun K hK => ?_)
        go_simp
        refine hK _ _ (Fr.refl _ _) ?_
        clear hK K
        repeat (refine wpT_take (v := ?_) rfl rfl (fun x hx => ?_) ?_; rotate_left; (focus (go_simp; with_reducible rfl)); simp only [Act.put, List.setIfInBounds_toArray, List.set_cons_zero, List.set_cons_succ])
        refine wpT_one rfl rfl (fun K hK => ?_)
        go_simp
        refine hK _ _ ((fr_put4 X.drew _ _ _ _ _ _ _ _ _).mono (fun j _ h => by have h1 := Hg8.out; have h2 := Hp8.out; have h3 := Hp4.out; omega)) ?_
        clear hK K
        clear k0 k1 k2 k3 l0 l1 l2 l3 q0 q1 fzN fzE fz0 fz1 fz2 fz3
        have HOy : OwnV (((((X.setCell ⟨g9, i * 4, none⟩ (.int .i64 s0)).setCell ⟨g9, i * 4 + 1, none⟩ (.int .u32 (g1 : Int))).setCell ⟨g9, i * 4 + 2, none⟩ (.int .u32 (g2 : Int))).setCell ⟨g9, i * 4 + 3, none⟩ (.bool a0x)).drew) (.slice (some ⟨g9, 0, none⟩) m c9) (evs.set i (s0, (g1, g2), a0x)) := OwnV.put4 HOx.out Hm'.out (s0, (g1, g2), a0x) Hx.out
        have HfXY : Fr X (((((X.setCell ⟨g9, i * 4, none⟩ (.int .i64 s0)).setCell ⟨g9, i * 4 + 1, none⟩ (.int .u32 (g1 : Int))).setCell ⟨g9, i * 4 + 2, none⟩ (.int .u32 (g2 : Int))).setCell ⟨g9, i * 4 + 3, none⟩ (.bool a0x)).drew) (fun k => k = g9) := (fr_put4 X _ _ _ _ _ _ _ _ _).drew
        generalize ((((X.setCell ⟨g9, i * 4, none⟩ (.int .i64 s0)).setCell ⟨g9, i * 4 + 1, none⟩ (.int .u32 (g1 : Int))).setCell ⟨g9, i * 4 + 2, none⟩ (.int .u32 (g2 : Int))).setCell ⟨g9, i * 4 + 3, none⟩ (.bool a0x)).drew = Y at HOy HfXY ⊢
        have Hly : Hid ((evs.set i (s0, (g1, g2), a0x)).length = m) := by show _ = _; rw [List.length_set]; exact Hm'.out
        have Hy0 : Hid ((evs.set i (s0, (g1, g2), a0x))[0]? = some (s0, (g1, g2), a0x)) := by
          show _ = _
          rw [List.getElem?_set]
          split
          · rename_i h
            rw [if_pos (by rw [Hm'.out]; have := Him.out; omega)]
          · exact Hx0.out
        obtain ⟨l0, l1, l2, l3⟩ := OwnV.cells4 HOy Hly.out Hy0.out
        dsimp only at l0 l1 l2 l3
        simp only [Nat.zero_mul, Nat.zero_add] at l0 l1 l2 l3
        have fz0 := OwnV.free HOy Hly.out 0
        have fz1 := OwnV.free HOy Hly.out 1
        have fz2 := OwnV.free HOy Hly.out 2
        have fz3 := OwnV.free HOy Hly.out 3
        have HOy2 : Hid (OwnV Y (.slice (some ⟨g9, 0, none⟩) m c9) (evs.set i (s0, (g1, g2), a0x))) := HOy
        have HfXY2 : Hid _ := HfXY
        clear HOy HfXY
        repeat (refine wpT_take (v := ?_) rfl rfl (fun x hx => ?_) ?_; rotate_left; (focus (go_simp; with_reducible rfl)); simp only [Act.put, List.setIfInBounds_toArray, List.set_cons_zero, List.set_cons_succ])
        refine wpT_one rfl rfl (fun K hK => ?_)
        go_simp
        refine hK _ _ ((fr_put4 Y _ _ _ _ _ _ _ _ _).mono (fun j _ h => by have h1 := Hg8.out; have h2 := Hp8.out; have h3 := Hp4.out; omega)) ?_
        clear hK K
        clear l0 l1 l2 l3 fz0 fz1 fz2 fz3
        have HOx : OwnV ((((Y.setCell ⟨g9, 0, none⟩ (.int .i64 s)).setCell ⟨g9, 1, none⟩ (.int .u32 (f1 : Int))).setCell ⟨g9, 2, none⟩ (.int .u32 (f2 : Int))).setCell ⟨g9, 3, none⟩ (.bool ax)) (.slice (some ⟨g9, 0, none⟩) m c9) RE := by
          rw [HRE.out]
          have := OwnV.put4 HOy2.out Hly.out (s, (f1, f2), ax) Hy0.out
          simpa only [Nat.zero_mul, Nat.zero_add] using this
        have HfXZ : Fr X ((((Y.setCell ⟨g9, 0, none⟩ (.int .i64 s)).setCell ⟨g9, 1, none⟩ (.int .u32 (f1 : Int))).setCell ⟨g9, 2, none⟩ (.int .u32 (f2 : Int))).setCell ⟨g9, 3, none⟩ (.bool ax)) (fun k => k = g9) := HfXY2.out.trans (fr_put4 Y _ _ _ _ _ _ _ _ _) (fun _ _ h => h)
        generalize (((Y.setCell ⟨g9, 0, none⟩ (.int .i64 s)).setCell ⟨g9, 1, none⟩ (.int .u32 (f1 : Int))).setCell ⟨g9, 2, none⟩ (.int .u32 (f2 : Int))).setCell ⟨g9, 3, none⟩ (.bool ax) = Z at HOx HfXZ ⊢
        have H10x : Hid (Z.heap[p10]? = some (.cells #[.int .u64 (RN : Int), .slice (some ⟨g9, 0, none⟩) m c9] 25 (0, 0))) := HfXZ.kept H10x.out (fun h => by have := Hg10.out; omega)
        have H8x : Hid (Z.heap[p8]? = some (.cells #[.int .u64 0, .slice none 0 0] 25 (0, 0))) := HfXZ.kept H8x.out (fun h => by have := Hg8.out; omega)
        have Hfx : Hid (Fr w Z (fun _ => False)) := Hfx.out.newer HfXZ (fun k h => by have h1 := Hp4.out; have h2 := Hp8.out; have h3 := Hg8.out; omega)
        have HOx : Hid (OwnV Z (.slice (some ⟨g9, 0, none⟩) m c9) RE) := HOx
        clear HfXZ
        unfold wpT
        go_upto_region 23 with fail
        obtain ⟨c0', c1'⟩ : Z.cell? ⟨p10, 0, none⟩ = some (.int .u64 (RN : Int)) ∧ Z.cell? ⟨p10, 1, none⟩ = some (.slice (some ⟨g9, 0, none⟩) m c9) := ⟨two_cell0 H10x.out, two_cell1 H10x.out⟩
        obtain ⟨e0', e1'⟩ : Z.cell? ⟨p8, 0, none⟩ = some (.int .u64 0) ∧ Z.cell? ⟨p8, 1, none⟩ = some (.slice none 0 0) := ⟨two_cell0 H8x.out, two_cell1 H8x.out⟩
        have f0' : Z.frozen? ⟨p8, 0, none⟩ = false := two_free H8x.out 0
        have f1' : Z.frozen? ⟨p8, 1, none⟩ = false := two_free H8x.out 1
        have Hfin : Hid (Fr w ((Z.setCell ⟨p8, 0, none⟩ (.int .u64 (RN : Int))).setCell ⟨p8, 1, none⟩ (.slice (some ⟨g9, 0, none⟩) m c9)) (fun _ => False)) := Hfx.out.newer ((fr_cell Z _ _ _).trans (fr_cell _ _ _ _) (fun _ _ h => h)) (fun i hi => by have h2 := Hp4.out; have h3 := Hp8.out; omega)
        have Hof : Hid (OwnV ((Z.setCell ⟨p8, 0, none⟩ (.int .u64 (RN : Int))).setCell ⟨p8, 1, none⟩ (.slice (some ⟨g9, 0, none⟩) m c9)) (.slice (some ⟨g9, 0, none⟩) m c9) RE) := HOx.out.frame ((fr_cell Z _ _ _).trans (fr_cell _ _ _ _) (fun _ _ h => h)) (fun i hi h => by have h2 := Hnx.out i hi; have h3 := Hs8.out; omega)
        have Hrow : Hid _ := two_set1 (two_set0 H8x.out (u := .int .u64 (RN : Int))) (u := .slice (some ⟨g9, 0, none⟩) m c9)
        have Hfresh : Hid (∀ k, Value.ownBlock (.slice (some ⟨g9, 0, none⟩) m c9) = some k → w.heap.size ≤ k) := fun k hk => by have h2 := Hnx.out k hk; have h3 := Hwa.out.size; omega
        go_wp2
        refine bodyPost_ret (results_cell1 rfl rfl (run_loadVar_row _ _ 25 _ _ (0, 0) _ Hrow.out Tryz.underlying25 rfl histSize)) rfl ?_
        exact ⟨⟨_, rfl, Hof.out.rd, Hfresh.out⟩, Hfin.out⟩
    · have mw1 : (what : Int).tmod 8 = 6 := by rw [Int.tmod_eq_emod_of_nonneg (by omega)]; omega
      have mw2 : (what : Int) % 8 = 6 := by omega
      have hRR : RN = n ∧ RE = evs.take i ++ evs.drop (i + 1) := by
        have := HR2.out
        rw [h] at this
        simpa using this
      clear h
      obtain ⟨rfl, hRE⟩ := hRR
      have HRE : Hid _ := hRE
      clear hRE
      clear k0 k1 k2 k3 l0 l1 l2 l3 q0 q1 fzN fzE fz0 fz1 fz2 fz3
      obtain ⟨i1, hi1⟩ : ∃ k, k = i + 1 := ⟨_, rfl⟩
      have wk : IntKind.i64.wrap ((i : Int) + 1) = (i1 : Int) := by rw [IntWalk.i64_in _ (by omega)]; omega
      have hic : (i : Int) ≤ (c9 : Int) := by omega
      have hi1m : (i1 : Int) ≤ (m : Int) := by omega
      have hi10 : (0 : Int) ≤ (i1 : Int) := by omega
      obtain ⟨A, hA⟩ : ∃ A, (if c9 = i1 then some ⟨g9, 0, none⟩ else Option.map (fun x : Addr => x.add (i1 * 4)) (some ⟨g9, 0, none⟩)) = A := ⟨_, rfl⟩
      have Hpre : Hid (OwnV X (.slice (some ⟨g9, 0, none⟩) i c9) (evs.take i)) := HOx.out.take Hm'.out i (by omega) (by omega)
      have Hpost : Hid (RdV X (.slice A (m - i1) (c9 - i1)) (evs.drop (i + 1))) := by have := HOx.out.rd.drop Hm'.out i1 (by omega); rw [hA, hi1] at this; rw [hi1]; exact this
      have Hlen : Hid ((evs.take i).length + (evs.drop (i + 1)).length ≤ 100000000000) := by show _ ≤ _; rw [List.length_take, List.length_drop, Hm'.out]; omega
      have hA2 : (if c9 = i1 then some ⟨g9, 0, none⟩ else some ⟨g9, i1 * 4, none⟩ : Option Addr) = A := by rw [← hA]; simp [add_none]
      clear hi1 hA
      go_wp2_with fail
      refine wp_region_tree (fun k => w.heap.size ≤ k) (.take 0 (.take 1 (.take 2 (.take 3 (.take 4 (.take 5 (.take 6 (.one 7 (.take 8 (.one 9 .nil)))))))))) (by kernel_rfl) (by kernel_rfl) (by decide) (by kernel_rfl) ?_
      repeat (refine wpT_take (v := ?_) rfl rfl (fun x hx => ?_) ?_; rotate_left; (focus (go_simp; with_reducible rfl)); simp only [Act.put, List.setIfInBounds_toArray, List.set_cons_zero, List.set_cons_succ])
      obtain ⟨v5, w5, hrun5, ho5, hf5, hm5⟩ := app_events X.drew (.slice (some ⟨g9, 0, none⟩) i c9) (.slice A (m - i1) (c9 - i1)) (evs.take i) (evs.drop (i + 1)) (Hpre.out.frame (Fr.refl X (fun _ => False)).drew (fun _ _ h => h)) (Hpost.out.keep (Fr.refl X (fun _ => False)).drew) Hlen.out
      obtain ⟨ao5, l5, cp5, rfl⟩ : ∃ a l c, v5 = .slice a l c := by obtain ⟨a, c, e, -⟩ := ho5.rd.form; exact ⟨a, _, c, e⟩
      refine wpT_one rfl rfl (fun K hK => ?_)
      refine op_append_run (.tmp 101) (.tmp 105) 23 rfl rfl rfl hrun5 ?_
      have hf5g : Fr X.drew w5 (fun k => k = g9) := hf5.mono (fun k _ hk => by simp only [Value.ownBlock, Option.some.injEq] at hk; exact hk.symm)
      refine hK _ _ (hf5g.mono (fun k _ hk => by have h1 := Hg8.out; have h2 := Hp8.out; have h3 := Hp4.out; omega)) ?_
      clear hK K
      simp only [Act.put, List.setIfInBounds_toArray, List.set_cons_zero, List.set_cons_succ]
      have H10y : w5.heap[p10]? = some (.cells #[.int .u64 (RN : Int), .slice (some ⟨g9, 0, none⟩) m c9] 25 (0, 0)) := hf5g.kept (w := X.drew) H10x.out (fun h => by have := Hg10.out; omega)
      have H8y : w5.heap[p8]? = some (.cells #[.int .u64 0, .slice none 0 0] 25 (0, 0)) := hf5g.kept (w := X.drew) H8x.out (fun h => by have := Hg8.out; omega)
      have Hfy : Hid (Fr w w5 (fun _ => False)) := Hfx.out.drew.newer hf5g (fun k h => by have h1 := Hp4.out; have h2 := Hp8.out; have h3 := Hg8.out; omega)
      have HOy : Hid (OwnV w5 (.slice ao5 l5 cp5) RE) := by show OwnV _ _ _; rw [HRE.out]; exact ho5
      have Hny : Hid (∀ k, (Value.slice ao5 l5 cp5).ownBlock = some k → wa.heap.size ≤ k ∧ k ≠ p10) := fun k hk => by
        rcases hm5 k hk with h | h
        · simp only [Value.ownBlock, Option.some.injEq] at h
          have h1 := Hnx.out g9 rfl; have h2 := Hg10.out; omega
        · have h1 := lt_of_block H10x.out; have h2 := Hs8.out; have h3 := Hnx.out g9 rfl; have h4 := Hg10.out; have h5 : X.heap.size ≤ k := h; omega
      obtain ⟨q0, q1⟩ : w5.cell? ⟨p10, 0, none⟩ = some (.int .u64 (RN : Int)) ∧ w5.cell? ⟨p10, 1, none⟩ = some (.slice (some ⟨g9, 0, none⟩) m c9) := ⟨two_cell0 H10y, two_cell1 H10y⟩
      have fzE := two_free H10y 1
      have H10y : Hid _ := H10y
      have H8y : Hid _ := H8y
      clear hf5 hf5g ho5 hm5 hrun5 hA2
      repeat (refine wpT_take (v := ?_) rfl rfl (fun x hx => ?_) ?_; rotate_left; (focus (go_simp; with_reducible rfl)); simp only [Act.put, List.setIfInBounds_toArray, List.set_cons_zero, List.set_cons_succ])
      refine wpT_one rfl rfl (fun K hK => ?_)
      go_simp
      refine hK _ _ ((fr_cell w5 _ _ _).mono (fun j _ h => by have h1 := Hg10.out; have h2 := Hg8.out; have h3 := Hp8.out; have h4 := Hp4.out; omega)) ?_
      clear hK K q0 q1 fzE
      have H10x := two_set1 H10y.out (u := .slice ao5 l5 cp5)
      have H8x : (w5.setCell ⟨p10, 1, none⟩ (.slice ao5 l5 cp5)).heap[p8]? = some (.cells #[.int .u64 0, .slice none 0 0] 25 (0, 0)) := blk_set_other H8y.out (by have := H810.out; show p8 ≠ p10; omega)
      have HOx : OwnV (w5.setCell ⟨p10, 1, none⟩ (.slice ao5 l5 cp5)) (.slice ao5 l5 cp5) RE := HOy.out.frame (fr_cell w5 _ _ _) (fun k hk h => (Hny.out k hk).2 h)
      have Hfx : Fr w (w5.setCell ⟨p10, 1, none⟩ (.slice ao5 l5 cp5)) (fun _ => False) := Hfy.out.newer (fr_cell w5 _ _ _) (fun k h => by have h1 := Hp4.out; have h2 := Hp8.out; have h3 := H810.out; omega)
      generalize w5.setCell ⟨p10, 1, none⟩ (.slice ao5 l5 cp5) = Y at H10x H8x HOx Hfx ⊢
      have Hnx : Hid (∀ k, (Value.slice ao5 l5 cp5).ownBlock = some k → wa.heap.size ≤ k) := fun k hk => (Hny.out k hk).1
      have H10x : Hid _ := H10x
      have H8x : Hid _ := H8x
      have Hfx : Hid _ := Hfx
      have HOx : Hid (OwnV Y (.slice ao5 l5 cp5) RE) := HOx
      unfold wpT
      go_upto_region 23 with fail
      obtain ⟨c0', c1'⟩ : Y.cell? ⟨p10, 0, none⟩ = some (.int .u64 (RN : Int)) ∧ Y.cell? ⟨p10, 1, none⟩ = some (.slice ao5 l5 cp5) := ⟨two_cell0 H10x.out, two_cell1 H10x.out⟩
      obtain ⟨e0', e1'⟩ : Y.cell? ⟨p8, 0, none⟩ = some (.int .u64 0) ∧ Y.cell? ⟨p8, 1, none⟩ = some (.slice none 0 0) := ⟨two_cell0 H8x.out, two_cell1 H8x.out⟩
      have f0' : Y.frozen? ⟨p8, 0, none⟩ = false := two_free H8x.out 0
      have f1' : Y.frozen? ⟨p8, 1, none⟩ = false := two_free H8x.out 1
      have Hfin : Hid (Fr w ((Y.setCell ⟨p8, 0, none⟩ (.int .u64 (RN : Int))).setCell ⟨p8, 1, none⟩ (.slice ao5 l5 cp5)) (fun _ => False)) := Hfx.out.newer ((fr_cell Y _ _ _).trans (fr_cell _ _ _ _) (fun _ _ h => h)) (fun i hi => by have h2 := Hp4.out; have h3 := Hp8.out; omega)
      have Hof : Hid (OwnV ((Y.setCell ⟨p8, 0, none⟩ (.int .u64 (RN : Int))).setCell ⟨p8, 1, none⟩ (.slice ao5 l5 cp5)) (.slice ao5 l5 cp5) RE) := HOx.out.frame ((fr_cell Y _ _ _).trans (fr_cell _ _ _ _) (fun _ _ h => h)) (fun i hi h => by have h2 := Hnx.out i hi; have h3 := Hs8.out; omega)
      have Hrow : Hid _ := two_set1 (two_set0 H8x.out (u := .int .u64 (RN : Int))) (u := .slice ao5 l5 cp5)
      have Hfresh : Hid (∀ k, Value.ownBlock (.slice ao5 l5 cp5) = some k → w.heap.size ≤ k) := fun k hk => by have h2 := Hnx.out k hk; have h3 := Hwa.out.size; omega
      go_wp2
      refine bodyPost_ret (results_cell1 rfl rfl (run_loadVar_row _ _ 25 _ _ (0, 0) _ Hrow.out Tryz.underlying25 rfl histSize)) rfl ?_
      exact ⟨⟨_, rfl, Hof.out.rd, Hfresh.out⟩, Hfin.out⟩
    · have mw1 : (what : Int).tmod 8 = 7 := by rw [Int.tmod_eq_emod_of_nonneg (by omega)]; omega
      have mw2 : (what : Int) % 8 = 7 := by omega
      have hRR : RN = f2 ∧ RE = evs := by
        have := HR2.out
        rw [h] at this
        simpa using this
      clear h
      obtain ⟨rfl, rfl⟩ := hRR
      have wf : IntKind.u64.wrap (RN : Int) = (RN : Int) := by rw [IntKind.wrap_u64]; have h1 := Hfit.out _ (List.mem_of_getElem? Hx.out); unfold EvFit at h1; dsimp only at h1; omega
      go_upto_region 23 with fail
      clear k0 k1 k2 k3 l0 l1 l2 l3 q0 q1 fzN fzE fz0 fz1 fz2 fz3
      have H10x := (two_set0 H10x.out (u := .int .u64 (RN : Int)))
      have H8x : (X.setCell ⟨p10, 0, none⟩ (.int .u64 (RN : Int))).heap[p8]? = some (.cells #[.int .u64 0, .slice none 0 0] 25 (0, 0)) := blk_set_other H8x.out (by have := H810.out; show p8 ≠ p10; omega)
      have HOx : OwnV (X.setCell ⟨p10, 0, none⟩ (.int .u64 (RN : Int))) (.slice (some ⟨g9, 0, none⟩) m c9) RE := HOx.out.frame (fr_cell X _ _ _) (fun k hk h => by have h1 := Hlx.out k hk; omega)
      have Hfx : Fr w (X.setCell ⟨p10, 0, none⟩ (.int .u64 (RN : Int))) (fun _ => False) := Hfx.out.newer (fr_cell X _ _ _) (fun k h => by have h1 := Hp4.out; have h2 := Hp8.out; have h3 := H810.out; omega)
      generalize X.setCell ⟨p10, 0, none⟩ (.int .u64 (RN : Int)) = Y at H10x H8x HOx Hfx ⊢
      have H10x : Hid _ := H10x
      have H8x : Hid _ := H8x
      have Hfx : Hid _ := Hfx
      have HOx : Hid (OwnV Y (.slice (some ⟨g9, 0, none⟩) m c9) RE) := HOx
      obtain ⟨c0', c1'⟩ : Y.cell? ⟨p10, 0, none⟩ = some (.int .u64 (RN : Int)) ∧ Y.cell? ⟨p10, 1, none⟩ = some (.slice (some ⟨g9, 0, none⟩) m c9) := ⟨two_cell0 H10x.out, two_cell1 H10x.out⟩
      obtain ⟨e0', e1'⟩ : Y.cell? ⟨p8, 0, none⟩ = some (.int .u64 0) ∧ Y.cell? ⟨p8, 1, none⟩ = some (.slice none 0 0) := ⟨two_cell0 H8x.out, two_cell1 H8x.out⟩
      have f0' : Y.frozen? ⟨p8, 0, none⟩ = false := two_free H8x.out 0
      have f1' : Y.frozen? ⟨p8, 1, none⟩ = false := two_free H8x.out 1
      have Hfin : Hid (Fr w ((Y.setCell ⟨p8, 0, none⟩ (.int .u64 (RN : Int))).setCell ⟨p8, 1, none⟩ (.slice (some ⟨g9, 0, none⟩) m c9)) (fun _ => False)) := Hfx.out.newer ((fr_cell Y _ _ _).trans (fr_cell _ _ _ _) (fun _ _ h => h)) (fun i hi => by have h2 := Hp4.out; have h3 := Hp8.out; omega)
      have Hof : Hid (OwnV ((Y.setCell ⟨p8, 0, none⟩ (.int .u64 (RN : Int))).setCell ⟨p8, 1, none⟩ (.slice (some ⟨g9, 0, none⟩) m c9)) (.slice (some ⟨g9, 0, none⟩) m c9) RE) := HOx.out.frame ((fr_cell Y _ _ _).trans (fr_cell _ _ _ _) (fun _ _ h => h)) (fun i hi h => by have h2 := Hnx.out i hi; have h3 := Hs8.out; omega)
      have Hrow : Hid _ := two_set1 (two_set0 H8x.out (u := .int .u64 (RN : Int))) (u := .slice (some ⟨g9, 0, none⟩) m c9)
      have Hfresh : Hid (∀ k, Value.ownBlock (.slice (some ⟨g9, 0, none⟩) m c9) = some k → w.heap.size ≤ k) := fun k hk => by have h2 := Hnx.out k hk; have h3 := Hwa.out.size; omega
      go_wp2
      refine bodyPost_ret (results_cell1 rfl rfl (run_loadVar_row _ _ 25 _ _ (0, 0) _ Hrow.out Tryz.underlying25 rfl histSize)) rfl ?_
      exact ⟨⟨_, rfl, Hof.out.rd, Hfresh.out⟩, Hfin.out⟩

end Go.Proofs.YtnffjafddbbjaaaGreatDoor

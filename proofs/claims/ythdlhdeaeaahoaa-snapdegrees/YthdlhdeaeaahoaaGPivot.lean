/-
  How the library's sort chooses a pivot, by a function of two places that may lay new blocks: which of those that it looks at is left open.
-/
import Derived.Test.YthdlhdeaeaahoaaGIns
import Derived.Deep.CutRange
namespace Go.Proofs.Ythdlhdeaeaahoaa
open Go.RowKit Go.Sort

section
variable {α : Type} [Inhabited α]

theorem one_cell {w : World} {b : Nat} {x : Value} {t : TypeId} (h : w.heap[b]? = some (.cells #[x] t (0, 0))) : w.cell? ⟨b, 0, none⟩ = some x ∧ w.frozen? ⟨b, 0, none⟩ = false := by simp [World.cell?, World.frozen?, h]
theorem one_set {w : World} {b : Nat} {x u : Value} {t : TypeId} (h : w.heap[b]? = some (.cells #[x] t (0, 0))) : (w.setCell ⟨b, 0, none⟩ u).heap[b]? = some (.cells #[u] t (0, 0)) := by
  have := heap_setCell_same w b 0 #[x] t u h
  simpa using this

set_option maxRecDepth 4000 in
set_option maxHeartbeats 1600000 in
theorem gOrder_any (C : SortC α) (w0 : World) (hO : C.Ok w0) (a b q s : Nat) (d : Array α) (w : World) (hA : C.At w0 w d) (ha : a < C.n) (hb : b < C.n) (hq : w0.heap.size ≤ q) (hc : w.heap[q]? = some (.cells #[.int .i64 (s : Int)] 3 (0, 0))) (hs : s ≤ 100) :
    Calls Try.prog 83 #[.agg #[.func (.func C.g) #[] C.lb, .func (.func C.sf) #[] C.sb], .int .i64 (a : Int), .int .i64 (b : Int), .pointer (some ⟨q, 0, none⟩)] w fun e w' => (∃ x y : Nat, e = .returned (.tuple #[.int .i64 (x : Int), .int .i64 (y : Int)]) ∧ (x = a ∧ y = b ∨ x = b ∧ y = a)) ∧ ∃ s' : Nat, s' ≤ s + 1 ∧ w'.heap[q]? = some (.cells #[.int .i64 (s' : Int)] 3 (0, 0)) ∧ C.own w' d ∧ Fr w w' (fun j => j = q) := by
  have hqw : q < w.heap.size := lt_of_block hc
  have hqb : q ≠ C.b := by have := hO.hb; omega
  have HC : Hid (w.heap[q]? = some (.cells #[.int .i64 (s : Int)] 3 (0, 0))) := hc
  have Hb0 : Hid (C.b < w0.heap.size) := hO.hb
  clear hc
  have eg := hO.eg
  have hn := hO.hn
  have hbw : C.b < w.heap.size := Nat.lt_of_lt_of_le hO.hb hA.2.size
  have HO : Hid (C.Ok w0) := hO
  have HA : Hid (C.At w0 w d) := hA
  clear hO hA
  go_enter Try.func83, Try.ntmps83
  go_upto_region 1 with fail
  obtain ⟨p, hp⟩ : ∃ p, p = w.heap.size := ⟨_, rfl⟩
  obtain ⟨w1, hw1⟩ : ∃ x, x = w.alloc (.cells #[.func (.func C.g) #[] C.lb, .func (.func C.sf) #[] C.sb] 99) := ⟨_, rfl⟩
  rw [← hw1, ← hp]
  have HB : Hid (w1.heap[p]? = some (.cells #[.func (.func C.g) #[] C.lb, .func (.func C.sf) #[] C.sb] 99 (0, 0))) := by show _ = _; rw [hw1, hp]; exact heap_alloc_new _ _
  have HF : Hid (Fr w w1 (fun j => j = C.b)) := by show Fr _ _ _; rw [hw1]; exact (Fr.refl _ _).alloc _
  have HW : Hid (C.own w1 d) := by show C.own _ _; rw [hw1]; exact HA.out.1.frame ((Fr.refl _ (fun _ => False)).alloc _) (fun h => h)
  have hpb : p ≠ C.b := by omega
  have hpq : p ≠ q := by omega
  have HC1 : Hid (w1.heap[q]? = some (.cells #[.int .i64 (s : Int)] 3 (0, 0))) := by show _ = _; rw [hw1]; exact blk_alloc _ HC.out
  have HF1 : Hid (Fr w w1 (fun j => j = q)) := by show Fr _ _ _; rw [hw1]; exact (Fr.refl _ _).alloc _
  clear hp hw1 hbw hqw
  obtain ⟨c0, c1⟩ := box_cells HB.out (Fr.refl w1 (fun j => j = C.b)) hpb
  have hl := HO.out.less w1 d ((HA.out.then HW.out HF.out).then HW.out (Fr.refl _ _)) (b) (a) (by omega) (by omega)
  rw [show ((b : Nat) : Int) = (b : Int) by omega, show ((a : Nat) : Int) = (a : Int) by omega] at hl
  cases hlv : C.lt d[b]! d[a]! with
  | true =>
    rw [hlv] at hl
    clear hlv
    go_wp2_with fail
    refine hl.mono ?_
    rintro e w2 ⟨rfl, hf2⟩
    obtain ⟨k0, k1⟩ := one_cell (hf2.kept HC1.out (fun h => h))
    have HZ : Hid (w2.heap[q]? = some (.cells #[.int .i64 (s : Int)] 3 (0, 0)) ∧ C.own w2 d ∧ Fr w w2 (fun j => j = q)) := ⟨hf2.kept HC1.out (fun h => h), HW.out.frame hf2 (fun h => h), HF1.out.none hf2⟩
    clear hf2 hl c0 c1
    go_wp2_with fail
    go_ret2
    exact ⟨⟨b, a, rfl, .inr ⟨rfl, rfl⟩⟩, s + 1, Nat.le_refl _, by have := one_set (u := .int .i64 ((s : Int) + 1)) HZ.out.1; simpa using this, HZ.out.2.1.frame ((Fr.refl _ (fun j => j = q)).setCell _ (fun _ => rfl) _) (fun h => hqb h.symm), HZ.out.2.2.trans ((Fr.refl _ (fun j => j = q)).setCell _ (fun _ => rfl) _) (fun _ _ h => h)⟩
  | false =>
    rw [hlv] at hl
    clear hlv
    go_wp2_with fail
    refine hl.mono ?_
    rintro e w2 ⟨rfl, hf2⟩
    have HZ : Hid (w2.heap[q]? = some (.cells #[.int .i64 (s : Int)] 3 (0, 0)) ∧ C.own w2 d ∧ Fr w w2 (fun j => j = q)) := ⟨hf2.kept HC1.out (fun h => h), HW.out.frame hf2 (fun h => h), HF1.out.none hf2⟩
    clear hf2 hl c0 c1
    go_wp2_with fail
    go_ret2
    exact ⟨⟨a, b, rfl, .inl ⟨rfl, rfl⟩⟩, s, Nat.le_succ s, HZ.out.1, HZ.out.2.1, HZ.out.2.2⟩

set_option maxRecDepth 4000 in
set_option maxHeartbeats 1600000 in
theorem gMedian_any (C : SortC α) (w0 : World) (hO : C.Ok w0) (a b c q s : Nat) (d : Array α) (w : World) (hA : C.At w0 w d) (ha : a < C.n) (hb : b < C.n) (hc3 : c < C.n) (hq : w0.heap.size ≤ q) (hc : w.heap[q]? = some (.cells #[.int .i64 (s : Int)] 3 (0, 0))) (hs : s ≤ 90) :
    Calls Try.prog 82 #[.agg #[.func (.func C.g) #[] C.lb, .func (.func C.sf) #[] C.sb], .int .i64 (a : Int), .int .i64 (b : Int), .int .i64 (c : Int), .pointer (some ⟨q, 0, none⟩)] w fun e w' => (∃ x : Nat, e = .returned (.int .i64 (x : Int)) ∧ (x = a ∨ x = b ∨ x = c)) ∧ ∃ s' : Nat, s' ≤ s + 3 ∧ w'.heap[q]? = some (.cells #[.int .i64 (s' : Int)] 3 (0, 0)) ∧ C.own w' d ∧ Fr w w' (fun j => j = q) := by
  have hqw : q < w.heap.size := lt_of_block hc
  have hqb : q ≠ C.b := by have := hO.hb; omega
  have HC : Hid (w.heap[q]? = some (.cells #[.int .i64 (s : Int)] 3 (0, 0))) := hc
  have Hq : Hid (w0.heap.size ≤ q) := hq
  clear hc hq
  have eg := hO.eg
  have hn := hO.hn
  have hbw : C.b < w.heap.size := Nat.lt_of_lt_of_le hO.hb hA.2.size
  have HO : Hid (C.Ok w0) := hO
  have HA : Hid (C.At w0 w d) := hA
  clear hO hA
  go_enter Try.func82, Try.ntmps82
  go_upto_region 1 with fail
  obtain ⟨p, hp⟩ : ∃ p, p = w.heap.size := ⟨_, rfl⟩
  obtain ⟨w1, hw1⟩ : ∃ x, x = w.alloc (.cells #[.func (.func C.g) #[] C.lb, .func (.func C.sf) #[] C.sb] 99) := ⟨_, rfl⟩
  rw [← hw1, ← hp]
  have HB : Hid (w1.heap[p]? = some (.cells #[.func (.func C.g) #[] C.lb, .func (.func C.sf) #[] C.sb] 99 (0, 0))) := by show _ = _; rw [hw1, hp]; exact heap_alloc_new _ _
  have HF : Hid (Fr w w1 (fun j => j = C.b)) := by show Fr _ _ _; rw [hw1]; exact (Fr.refl _ _).alloc _
  have HW : Hid (C.own w1 d) := by show C.own _ _; rw [hw1]; exact HA.out.1.frame ((Fr.refl _ (fun _ => False)).alloc _) (fun h => h)
  have hpb : p ≠ C.b := by omega
  have hpq : p ≠ q := by omega
  have HC1 : Hid (w1.heap[q]? = some (.cells #[.int .i64 (s : Int)] 3 (0, 0))) := by show _ = _; rw [hw1]; exact blk_alloc _ HC.out
  have HF1 : Hid (Fr w w1 (fun j => j = q)) := by show Fr _ _ _; rw [hw1]; exact (Fr.refl _ _).alloc _
  clear hp hw1 hbw hqw
  have G0 : Hid (w1.heap[q]? = some (.cells #[.int .i64 (s : Int)] 3 (0, 0)) ∧ C.own w1 d ∧ Fr w1 w1 (fun j => j = q)) := ⟨HC1.out, HW.out, Fr.refl _ _⟩
  obtain ⟨c0, c1⟩ := box_cells HB.out G0.out.2.2 hpq
  have hcall := gOrder_any C w0 HO.out a b q s d w1 ⟨G0.out.2.1, HA.out.2.newer (HF1.out.trans G0.out.2.2 (fun _ _ h => h)) (fun i hi => hi ▸ Hq.out)⟩ (by omega) (by omega) Hq.out G0.out.1 (by omega)
  go_wp2_with fail
  refine hcall.mono ?_
  rintro e x1 ⟨⟨a1, b1, rfl, hor1⟩, s1, hs1, hc, ho, hf⟩
  have G1 : Hid (x1.heap[q]? = some (.cells #[.int .i64 (s1 : Int)] 3 (0, 0)) ∧ C.own x1 d ∧ Fr w1 x1 (fun j => j = q)) := ⟨hc, ho, G0.out.2.2.trans hf (fun _ _ h => h)⟩
  clear hcall c0 c1 hc ho hf
  obtain ⟨c0, c1⟩ := box_cells HB.out G1.out.2.2 hpq
  have hcall := gOrder_any C w0 HO.out b1 c q s1 d x1 ⟨G1.out.2.1, HA.out.2.newer (HF1.out.trans G1.out.2.2 (fun _ _ h => h)) (fun i hi => hi ▸ Hq.out)⟩ (by omega) (by omega) Hq.out G1.out.1 (by omega)
  go_wp2_with fail
  refine hcall.mono ?_
  rintro e x2 ⟨⟨b12, c2, rfl, hor2⟩, s2, hs2, hc, ho, hf⟩
  have G2 : Hid (x2.heap[q]? = some (.cells #[.int .i64 (s2 : Int)] 3 (0, 0)) ∧ C.own x2 d ∧ Fr w1 x2 (fun j => j = q)) := ⟨hc, ho, G1.out.2.2.trans hf (fun _ _ h => h)⟩
  clear hcall c0 c1 hc ho hf
  obtain ⟨c0, c1⟩ := box_cells HB.out G2.out.2.2 hpq
  have hcall := gOrder_any C w0 HO.out a1 b12 q s2 d x2 ⟨G2.out.2.1, HA.out.2.newer (HF1.out.trans G2.out.2.2 (fun _ _ h => h)) (fun i hi => hi ▸ Hq.out)⟩ (by omega) (by omega) Hq.out G2.out.1 (by omega)
  go_wp2_with fail
  refine hcall.mono ?_
  rintro e x3 ⟨⟨a13, b123, rfl, hor3⟩, s3, hs3, hc, ho, hf⟩
  have G3 : Hid (x3.heap[q]? = some (.cells #[.int .i64 (s3 : Int)] 3 (0, 0)) ∧ C.own x3 d ∧ Fr w1 x3 (fun j => j = q)) := ⟨hc, ho, G2.out.2.2.trans hf (fun _ _ h => h)⟩
  clear hcall c0 c1 hc ho hf
  go_wp2_with fail
  go_ret
  exact ⟨⟨b123, rfl, by omega⟩, s3, by omega, G3.out.1, G3.out.2.1, HF1.out.trans G3.out.2.2 (fun _ _ h => h)⟩

set_option maxRecDepth 4000 in
set_option maxHeartbeats 1600000 in
theorem gAdj_any (C : SortC α) (w0 : World) (hO : C.Ok w0) (a q s : Nat) (d : Array α) (w : World) (hA : C.At w0 w d) (ha : 1 ≤ a) (hb : a + 1 < C.n) (hq : w0.heap.size ≤ q) (hc : w.heap[q]? = some (.cells #[.int .i64 (s : Int)] 3 (0, 0))) (hs : s ≤ 90) :
    Calls Try.prog 81 #[.agg #[.func (.func C.g) #[] C.lb, .func (.func C.sf) #[] C.sb], .int .i64 (a : Int), .pointer (some ⟨q, 0, none⟩)] w fun e w' => (∃ x : Nat, e = .returned (.int .i64 (x : Int)) ∧ a ≤ x + 1 ∧ x ≤ a + 1) ∧ ∃ s' : Nat, s' ≤ s + 3 ∧ w'.heap[q]? = some (.cells #[.int .i64 (s' : Int)] 3 (0, 0)) ∧ C.own w' d ∧ Fr w w' (fun j => j = q) := by
  have hqw : q < w.heap.size := lt_of_block hc
  have hqb : q ≠ C.b := by have := hO.hb; omega
  have HC : Hid (w.heap[q]? = some (.cells #[.int .i64 (s : Int)] 3 (0, 0))) := hc
  have Hq : Hid (w0.heap.size ≤ q) := hq
  clear hc hq
  have eg := hO.eg
  have hn := hO.hn
  have hbw : C.b < w.heap.size := Nat.lt_of_lt_of_le hO.hb hA.2.size
  have HO : Hid (C.Ok w0) := hO
  have HA : Hid (C.At w0 w d) := hA
  clear hO hA
  go_enter Try.func81, Try.ntmps81
  go_upto_region 1 with fail
  obtain ⟨p, hp⟩ : ∃ p, p = w.heap.size := ⟨_, rfl⟩
  obtain ⟨w1, hw1⟩ : ∃ x, x = w.alloc (.cells #[.func (.func C.g) #[] C.lb, .func (.func C.sf) #[] C.sb] 99) := ⟨_, rfl⟩
  rw [← hw1, ← hp]
  have HB : Hid (w1.heap[p]? = some (.cells #[.func (.func C.g) #[] C.lb, .func (.func C.sf) #[] C.sb] 99 (0, 0))) := by show _ = _; rw [hw1, hp]; exact heap_alloc_new _ _
  have HF : Hid (Fr w w1 (fun j => j = C.b)) := by show Fr _ _ _; rw [hw1]; exact (Fr.refl _ _).alloc _
  have HW : Hid (C.own w1 d) := by show C.own _ _; rw [hw1]; exact HA.out.1.frame ((Fr.refl _ (fun _ => False)).alloc _) (fun h => h)
  have hpb : p ≠ C.b := by omega
  have hpq : p ≠ q := by omega
  have HC1 : Hid (w1.heap[q]? = some (.cells #[.int .i64 (s : Int)] 3 (0, 0))) := by show _ = _; rw [hw1]; exact blk_alloc _ HC.out
  have HF1 : Hid (Fr w w1 (fun j => j = q)) := by show Fr _ _ _; rw [hw1]; exact (Fr.refl _ _).alloc _
  clear hp hw1 hbw hqw
  obtain ⟨c0, c1⟩ := box_cells HB.out (Fr.refl w1 (fun j => j = q)) hpq
  have hcall := gMedian_any C w0 HO.out (a - 1) a (a + 1) q s d w1 ⟨HW.out, HA.out.2.newer HF1.out (fun i hi => hi ▸ Hq.out)⟩ (by omega) (by omega) (by omega) Hq.out HC1.out (by omega)
  rw [show (((a - 1 : Nat)) : Int) = (a : Int) - 1 by omega, show (((a + 1 : Nat)) : Int) = (a : Int) + 1 by omega] at hcall
  go_wp2_with fail
  refine hcall.mono ?_
  rintro e x1 ⟨⟨r, rfl, hor⟩, s1, hs1, hc, ho, hf⟩
  have G1 : Hid (x1.heap[q]? = some (.cells #[.int .i64 (s1 : Int)] 3 (0, 0)) ∧ C.own x1 d ∧ Fr w1 x1 (fun j => j = q)) := ⟨hc, ho, hf⟩
  clear hcall c0 c1 hc ho hf
  go_wp2_with fail
  go_ret
  exact ⟨⟨r, rfl, by omega, by omega⟩, s1, by omega, G1.out.1, G1.out.2.1, HF1.out.trans G1.out.2.2 (fun _ _ h => h)⟩

end

end Go.Proofs.Ythdlhdeaeaahoaa

/-
  The contract of the seat's Late.
-/
import Derived.Test.YtpeibameegjefaaDoorXHist
namespace Go.Proofs.YtpeibameegjefaaDoor
open Go.RowKit

/-- The same, as late as may be. -/
def lateF (evs : List Ev) : List Ev := match evs.getLast? with
  | none => []
  | some y => evs.map fun x => (x.1 + (4611686018427387903 - y.1), x.2.1, x.2.2)
theorem lateF_length (evs : List Ev) : (lateF evs).length = evs.length := by
  unfold lateF
  cases h : evs.getLast? with
  | none => rw [List.getLast?_eq_none_iff.1 h]
  | some y => simp

set_option maxRecDepth 4000 in
set_option maxHeartbeats 1600000 in
theorem seatLate_any (n : Nat) (v : Value) (evs : List Ev) (w : World) (h : RdV w v evs) (hl : evs.length ≤ 1000000) (hb : ∀ x ∈ evs, 0 ≤ x.1 ∧ x.1 ≤ 4611686018427387903) : Calls Tryd.prog 10 #[histV n v] w fun r w' => (∃ v', r = .returned (histV n v') ∧ RdV w' v' (lateF evs)) ∧ Fr w w' (fun _ => False) := by
  obtain ⟨a0, c0, rfl, hc0⟩ := h.form
  obtain ⟨m, hm⟩ : ∃ m, m = evs.length := ⟨_, rfl⟩
  rw [← hm] at h hl hc0 ⊢
  obtain ⟨RES, hRES⟩ : ∃ R, R = lateF evs := ⟨_, rfl⟩
  rw [← hRES]
  have HRES : Hid _ := hRES
  have Hr : Hid (RdV w (.slice a0 m c0) evs) := h
  have Hm : Hid _ := hm
  have Hb : Hid _ := hb
  clear h hm hRES hb
  unfold histV
  go_enter Tryd.func10, Tryd.ntmps10
  go_upto_region 1 with fail
  obtain ⟨p1, hp1⟩ : ∃ p, p = w.heap.size := ⟨_, rfl⟩
  obtain ⟨p2, hp2⟩ : ∃ p, p = p1 + 1 := ⟨_, rfl⟩
  obtain ⟨wa, hwa⟩ : ∃ wa, wa = (w.alloc (.cells #[.int .u64 (n : Int), .slice a0 m c0] 25)).alloc (.cells #[.int .u64 0, .slice none 0 0] 25) := ⟨_, rfl⟩
  rw [← hwa, ← hp1, ← hp2]
  have Hb1 : Hid (wa.heap[p1]? = some (.cells #[.int .u64 (n : Int), .slice a0 m c0] 25 (0, 0))) := by show _ = _; rw [hwa, hp1]; exact blk_alloc _ (heap_alloc_new _ _)
  have Hb2 : Hid (wa.heap[p2]? = some (.cells #[.int .u64 0, .slice none 0 0] 25 (0, 0))) := by
    show _ = _
    have := heap_alloc_new (w.alloc (.cells #[.int .u64 (n : Int), .slice a0 m c0] 25)) (.cells #[.int .u64 0, .slice none 0 0] 25)
    rw [hwa, hp2, hp1]
    simpa using this
  have Hwa : Hid (Fr w wa (fun _ => False)) := by show Fr _ _ _; rw [hwa]; exact ((Fr.refl _ _).alloc _).alloc _
  have Hp1 : Hid (w.heap.size ≤ p1) := by show _ ≤ _; omega
  have Hp2 : Hid (p1 < p2) := by show _ < _; omega
  clear hp1 hp2 hwa
  obtain ⟨ca, cb⟩ : wa.cell? ⟨p1, 0, none⟩ = some (.int .u64 (n : Int)) ∧ wa.cell? ⟨p1, 1, none⟩ = some (.slice a0 m c0) := ⟨two_cell0 Hb1.out, two_cell1 Hb1.out⟩
  by_cases h0 : m = 0
  · subst h0
    obtain ⟨e0', e1'⟩ : wa.cell? ⟨p2, 0, none⟩ = some (.int .u64 0) ∧ wa.cell? ⟨p2, 1, none⟩ = some (.slice none 0 0) := ⟨two_cell0 Hb2.out, two_cell1 Hb2.out⟩
    have f0' : wa.frozen? ⟨p2, 0, none⟩ = false := two_free Hb2.out 0
    have f1' : wa.frozen? ⟨p2, 1, none⟩ = false := two_free Hb2.out 1
    have he : evs = [] := List.eq_nil_of_length_eq_zero Hm.out.symm
    have Hres : Hid (RES = []) := by show _ = _; rw [HRES.out, he]; rfl
    have Hfin : Hid (Fr w ((wa.setCell ⟨p2, 0, none⟩ (.int .u64 (n : Int))).setCell ⟨p2, 1, none⟩ (.slice a0 0 c0)) (fun _ => False)) := Hwa.out.newer ((fr_cell wa _ _ _).trans (fr_cell _ _ _ _) (fun _ _ h => h)) (fun i hi => by have h1 := Hp1.out; have h2 := Hp2.out; omega)
    have Hrow : Hid _ := two_set1 (two_set0 Hb2.out (u := .int .u64 (n : Int))) (u := .slice a0 0 c0)
    have Hro : Hid (RdV ((wa.setCell ⟨p2, 0, none⟩ (.int .u64 (n : Int))).setCell ⟨p2, 1, none⟩ (.slice a0 0 c0)) (.slice a0 0 c0) RES) := by
      show RdV _ _ _
      rw [Hres.out, ← he]
      exact Hr.out.keep Hfin.out
    clear he
    go_wp2
    refine bodyPost_ret (results_cell1 rfl rfl (run_loadVar_row _ _ 25 _ _ (0, 0) _ Hrow.out Tryd.underlying25 rfl histSize)) rfl ?_
    exact ⟨⟨_, rfl, Hro.out⟩, Hfin.out⟩
  · have d1 : ((m : Int) == 0) = false := by rw [beq_eq_false_iff_ne]; omega
    have d1' : (m == 0) = false := by rw [beq_eq_false_iff_ne]; exact h0
    obtain ⟨m1, hm1⟩ : ∃ k, m = k + 1 := ⟨m - 1, by omega⟩
    have hsub : IntKind.i64.wrap ((m : Int) - 1) = (m1 : Int) := by rw [IntWalk.i64_in _ (by omega)]; omega
    have hsub' : (m : Int) - 1 = (m1 : Int) := by omega
    have hm1m : (m1 : Int) < (m : Int) := by omega
    have hm10 : (0 : Int) ≤ (m1 : Int) := by omega
    obtain ⟨⟨y, ⟨y1, y2⟩, yb⟩, hy⟩ : ∃ a, evs[m1]? = some a := ⟨_, List.getElem?_eq_getElem (by rw [← Hm.out]; omega)⟩
    have hyb := Hb.out _ (List.mem_of_getElem? hy)
    have hlast : evs.getLast? = some (y, (y1, y2), yb) := by rw [List.getLast?_eq_getElem?, ← Hm.out, hm1]; exact hy
    obtain ⟨d, hd⟩ : ∃ d, d = 4611686018427387903 - y := ⟨_, rfl⟩
    have hdb : 0 ≤ d ∧ d ≤ 4611686018427387903 := by rw [hd]; dsimp only at hyb; omega
    have HR2 : Hid (RES = evs.map fun x => (x.1 + d, x.2.1, x.2.2)) := by show _ = _; rw [HRES.out, hd]; unfold lateF; rw [hlast]
    have wd : IntKind.i64.wrap (4611686018427387903 - y) = d := by rw [← hd]; exact IntWalk.i64_in _ (by omega)
    have wd2 : 4611686018427387903 - y = d := hd.symm
    obtain ⟨bk, off, cap, e3, hbk, hca⟩ := Hr.out.get m1 _ hy
    simp only [Value.slice.injEq] at e3
    obtain ⟨rfl, -, rfl⟩ := e3
    have k0 := (hca wa (Hwa.out.mono (fun _ _ h => h.elim))).1
    have Hdb : Hid _ := hdb
    clear hm1 hy hyb hlast hd hdb hca hbk HRES wd2 hsub' h0
    go_upto_region 6 with fail
    clear k0
    obtain ⟨p5, hp5⟩ : ∃ p, p = wa.heap.size := ⟨_, rfl⟩
    obtain ⟨w5, hw5⟩ : ∃ x, x = wa.alloc (.cells #[.int .u64 (n : Int), .slice none 0 0] 25) := ⟨_, rfl⟩
    rw [← hw5, ← hp5]
    have H5 : Hid (w5.heap[p5]? = some (.cells #[.int .u64 (n : Int), .slice none 0 0] 25 (0, 0))) := by show _ = _; rw [hw5, hp5]; exact heap_alloc_new _ _
    have Hw5 : Hid (Fr w w5 (fun _ => False)) := by show Fr _ _ _; rw [hw5]; exact Hwa.out.alloc _
    have Hp5 : Hid (p2 < p5) := by show _ < _; rw [hp5]; exact lt_of_block Hb2.out
    have Hb1 : Hid (∀ z, Fr w5 z (fun k => k = p5) → z.heap[p1]? = some (.cells #[.int .u64 (n : Int), .slice (some ⟨bk, off, none⟩) m c0] 25 (0, 0))) := fun z hz => hz.kept (by rw [hw5]; exact blk_alloc _ Hb1.out) (fun h => by have h1 := Hp2.out; have h2 := Hp5.out; omega)
    have Hb2 : Hid (∀ z, Fr w5 z (fun k => k = p5) → z.heap[p2]? = some (.cells #[.int .u64 0, .slice none 0 0] 25 (0, 0))) := fun z hz => hz.kept (by rw [hw5]; exact blk_alloc _ Hb2.out) (fun h => by have h2 := Hp5.out; omega)
    have H5w : Hid (p5 < w5.heap.size) := lt_of_block H5.out
    clear hp5 hw5 ca cb
    go_wp2_with fail
    go_loopg [6] m (fun g I wr => ∃ (j : Nat) (hv : Value), g = m - j ∧ j ≤ m ∧ I = .int .i64 (j : Int) ∧ wr.heap[p5]? = some (.cells #[.int .u64 (n : Int), hv] 25 (0, 0)) ∧ OwnV wr hv (RES.take j) ∧ (∀ k, hv.ownBlock = some k → w5.heap.size ≤ k) ∧ Fr w5 wr (fun k => k = p5))
    case atStart => exact ⟨0, _, by omega, by omega, rfl, H5.out, OwnV.nil _, fun k hk => (by simp [Value.ownBlock] at hk), Fr.refl _ _⟩
    case round =>
      obtain ⟨j, hv, hg, hj, rfl, hp5, hov, hvn, hf⟩ := hrel
      have Hg : Hid _ := hg
      have H5r : Hid _ := hp5
      have Hov : Hid (OwnV wr hv (RES.take j)) := hov
      have Hvc : Hid (∀ k, hv.ownBlock = some k → w5.heap.size ≤ k) := hvn
      have Hvn : Hid (∀ k, hv.ownBlock = some k → p5 < k) := fun k hk => by have h1 := Hvc.out k hk; have h2 := H5w.out; omega
      have Hf2 : Hid (Fr w5 wr (fun k => k = p5)) := hf
      have Hfw : Hid (Fr w wr (fun _ => False)) := Hw5.out.newer hf (fun i hi => by have h1 := Hp1.out; have h2 := Hp2.out; have h3 := Hp5.out; omega)
      clear hg hp5 hov hvn hf
      have Hlen : Hid ((RES.take j).length = j) := by show _ = _; rw [List.length_take, HR2.out, List.length_map, ← Hm.out]; omega
      by_cases hlt : j < m
      · have hin : (j : Int) < (m : Int) := by omega
        have hin' : decide (j < m) = true := decide_eq_true hlt
        obtain ⟨⟨s, ⟨f1, f2⟩, ax⟩, ha⟩ : ∃ a, evs[j]? = some a := ⟨_, List.getElem?_eq_getElem (by rw [← Hm.out]; omega)⟩
        have hsb := Hb.out _ (List.mem_of_getElem? ha)
        obtain ⟨bk', off', cap', e4, hbk, hca⟩ := (Hr.out.keep Hfw.out).get j _ ha
        simp only [Value.slice.injEq, Option.some.injEq, Addr.mk.injEq] at e4
        obtain ⟨⟨rfl, rfl, -⟩, -, rfl⟩ := e4
        obtain ⟨k0, k1, k2, k3⟩ := hca wr (Fr.refl _ _)
        obtain ⟨ca, cb⟩ : wr.cell? ⟨p1, 0, none⟩ = some (.int .u64 (n : Int)) ∧ wr.cell? ⟨p1, 1, none⟩ = some (.slice (some ⟨bk, off, none⟩) m c0) := ⟨two_cell0 (Hb1.out wr Hf2.out), two_cell1 (Hb1.out wr Hf2.out)⟩
        have hj0 : (0 : Int) ≤ (j : Int) := by omega
        obtain ⟨s2, hs2⟩ : ∃ x, x = s + d := ⟨_, rfl⟩
        have Hst3 : Hid (RES.take (j + 1) = RES.take j ++ [(s2, (f1, f2), ax)]) := by
          show _ = _
          rw [List.take_add_one, HR2.out, List.getElem?_map, ha, hs2]
          rfl
        have wsd : IntKind.i64.wrap (s + d) = s2 := by rw [hs2]; have h1 := Hdb.out; dsimp only at hsb; exact IntWalk.i64_in _ (by omega)
        have wsd2 : wrap64 (s + d) = s2 := by rw [hs2]; have h1 := Hdb.out; dsimp only at hsb; exact IntWalk.wrap64_in _ (by omega)
        clear hca hbk ha hs2 hsb
        go_upto_region 10 with fail
        obtain ⟨p13, hp13⟩ : ∃ p, p = wr.heap.size := ⟨_, rfl⟩
        rw [← hp13]
        obtain ⟨wE, hwE⟩ : ∃ x, x = wr.alloc (.cells #[.int .i64 s, .int .u32 (f1 : Int), .int .u32 (f2 : Int), .bool ax] 61) := ⟨_, rfl⟩
        rw [← hwE]
        have HfE : Hid (Fr wr wE (fun _ => False)) := by show Fr _ _ _; rw [hwE]; exact (Fr.refl _ _).alloc _
        have H13 : Hid (wE.heap[p13]? = some (.cells #[.int .i64 s, .int .u32 (f1 : Int), .int .u32 (f2 : Int), .bool ax] 61 (0, 0))) := by show _ = _; rw [hwE, hp13]; exact heap_alloc_new _ _
        have Hp13 : Hid (wr.heap.size = p13) := hp13.symm
        clear k0 k1 k2 k3 ca cb hp13 hwE
        obtain ⟨k0, k1, k2, k3⟩ := four_cells H13.out
        have fz : wE.frozen? ⟨p13, 0, none⟩ = false := four_free H13.out
        go_upto_region 11 with fail
        have H13c := four_put0 H13.out (.int .i64 s2)
        have Hx2 : Hid (Fr wr (wE.setCell ⟨p13, 0, none⟩ (.int .i64 s2)) (fun _ => False)) := Fr.newer HfE.out (fr_cell wE _ _ _) (fun j h => by subst h; rw [← Hp13.out]; exact Nat.le_refl _)
        clear k0 k1 k2 k3 fz wsd wsd2
        generalize wE.setCell ⟨p13, 0, none⟩ (.int .i64 s2) = x3 at H13c Hx2 ⊢
        have H5c3 : Hid (x3.heap[p5]? = some (.cells #[.int .u64 (n : Int), hv] 25 (0, 0))) := Hx2.out.kept H5r.out (fun h => h)
        obtain ⟨k0, k1, k2, k3⟩ := four_cells H13c
        obtain ⟨c0', c1'⟩ : x3.cell? ⟨p5, 0, none⟩ = some (.int .u64 (n : Int)) ∧ x3.cell? ⟨p5, 1, none⟩ = some hv := ⟨two_cell0 H5c3.out, two_cell1 H5c3.out⟩
        obtain ⟨v4, w4, hrun4, ho4, hf4, hm4⟩ := app_event x3 hv (RES.take j) (s2, (f1, f2), ax) (Hov.out.frame Hx2.out (fun _ _ h => h)) (by rw [Hlen.out]; omega)
        obtain ⟨ao4, l4, cp4, rfl⟩ : ∃ a l c, v4 = .slice a l c := by obtain ⟨a, c, e, -⟩ := ho4.rd.form; exact ⟨a, _, c, e⟩
        have hov3 := Hov.out.lt
        have H5c4 : w4.heap[p5]? = some (.cells #[.int .u64 (n : Int), hv] 25 (0, 0)) := hf4.kept (blk_alloc _ H5c3.out) (fun h => by have := Hvn.out _ h; omega)
        have hfr : w4.frozen? ⟨p5, 1, none⟩ = false := two_free H5c4 1
        obtain ⟨c0'', c1''⟩ : w4.cell? ⟨p5, 0, none⟩ = some (.int .u64 (n : Int)) ∧ w4.cell? ⟨p5, 1, none⟩ = some hv := ⟨two_cell0 H5c4, two_cell1 H5c4⟩
        have Ho4 : Hid (OwnV w4 (.slice ao4 l4 cp4) (RES.take j ++ [(s2, (f1, f2), ax)])) := ho4
        have Hf4 : Hid (Fr x3 w4 (fun k => hv.ownBlock = some k)) := ((Fr.refl x3 (fun k => hv.ownBlock = some k)).alloc _).trans hf4 (fun _ _ h => h)
        have Hm4 : Hid _ := hm4
        have H5d : Hid _ := H5c4
        have Hov3 : Hid _ := hov3
        clear ho4 hf4 hm4 H5c4 hov3 H13c
        go_wp2_with (at_builtin; refine wpList_append_run rfl (.tmp 41) (.tmp 43) 23 rfl rfl rfl hrun4 ?_)
        have Hfr4 : Hid (Fr wr w4 (fun k => hv.ownBlock = some k)) := (Hx2.out.mono (fun _ _ h => h.elim)).trans Hf4.out (fun _ _ h => h)
        have Hfin : Hid (Fr w5 (w4.setCell ⟨p5, 1, none⟩ (.slice ao4 l4 cp4)) (fun k => k = p5)) := by
          have h1 : Fr w5 w4 (fun k => k = p5) := Fr.newer Hf2.out Hfr4.out (fun i hi => Hvc.out i hi)
          exact h1.trans (fr_cell w4 _ _ _) (fun _ _ h => h)
        have H5e : Hid ((w4.setCell ⟨p5, 1, none⟩ (.slice ao4 l4 cp4)).heap[p5]? = some (.cells #[.int .u64 (n : Int), .slice ao4 l4 cp4] 25 (0, 0))) := two_set1 H5d.out
        have Ho5 : Hid (OwnV (w4.setCell ⟨p5, 1, none⟩ (.slice ao4 l4 cp4)) (.slice ao4 l4 cp4) (RES.take (j + 1))) := by
          show OwnV _ _ _
          rw [Hst3.out]
          refine Ho4.out.frame (fr_cell w4 _ _ _) (fun k hk h => ?_)
          rcases Hm4.out k hk with h2 | h2
          · have := Hvn.out k h2; omega
          · have := lt_of_block H5c3.out; omega
        have Hvn5 : Hid (∀ k, (Value.slice ao4 l4 cp4).ownBlock = some k → w5.heap.size ≤ k) := fun k hk => by
          rcases Hm4.out k hk with h2 | h2
          · exact Hvc.out k h2
          · have h3 := Hf2.out.size; have h4 := Hx2.out.size; omega
        generalize w4.setCell ⟨p5, 1, none⟩ (.slice ao4 l4 cp4) = w9 at Hfin H5e Ho5 ⊢
        go_wp2_with fail
        go_roundg (m - (j + 1))
        case rel => exact ⟨j + 1, _, rfl, by omega, by go_num, H5e.out, Ho5.out, Hvn5.out, Hfin.out⟩
        case measure => rw [Hg.out]; omega
      · have hin : ¬ (j : Int) < (m : Int) := by omega
        have hin' : decide (j < m) = false := decide_eq_false hlt
        obtain rfl : j = m := by omega
        obtain ⟨ao, cp, rfl⟩ : ∃ a c, hv = .slice a j c := by obtain ⟨a, c, e, -⟩ := Hov.out.rd.form; rw [Hlen.out] at e; exact ⟨a, c, e⟩
        have Hall : Hid (RES.take j = RES) := by show _ = _; exact List.take_of_length_le (by rw [HR2.out, List.length_map, ← Hm.out]; exact Nat.le_refl _)
        have H4r : Hid (wr.heap[p2]? = some (.cells #[.int .u64 0, .slice none 0 0] 25 (0, 0))) := Hb2.out wr Hf2.out
        obtain ⟨c0', c1'⟩ : wr.cell? ⟨p5, 0, none⟩ = some (.int .u64 (n : Int)) ∧ wr.cell? ⟨p5, 1, none⟩ = some (.slice ao j cp) := ⟨two_cell0 H5r.out, two_cell1 H5r.out⟩
        obtain ⟨e0', e1'⟩ : wr.cell? ⟨p2, 0, none⟩ = some (.int .u64 0) ∧ wr.cell? ⟨p2, 1, none⟩ = some (.slice none 0 0) := ⟨two_cell0 H4r.out, two_cell1 H4r.out⟩
        have f0' : wr.frozen? ⟨p2, 0, none⟩ = false := two_free H4r.out 0
        have f1' : wr.frozen? ⟨p2, 1, none⟩ = false := two_free H4r.out 1
        have Hfin : Hid (Fr w ((wr.setCell ⟨p2, 0, none⟩ (.int .u64 (n : Int))).setCell ⟨p2, 1, none⟩ (.slice ao j cp)) (fun _ => False)) := Hfw.out.newer ((fr_cell wr _ _ _).trans (fr_cell _ _ _ _) (fun _ _ h => h)) (fun i hi => by have h2 := Hp1.out; have h3 := Hp2.out; omega)
        have Hof : Hid (OwnV ((wr.setCell ⟨p2, 0, none⟩ (.int .u64 (n : Int))).setCell ⟨p2, 1, none⟩ (.slice ao j cp)) (.slice ao j cp) RES) := by
          have h1 : OwnV wr (.slice ao j cp) RES := by rw [← Hall.out]; exact Hov.out
          exact h1.frame ((fr_cell wr _ _ _).trans (fr_cell _ _ _ _) (fun _ _ h => h)) (fun i hi h => by have h2 := Hvn.out i hi; have h3 := Hp5.out; omega)
        have Hrow : Hid _ := two_set1 (two_set0 H4r.out (u := .int .u64 (n : Int))) (u := .slice ao j cp)
        go_wp2
        refine bodyPost_ret (results_cell1 rfl rfl (run_loadVar_row _ _ 25 _ _ (0, 0) _ Hrow.out Tryd.underlying25 rfl histSize)) rfl ?_
        exact ⟨⟨_, rfl, Hof.out.rd⟩, Hfin.out⟩

end Go.Proofs.YtpeibameegjefaaDoor

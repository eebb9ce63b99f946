/-
  The walk of the law HistoryTells, under the condition that the program's functions answer as their contracts say.
-/
import Derived.Test.YtojeaggnknnnoaaRows
import Derived.Test.YtojeaggnknnnoaaXHI
import Derived.Test.YtojeaggnknnnoaaXHist
import Derived.Test.YtojeaggnknnnoaaXParts
import Derived.Test.YtojeaggnknnnoaaXArg
import Derived.Test.YtojeaggnknnnoaaXLate
import Derived.Test.YtojeaggnknnnoaaXSame
namespace Go.Proofs.Ytojeaggnknnnoaa.historyTells
open Go.ChangeShapes Go.WideShapes Go.ChangeAt Go.RowKit

theorem eu8 (n : Int) (h : (Lit.int .u8 n).wf = true) : 0 ≤ n ∧ n < (256 : Nat) := by have := bounds_u8 h; omega
theorem ebelow {w w' : World} (h : Fr w w' (fun _ => False)) : Below w.heap.size w w' := h.below (Nat.le_refl _) (fun _ h => h.elim)

def and15 (z : Int) : Nat := (BitVec.ofInt 64 z &&& 15#64).toNat
theorem and15_le (z : Int) : and15 z ≤ 15 := by
  unfold and15
  rw [BitVec.toNat_and]
  exact Nat.and_le_right
theorem and15_is (z : Int) : bits .and .i64 z 15 = ((and15 z : Nat) : Int) := by
  have h := and15_le z
  show IntKind.i64.wrap ((BitVec.ofInt 64 z &&& BitVec.ofInt 64 15).toNat : Int) = _
  rw [show BitVec.ofInt 64 15 = 15#64 by decide]
  exact IntWalk.i64_in _ (by unfold and15 at h; omega)

/-- A history of a list: its vertices, its slice, its events. -/
abbrev Hs := Nat × (Option Addr × Nat × Nat) × List Ev
def encH (x : Hs) : List Value := [.int .u64 (x.1 : Int), .slice x.2.1.1 x.2.1.2.1 x.2.1.2.2]
def HsOk (w : World) (x : Hs) : Prop := x.1 < 18446744073709551616 ∧ RdV w (.slice x.2.1.1 x.2.1.2.1 x.2.1.2.2) x.2.2 ∧ x.2.2.length ≤ 100 ∧ (∀ y ∈ x.2.2, EvFit y) ∧ x.2.1.2.1 = x.2.2.length
theorem HsOk.keep {w w' : World} {x : Hs} (h : HsOk w x) (f : Fr w w' (fun _ => False)) : HsOk w' x := ⟨h.1, h.2.1.keep f, h.2.2⟩
theorem hrow_get : ∀ (xs : List Hs) (i : Nat) (x : Hs), xs[i]? = some x → (xs.flatMap encH)[i * 2]? = some (.int .u64 (x.1 : Int)) ∧ (xs.flatMap encH)[i * 2 + 1]? = some (.slice x.2.1.1 x.2.1.2.1 x.2.1.2.2)
  | [], i, x, h => by simp at h
  | y :: r, 0, x, h => by
    simp only [List.getElem?_cons_zero, Option.some.injEq] at h
    subst h
    simp [encH]
  | y :: r, i + 1, x, h => by
    simp only [List.getElem?_cons_succ] at h
    have ih := hrow_get r i x h
    rw [List.flatMap_cons, show (i + 1) * 2 = i * 2 + 2 by omega]
    rw [List.getElem?_append_right (by simp [encH]), List.getElem?_append_right (by simp [encH])]
    simpa [encH] using ih
theorem last_none {E : List Ev} (h : E.length = 0) : lastF E = -1 := by
  rw [List.eq_nil_of_length_eq_zero h]
  rfl
theorem last_some {E : List Ev} {l : Nat} {y : Ev} (h : E.length = l + 1) (hy : E[l]? = some y) : lastF E = y.1 := by
  unfold lastF
  rw [List.getLast?_eq_getElem?, h, Nat.add_sub_cancel, hy]
theorem late_fit {E : List Ev} (hE : ∀ x ∈ E, 0 ≤ x.1 ∧ x.1 ≤ 4611686018427387903) (hf : ∀ x ∈ E, EvFit x) : ∀ x ∈ lateF E, EvFit x := fun x hx => by
  unfold lateF at hx
  cases h : E.getLast? with
  | none => rw [h] at hx; cases hx
  | some y =>
    rw [h] at hx
    obtain ⟨a, ha, rfl⟩ := List.mem_map.1 hx
    have h1 := hE a ha
    have h2 := hE y (List.mem_of_getLast? h)
    have h3 := hf a ha
    unfold EvFit at h3 ⊢
    dsimp only
    omega

set_option maxRecDepth 4000 in
set_option maxHeartbeats 6400000 in
theorem walkM (M : HI) (n0 : Nat) (a0 : Option Addr) (len0 cap0 : Nat) (a1 : Int) (a2 : Option Addr) (len2 cap2 : Nat) (z2 : List Int) (a3 a4 a5 a6 a7 : Int) (w : World) (w0 : n0 < 18446744073709551616 ∧ IsEvents w a0 len0 cap0) (w1 : (Lit.int .u8 a1).wf = true) (w2 : IsRow .u8 w a2 len2 cap2 z2) (w3 : (Lit.int .u8 a3).wf = true) (w4 : (Lit.int .u8 a4).wf = true) (w5 : (Lit.int .i64 a5).wf = true) (w6 : (Lit.int .u8 a6).wf = true) (w7 : (Lit.int .i64 a7).wf = true) :
    Calls Try.prog 3 #[histV n0 (.slice a0 len0 cap0), .int .u8 a1, .slice a2 len2 cap2, .int .u8 a3, .int .u8 a4, .int .i64 a5, .int .u8 a6, .int .i64 a7] w fun e w' => e = .returned (.bool true) ∧ Below w.heap.size w w' := by
  obtain ⟨bs, hbl, hbb, hbr, -⟩ := reads_isRow eu8 (by decide) w2
  obtain ⟨k, rfl⟩ : ∃ k : Nat, a1 = (k : Int) := ⟨a1.toNat, by have := eu8 a1 w1; omega⟩
  have hk := (eu8 _ w1).2
  have Hk : Hid (k < 256) := by show _ < _; omega
  have Hbs : Hid (Reads .u8 w (.slice a2 len2 cap2) bs) := hbr
  have Hbb : Hid (∀ x ∈ bs, x < 256) := fun x hx => by
    obtain ⟨i, hi⟩ := List.getElem?_of_mem hx
    have := hbb i
    rw [List.getD_eq_getElem?_getD, hi] at this
    exact this
  have Hbl : Hid _ := hbl
  clear hbl hbb hbr hk
  obtain ⟨wh, rfl⟩ : ∃ k : Nat, a3 = (k : Int) := ⟨a3.toNat, by have := eu8 a3 w3; omega⟩
  obtain ⟨at_, rfl⟩ : ∃ k : Nat, a4 = (k : Int) := ⟨a4.toNat, by have := eu8 a4 w4; omega⟩
  obtain ⟨mo, rfl⟩ : ∃ k : Nat, a6 = (k : Int) := ⟨a6.toNat, by have := eu8 a6 w6; omega⟩
  have Hc : Hid (wh < 256 ∧ at_ < 256 ∧ mo < 256) := by have h1 := eu8 _ w3; have h2 := eu8 _ w4; have h3 := eu8 _ w6; refine ⟨?_, ?_, ?_⟩ <;> omega
  have Hz : Hid (-9223372036854775808 ≤ a5 ∧ a5 ≤ 9223372036854775807) := by have := bounds_i64 w5; show _ ∧ _; omega
  have Hz7 : Hid (-9223372036854775808 ≤ a7 ∧ a7 ≤ 9223372036854775807) := by have := bounds_i64 w7; show _ ∧ _; omega
  obtain ⟨hn0, raw, hml, hmr, hmf⟩ := w0
  have Hn0 : Hid _ := hn0
  have Hml : Hid _ := hml
  have Hmr : Hid (RdV w (.slice a0 len0 cap0) raw) := hmr
  have Hmf : Hid _ := hmf
  clear w1 w2 w3 w4 w5 w6 w7 hn0 hml hmr hmf
  unfold histV
  go_enter Try.func3, Try.ntmps3
  go_wp2_with fail
  obtain ⟨p8, hp8⟩ : ∃ p, p = w.heap.size := ⟨_, rfl⟩
  obtain ⟨wa, hwa⟩ : ∃ wa, wa = w.alloc (.cells #[.int .u64 (n0 : Int), .slice a0 len0 cap0] 25) := ⟨_, rfl⟩
  rw [← hwa, ← hp8]
  have Q8 : Hid (∀ z, Fr wa z (fun _ => False) → z.heap[p8]? = some (.cells #[.int .u64 (n0 : Int), .slice a0 len0 cap0] 25 (0, 0))) := fun z hz => hz.kept (by rw [hwa, hp8]; exact heap_alloc_new _ _) (fun h => h)
  have Hwa : Hid (Fr w wa (fun _ => False)) := by show Fr _ _ _; rw [hwa]; exact (Fr.refl _ _).alloc _
  clear hp8 hwa
  refine (hknown_any M wa).mono ?_
  rintro e w1 ⟨rfl, hf1⟩
  have H81 : Hid (Fr wa w1 (fun _ => False)) := hf1
  have Hf1 : Hid (Fr w w1 (fun _ => False)) := Hwa.out.none hf1
  clear hf1
  obtain ⟨ka, kb⟩ : w1.cell? ⟨p8, 0, none⟩ = some (.int .u64 (n0 : Int)) ∧ w1.cell? ⟨p8, 1, none⟩ = some (.slice a0 len0 cap0) := ⟨two_cell0 (Q8.out _ H81.out), two_cell1 (Q8.out _ H81.out)⟩
  by_cases h20 : 20 < len0
  · have d2 : decide ((20 : Int) < (len0 : Int)) = true := decide_eq_true (by omega)
    have d2' : decide (20 < len0) = true := decide_eq_true h20
    go_wp2
    go_ret
    exact ⟨rfl, ebelow Hf1.out⟩
  have d2 : decide ((20 : Int) < (len0 : Int)) = false := decide_eq_false (by omega)
  have d2' : decide (20 < len0) = false := decide_eq_false h20
  have Hl20 : Hid (raw.length ≤ 20) := by have := Hml.out; exact (by omega : raw.length ≤ 20)
  clear h20
  by_cases h60 : 60 < len2
  · have d1 : decide ((60 : Int) < (len2 : Int)) = true := decide_eq_true (by omega)
    have d1' : decide (60 < len2) = true := decide_eq_true h60
    go_wp2
    go_ret
    exact ⟨rfl, ebelow Hf1.out⟩
  have d1 : decide ((60 : Int) < (len2 : Int)) = false := decide_eq_false (by omega)
  have d1' : decide (60 < len2) = false := decide_eq_false h60
  have Hl60 : Hid (bs.length ≤ 60) := by have := Hbl.out; exact (by omega : bs.length ≤ 60)
  clear h60
  go_wp2_with fail
  refine (seatHistory_any k _ bs _ (Hbs.out.keep Hf1.out) Hbb.out (by have := Hl60.out; omega) Hk.out).mono ?_
  rintro r w2 ⟨⟨v2, rfl, hr2, -⟩, g⟩
  obtain ⟨n, hn⟩ : ∃ n, n = vertF k := ⟨_, rfl⟩
  obtain ⟨E, hE⟩ : ∃ E, E = histE k bs := ⟨_, rfl⟩
  have hnb := vertF_bounds k
  have hEl := hist_length k bs
  have hEo := hist_ok k bs
  have hEs := hist_sorted k bs
  have hEr := hist_right k bs (by have := Hl60.out; omega)
  rw [← hn] at hnb hEo hEr ⊢
  rw [← hE] at hEl hEo hEs hr2 hEr
  have Hn : Hid (n < 18446744073709551616 ∧ n ≤ 4294967296) := by constructor <;> omega
  have HEl : Hid (E.length ≤ 40) := hEl
  have HEr : Hid (checkF n E = (0, 0)) := hEr
  have HEo : Hid (∀ x ∈ E, 0 ≤ x.1 ∧ x.1 ≤ 4611686018427387903) := fun x hx => by have h1 := hEo x hx; have h2 := Hl60.out; obtain ⟨h3, h4, -⟩ := h1; constructor <;> omega
  have HEf : Hid (∀ x ∈ E, EvFit x) := fun x hx => by
    have h1 := hEo x hx
    obtain ⟨h3, h4⟩ := HEo.out x hx
    obtain ⟨-, -, h5⟩ := h1
    unfold eRight at h5
    have h6 := of_decide_eq_true h5
    have h7 := Hn.out
    unfold EvFit
    omega
  have HEs : Hid (SortedT E) := sorted_times hEs
  obtain ⟨a2', c2', rfl, hmc⟩ := RdV.form hr2
  obtain ⟨m, hm⟩ : ∃ m, m = E.length := ⟨_, rfl⟩
  rw [← hm] at hr2 hmc ⊢
  have Hm : Hid _ := hm
  have Hr2 : Hid (RdV w2 (.slice a2' m c2') E) := hr2
  have Hf2 : Hid (Fr w w2 (fun _ => False)) := Hf1.out.none g
  have H12 : Fr w1 w2 (fun _ => False) := g
  have hm40 : m ≤ 40 := by omega
  clear g hn hE hnb hEl hEo hEs hr2 hm hEr
  unfold histV
  go_upto_region 6 with fail
  obtain ⟨p17, hp17⟩ : ∃ p, p = w2.heap.size := ⟨_, rfl⟩
  obtain ⟨w3, hw3⟩ : ∃ x, x = w2.alloc (.cells #[.int .u64 (n : Int), .slice a2' m c2'] 25) := ⟨_, rfl⟩
  rw [← hw3, ← hp17]
  have Q17 : Hid (∀ z, Fr w3 z (fun _ => False) → z.heap[p17]? = some (.cells #[.int .u64 (n : Int), .slice a2' m c2'] 25 (0, 0))) := fun z hz => hz.kept (by rw [hw3, hp17]; exact heap_alloc_new _ _) (fun h => h)
  have H23 : Hid (Fr w2 w3 (fun _ => False)) := by show Fr _ _ _; rw [hw3]; exact (Fr.refl _ _).alloc _
  have Hr3 : Hid (∀ z, Fr w3 z (fun _ => False) → RdV z (.slice a2' m c2') E) := fun z hz => Hr2.out.keep (H23.out.none hz)
  have Hw3 : Hid (Fr w w3 (fun _ => False)) := Hf2.out.none H23.out
  have H83 : Hid (Fr wa w3 (fun _ => False)) := (H81.out.none H12).none H23.out
  have Hraw : Hid (∀ z, Fr w3 z (fun _ => False) → RdV z (.slice a0 len0 cap0) raw) := fun z hz => Hmr.out.keep (Hw3.out.none hz)
  clear hp17 hw3 Hf1 Hf2 Hr2 Hbs ka kb H81 H12 H23
  obtain ⟨ka, kb⟩ : w3.cell? ⟨p17, 0, none⟩ = some (.int .u64 (n : Int)) ∧ w3.cell? ⟨p17, 1, none⟩ = some (.slice a2' m c2') := ⟨two_cell0 (Q17.out w3 (Fr.refl _ _)), two_cell1 (Q17.out w3 (Fr.refl _ _))⟩
  obtain ⟨⟨NB, EB⟩, hB⟩ : ∃ B, B = bentF n E wh at_ a5 := ⟨_, rfl⟩
  have hfit := bent_fit (n := n) (evs := E) (what := wh) (at_ := at_) Hn.out.1 Hz.out HEf.out
  rw [← hB] at hfit
  have HfB : Hid _ := hfit
  have HB : Hid _ := hB
  clear hB hfit
  go_wp2_with fail
  refine (seatBent_any n _ E wh at_ a5 _ (Hr3.out w3 (Fr.refl _ _)) (by have := HEl.out; omega) HEf.out Hc.out.1 Hc.out.2.1).mono ?_
  rw [← HB.out]
  dsimp only
  rintro r x1 ⟨⟨v1, rfl, hr1, -⟩, g⟩
  have Hr1 : Hid (RdV x1 v1 EB) := hr1
  have G1 : Hid (Fr w3 x1 (fun _ => False)) := g
  obtain ⟨ab, lb, cb, rfl⟩ : ∃ a l c, v1 = .slice a l c := by obtain ⟨a, c, e, -⟩ := hr1.form; exact ⟨a, _, c, e⟩
  have HlB : Hid (lb = EB.length) := by obtain ⟨a, c, e, -⟩ := Hr1.out.form; simp only [Value.slice.injEq] at e; exact e.2.1
  clear g hr1 ka kb
  unfold histV
  go_upto_region 7 with fail
  obtain ⟨p18, hp18⟩ : ∃ p, p = x1.heap.size := ⟨_, rfl⟩
  obtain ⟨y1, hy1⟩ : ∃ x, x = x1.alloc (.cells #[.int .u64 (NB : Int), .slice ab lb cb] 25) := ⟨_, rfl⟩
  rw [← hy1, ← hp18]
  have Q18 : Hid (∀ z, Fr y1 z (fun _ => False) → z.heap[p18]? = some (.cells #[.int .u64 (NB : Int), .slice ab lb cb] 25 (0, 0))) := fun z hz => hz.kept (by rw [hy1, hp18]; exact heap_alloc_new _ _) (fun h => h)
  have HrB : Hid (∀ z, Fr y1 z (fun _ => False) → RdV z (.slice ab lb cb) EB) := fun z hz => Hr1.out.keep ((show Fr x1 y1 (fun _ => False) by rw [hy1]; exact (Fr.refl _ _).alloc _).none hz)
  have Y1 : Hid (Fr w3 y1 (fun _ => False)) := by show Fr _ _ _; rw [hy1]; exact G1.out.alloc _
  clear hp18 hy1 Hr1 G1
  obtain ⟨x0, hx0⟩ : ∃ x, x = y1.drew := ⟨_, rfl⟩
  have G0 : Hid (Fr y1 x0 (fun _ => False)) := by show Fr _ _ _; rw [hx0]; exact (Fr.refl _ _).drew
  obtain ⟨q, hq⟩ : ∃ q, q = at_ / 2 := ⟨_, rfl⟩
  have Hq : Hid (q < 256) := by have := Hc.out; exact (by omega : q < 256)
  have wq1 : (at_ : Int) / 2 = (q : Int) := by omega
  have wq2 : (at_ : Int).tdiv 2 = (q : Int) := by rw [Int.tdiv_eq_ediv_of_nonneg (by omega)]; omega
  have wq3 : IntKind.u8.wrap (q : Int) = (q : Int) := by rw [IntKind.wrap_u8]; have := Hq.out; omega
  have wq4 : IntKind.u8.wrap ((at_ : Int) / 2) = (q : Int) := by rw [wq1]; exact wq3
  obtain ⟨zb, hzb⟩ : ∃ z, z = and15 a5 := ⟨_, rfl⟩
  have wz1 : bits .and .i64 a5 15 = (zb : Int) := by rw [hzb]; exact and15_is a5
  have Hzb : Hid (zb ≤ 15) := by rw [hzb]; exact and15_le a5
  clear hq hzb
  go_wp2_with fail
  refine wp_region_tree (fun _ => False) (.take 0 (.take 1 (.take 2 (.take 3 (.take 4 (.take 5 (.take 6 (.take 7 (.take 9 (.take 10 (.take 11 (.take 12 (.take 13 (.take 15 (.take 17 (.take 19 (.take 23 (.one 8 (.one 14 (.one 16 (.one 18 (.one 20 (.one 21 (.take 22 .nil)))))))))))))))))))))))) (by kernel_rfl) (by kernel_rfl) (by decide) (by kernel_rfl) ?_
  rw [← hx0]
  clear hx0
  have kp8a : ∀ z, Fr x0 z (fun _ => False) → z.cell? ⟨p8, 0, none⟩ = some (.int .u64 (n0 : Int)) := fun z hz => two_cell0 (Q8.out z (H83.out.none (Y1.out.none (G0.out.none hz))))
  have kp8b : ∀ z, Fr x0 z (fun _ => False) → z.cell? ⟨p8, 1, none⟩ = some (.slice a0 len0 cap0) := fun z hz => two_cell1 (Q8.out z (H83.out.none (Y1.out.none (G0.out.none hz))))
  have kp17a : ∀ z, Fr x0 z (fun _ => False) → z.cell? ⟨p17, 0, none⟩ = some (.int .u64 (n : Int)) := fun z hz => two_cell0 (Q17.out z (Y1.out.none (G0.out.none hz)))
  have kp17b : ∀ z, Fr x0 z (fun _ => False) → z.cell? ⟨p17, 1, none⟩ = some (.slice a2' m c2') := fun z hz => two_cell1 (Q17.out z (Y1.out.none (G0.out.none hz)))
  have kp18a : ∀ z, Fr x0 z (fun _ => False) → z.cell? ⟨p18, 0, none⟩ = some (.int .u64 (NB : Int)) := fun z hz => two_cell0 (Q18.out z (G0.out.none hz))
  have kp18b : ∀ z, Fr x0 z (fun _ => False) → z.cell? ⟨p18, 1, none⟩ = some (.slice ab lb cb) := fun z hz => two_cell1 (Q18.out z (G0.out.none hz))
  repeat (refine wpT_take (v := ?_) rfl rfl (fun x hx => ?_) ?_; rotate_left; (focus (go_simp; with_reducible rfl)); simp only [Act.put, List.setIfInBounds_toArray, List.set_cons_zero, List.set_cons_succ])
  clear kp8a kp8b kp17a kp17b kp18a kp18b wq1 wq2 wq3 wq4 wz1
  have hfit1 := bent_fit (n := NB) (evs := EB) (what := mo) (at_ := q) HfB.out.1 Hz7.out HfB.out.2.1
  have Hfit1 : Hid _ := hfit1
  clear hfit1
  obtain ⟨⟨N1, E1⟩, hX1⟩ : ∃ B, B = bentF NB EB mo q a7 := ⟨_, rfl⟩
  have HX1 : Hid _ := hX1
  clear hX1
  refine wpT_one rfl rfl (fun K hK => ?_)
  go_simp
  refine (seatBent_any NB _ EB mo q a7 _ (HrB.out _ G0.out) (by have h1 := HfB.out.2.2; have := HEl.out; omega) HfB.out.2.1 Hc.out.2.2 Hq.out).mono ?_
  rw [← HX1.out]
  dsimp only
  unfold histV
  rintro r x1 ⟨⟨v1, rfl, hr1, -⟩, g⟩
  have Hv1 : Hid (RdV x1 v1 E1) := hr1
  obtain ⟨b1, l1, c1, rfl⟩ : ∃ a l c, v1 = .slice a l c := by obtain ⟨a, c, e, -⟩ := hr1.form; exact ⟨a, _, c, e⟩
  have Hlx1 : Hid (l1 = E1.length) := by obtain ⟨a, c, e, -⟩ := Hv1.out.form; simp only [Value.slice.injEq] at e; exact e.2.1
  refine hK _ _ g ?_
  clear hK K hr1
  have G1 : Hid (Fr y1 x1 (fun _ => False)) := G0.out.none g
  have H01' : Hid (Fr x0 x1 (fun _ => False)) := g
  clear g
  try dsimp only
  have hfit2 := bent_fit (n := n) (evs := E) (what := wh) (at_ := at_) (z := (zb : Int)) Hn.out.1 (by have := Hzb.out; omega) HEf.out
  have Hfit2 : Hid _ := hfit2
  clear hfit2
  obtain ⟨⟨N2, E2⟩, hX2⟩ : ∃ B, B = bentF n E wh at_ (zb : Int) := ⟨_, rfl⟩
  have HX2 : Hid _ := hX2
  clear hX2
  refine wpT_one rfl rfl (fun K hK => ?_)
  go_simp
  refine (seatBent_any n _ E wh at_ (zb : Int) _ (Hr3.out _ (Y1.out.none G1.out)) (by have := HEl.out; omega) HEf.out Hc.out.1 Hc.out.2.1).mono ?_
  rw [← HX2.out]
  dsimp only
  unfold histV
  rintro r x2 ⟨⟨v2, rfl, hr2, -⟩, g⟩
  have Hv2 : Hid (RdV x2 v2 E2) := hr2
  obtain ⟨b2, l2, c2, rfl⟩ : ∃ a l c, v2 = .slice a l c := by obtain ⟨a, c, e, -⟩ := hr2.form; exact ⟨a, _, c, e⟩
  have Hlx2 : Hid (l2 = E2.length) := by obtain ⟨a, c, e, -⟩ := Hv2.out.form; simp only [Value.slice.injEq] at e; exact e.2.1
  refine hK _ _ g ?_
  clear hK K hr2
  have G2 : Hid (Fr y1 x2 (fun _ => False)) := G1.out.none g
  have H12' : Hid (Fr x1 x2 (fun _ => False)) := g
  clear g
  try dsimp only
  refine wpT_one rfl rfl (fun K hK => ?_)
  go_simp
  refine (seatLate_any n _ E _ (Hr3.out _ (Y1.out.none G2.out)) (by have := HEl.out; omega) HEo.out).mono ?_
  unfold histV
  rintro r x3 ⟨⟨v3, rfl, hr3⟩, g⟩
  have Hv3 : Hid (RdV x3 v3 (lateF E)) := hr3
  obtain ⟨b3, l3, c3, rfl⟩ : ∃ a l c, v3 = .slice a l c := by obtain ⟨a, c, e, -⟩ := hr3.form; exact ⟨a, _, c, e⟩
  have Hlx3 : Hid (l3 = (lateF E).length) := by obtain ⟨a, c, e, -⟩ := Hv3.out.form; simp only [Value.slice.injEq] at e; exact e.2.1
  refine hK _ _ g ?_
  clear hK K hr3
  have G3 : Hid (Fr y1 x3 (fun _ => False)) := G2.out.none g
  have H23' : Hid (Fr x2 x3 (fun _ => False)) := g
  clear g
  try dsimp only
  refine wpT_one rfl rfl (fun K hK => ?_)
  go_simp
  refine (seatLate_any n _ E _ (Hr3.out _ (Y1.out.none G3.out)) (by have := HEl.out; omega) HEo.out).mono ?_
  unfold histV
  rintro r x4 ⟨⟨v4, rfl, hr4⟩, g⟩
  have Hv4 : Hid (RdV x4 v4 (lateF E)) := hr4
  obtain ⟨b4, l4, c4, rfl⟩ : ∃ a l c, v4 = .slice a l c := by obtain ⟨a, c, e, -⟩ := hr4.form; exact ⟨a, _, c, e⟩
  have Hlx4 : Hid (l4 = (lateF E).length) := by obtain ⟨a, c, e, -⟩ := Hv4.out.form; simp only [Value.slice.injEq] at e; exact e.2.1
  refine hK _ _ g ?_
  clear hK K hr4
  have G4 : Hid (Fr y1 x4 (fun _ => False)) := G3.out.none g
  have H34' : Hid (Fr x3 x4 (fun _ => False)) := g
  clear g
  try dsimp only
  have HLf : Hid (∀ x ∈ lateF E, EvFit x) := late_fit HEo.out HEf.out
  have HLl : Hid ((lateF E).length ≤ 40) := by rw [lateF_length]; exact HEl.out
  have hfit5 := bent_fit (n := n) (evs := lateF E) (what := 1) (at_ := 255) (z := a5) Hn.out.1 Hz.out HLf.out
  have Hfit5 : Hid _ := hfit5
  clear hfit5
  obtain ⟨⟨N5, E5⟩, hX5⟩ : ∃ B, B = bentF n (lateF E) 1 255 a5 := ⟨_, rfl⟩
  have HX5 : Hid _ := hX5
  clear hX5
  refine wpT_one rfl rfl (fun K hK => ?_)
  go_simp
  refine (seatBent_any n _ (lateF E) 1 255 a5 _ Hv4.out (by have := HLl.out; omega) HLf.out (by decide) (by decide)).mono ?_
  rw [← HX5.out]
  dsimp only
  unfold histV
  rintro r x5 ⟨⟨v5, rfl, hr5, -⟩, g⟩
  have Hv5 : Hid (RdV x5 v5 E5) := hr5
  obtain ⟨b5, l5, c5, rfl⟩ : ∃ a l c, v5 = .slice a l c := by obtain ⟨a, c, e, -⟩ := hr5.form; exact ⟨a, _, c, e⟩
  have Hlx5 : Hid (l5 = E5.length) := by obtain ⟨a, c, e, -⟩ := Hv5.out.form; simp only [Value.slice.injEq] at e; exact e.2.1
  refine hK _ _ g ?_
  clear hK K hr5
  have G5 : Hid (Fr y1 x5 (fun _ => False)) := G4.out.none g
  have H45' : Hid (Fr x4 x5 (fun _ => False)) := g
  clear g
  try dsimp only
  refine wpT_one rfl rfl (fun K hK => ?_)
  go_simp
  refine hK _ _ ((Fr.refl x5 _).alloc _) ?_
  clear hK K
  obtain ⟨pT, hpT⟩ : ∃ p, p = x5.heap.size := ⟨_, rfl⟩
  have hlit : HoldsN 2 (x5.alloc (.cells #[.int .u64 (n0 : Int), .slice a0 len0 cap0, .int .u64 (n : Int), .slice a2' m c2', .int .u64 (NB : Int), .slice ab lb cb, .int .u64 (N1 : Int), .slice b1 l1 c1, .int .u64 (N2 : Int), .slice b2 l2 c2, .int .u64 (n : Int), .slice b3 l3 c3, .int .u64 (N5 : Int), .slice b5 l5 c5] 25)) (.slice (some ⟨x5.heap.size, 0, none⟩) 7 7) 7 (List.flatMap encH [(n0, (a0, len0, cap0), raw), (n, (a2', m, c2'), E), (NB, (ab, lb, cb), EB), (N1, (b1, l1, c1), E1), (N2, (b2, l2, c2), E2), (n, (b3, l3, c3), lateF E), (N5, (b5, l5, c5), E5)]) := holdsN_lit 2 x5 25 7 (List.flatMap encH [(n0, (a0, len0, cap0), raw), (n, (a2', m, c2'), E), (NB, (ab, lb, cb), EB), (N1, (b1, l1, c1), E1), (N2, (b2, l2, c2), E2), (n, (b3, l3, c3), lateF E), (N5, (b5, l5, c5), E5)]) rfl (by omega)
  have G6 : Hid (Fr y1 (x5.alloc (.cells #[.int .u64 (n0 : Int), .slice a0 len0 cap0, .int .u64 (n : Int), .slice a2' m c2', .int .u64 (NB : Int), .slice ab lb cb, .int .u64 (N1 : Int), .slice b1 l1 c1, .int .u64 (N2 : Int), .slice b2 l2 c2, .int .u64 (n : Int), .slice b3 l3 c3, .int .u64 (N5 : Int), .slice b5 l5 c5] 25)) (fun _ => False)) := G5.out.alloc _
  have Hall : Hid (∀ x ∈ ([(n0, (a0, len0, cap0), raw), (n, (a2', m, c2'), E), (NB, (ab, lb, cb), EB), (N1, (b1, l1, c1), E1), (N2, (b2, l2, c2), E2), (n, (b3, l3, c3), lateF E), (N5, (b5, l5, c5), E5)] : List Hs), HsOk (x5.alloc (.cells #[.int .u64 (n0 : Int), .slice a0 len0 cap0, .int .u64 (n : Int), .slice a2' m c2', .int .u64 (NB : Int), .slice ab lb cb, .int .u64 (N1 : Int), .slice b1 l1 c1, .int .u64 (N2 : Int), .slice b2 l2 c2, .int .u64 (n : Int), .slice b3 l3 c3, .int .u64 (N5 : Int), .slice b5 l5 c5] 25)) x) := fun x hx => by
    have hf5 : ∀ z, Fr z x5 (fun _ => False) → Fr z (x5.alloc (.cells #[.int .u64 (n0 : Int), .slice a0 len0 cap0, .int .u64 (n : Int), .slice a2' m c2', .int .u64 (NB : Int), .slice ab lb cb, .int .u64 (N1 : Int), .slice b1 l1 c1, .int .u64 (N2 : Int), .slice b2 l2 c2, .int .u64 (n : Int), .slice b3 l3 c3, .int .u64 (N5 : Int), .slice b5 l5 c5] 25)) (fun _ => False) := fun z hz => hz.alloc _
    have h40 := HEl.out
    simp only [List.mem_cons, List.not_mem_nil, or_false] at hx
    rcases hx with rfl | rfl | rfl | rfl | rfl | rfl | rfl
    · exact ⟨Hn0.out, Hraw.out _ (Y1.out.none G6.out), by have := Hl20.out; dsimp only; omega, Hmf.out, Hml.out.symm⟩
    · exact ⟨Hn.out.1, Hr3.out _ (Y1.out.none G6.out), by dsimp only; omega, HEf.out, Hm.out⟩
    · exact ⟨HfB.out.1, HrB.out _ G6.out, by have := HfB.out.2.2; dsimp only at this ⊢; omega, HfB.out.2.1, HlB.out⟩
    · have h1 := Hfit1.out; rw [← HX1.out] at h1; exact ⟨h1.1, Hv1.out.keep (hf5 _ (((H12'.out.none H23'.out).none H34'.out).none H45'.out)), by have := HfB.out.2.2; have h2 := h1.2.2; dsimp only at this h2 ⊢; omega, h1.2.1, Hlx1.out⟩
    · have h1 := Hfit2.out; rw [← HX2.out] at h1; exact ⟨h1.1, Hv2.out.keep (hf5 _ ((H23'.out.none H34'.out).none H45'.out)), by have h2 := h1.2.2; dsimp only at h2 ⊢; omega, h1.2.1, Hlx2.out⟩
    · exact ⟨Hn.out.1, Hv3.out.keep (hf5 _ (H34'.out.none H45'.out)), by have := HLl.out; dsimp only; omega, HLf.out, Hlx3.out⟩
    · have h1 := Hfit5.out; rw [← HX5.out] at h1; exact ⟨h1.1, Hv5.out.keep (hf5 _ (Fr.refl _ _)), by have := HLl.out; have h2 := h1.2.2; dsimp only at h2 ⊢; omega, h1.2.1, Hlx5.out⟩
  generalize hXS : ([(n0, (a0, len0, cap0), raw), (n, (a2', m, c2'), E), (NB, (ab, lb, cb), EB), (N1, (b1, l1, c1), E1), (N2, (b2, l2, c2), E2), (n, (b3, l3, c3), lateF E), (N5, (b5, l5, c5), E5)] : List Hs) = XS at hlit Hall
  have HXSl : Hid (XS.length = 7) := by show _ = _; rw [← hXS]; rfl
  clear hXS
  rw [← hpT] at hlit ⊢
  clear hpT
  generalize x5.alloc (.cells #[.int .u64 (n0 : Int), .slice a0 len0 cap0, .int .u64 (n : Int), .slice a2' m c2', .int .u64 (NB : Int), .slice ab lb cb, .int .u64 (N1 : Int), .slice b1 l1 c1, .int .u64 (N2 : Int), .slice b2 l2 c2, .int .u64 (n : Int), .slice b3 l3 c3, .int .u64 (N5 : Int), .slice b5 l5 c5] 25) = x6 at hlit G6 Hall ⊢
  have Hlit : Hid (HoldsN 2 x6 (.slice (some ⟨pT, 0, none⟩) 7 7) 7 (List.flatMap encH XS)) := hlit
  clear hlit
  try simp only [Act.put, List.setIfInBounds_toArray, List.set_cons_zero, List.set_cons_succ]
  repeat (refine wpT_take (v := ?_) rfl rfl (fun x hx => ?_) ?_; rotate_left; (focus (go_simp; with_reducible rfl)); simp only [Act.put, List.setIfInBounds_toArray, List.set_cons_zero, List.set_cons_succ])
  have Hx6 : Hid (Fr w x6 (fun _ => False)) := Hw3.out.none (Y1.out.none G6.out)
  unfold wpT
  go_wp2_with fail
  go_loopg [71] 7 (fun g I wr => ∃ i : Nat, g = 7 - i ∧ i ≤ 7 ∧ I = .int .i64 (i : Int) ∧ Fr x6 wr (fun _ => False))
  case atStart => exact ⟨0, by omega, by omega, rfl, Fr.refl _ _⟩
  case round =>
    obtain ⟨i, hg, hi, rfl, hf⟩ := hrel
    have Hg : Hid _ := hg
    have Hf : Hid (Fr x6 wr (fun _ => False)) := hf
    have Hf17 : Hid (Fr w3 wr (fun _ => False)) := Y1.out.none (G6.out.none hf)
    clear hg hf
    by_cases hlt : i < 7
    · have hin : (i : Int) < 7 := by omega
      have hin' : decide (i < 7) = true := decide_eq_true hlt
      obtain ⟨⟨nx, ⟨ax, lx, cx⟩, Ex⟩, hx⟩ : ∃ x, XS[i]? = some x := ⟨_, List.getElem?_eq_getElem (by rw [HXSl.out]; exact hlt)⟩
      obtain ⟨hx1, hx2, hx3, hx4, hx5⟩ := (Hall.out _ (List.mem_of_getElem? hx)).keep Hf.out
      have Hx1 : Hid (nx < 18446744073709551616) := hx1
      have Hx2 : Hid (RdV wr (.slice ax lx cx) Ex) := hx2
      have Hx3 : Hid (Ex.length ≤ 100) := hx3
      have Hx4 : Hid (∀ y ∈ Ex, EvFit y) := hx4
      have Hx5 : Hid (lx = Ex.length) := hx5
      obtain ⟨r0, r1⟩ := hrow_get XS i _ hx
      obtain ⟨-, ao, cp, e9, -, hcl⟩ := Hlit.out.keep Hf.out
      obtain ⟨b, off, rfl, hcell⟩ := hcl (by omega)
      simp only [Value.slice.injEq, Option.some.injEq, Addr.mk.injEq] at e9
      obtain ⟨⟨rfl, rfl, -⟩, -, -⟩ := e9
      have kt0 := hcell _ _ r0
      have kt1 := hcell _ _ r1
      simp only [Nat.zero_add] at kt0 kt1
      have hi0 : (0 : Int) ≤ (i : Int) := by omega
      clear hx hx1 hx2 hx3 hx4 hx5 r0 r1 hcl hcell
      go_upto_region 10 with fail
      obtain ⟨p20, hp20⟩ : ∃ p, p = wr.heap.size := ⟨_, rfl⟩
      obtain ⟨z1, hz1⟩ : ∃ x, x = wr.alloc (.cells #[.int .u64 (nx : Int), .slice ax lx cx] 25) := ⟨_, rfl⟩
      rw [← hz1, ← hp20]
      have Q20 : Hid (∀ z, Fr z1 z (fun _ => False) → z.heap[p20]? = some (.cells #[.int .u64 (nx : Int), .slice ax lx cx] 25 (0, 0))) := fun z hz => hz.kept (by rw [hz1, hp20]; exact heap_alloc_new _ _) (fun h => h)
      have Zr : Hid (Fr wr z1 (fun _ => False)) := by show Fr _ _ _; rw [hz1]; exact (Fr.refl _ _).alloc _
      have Hrx : Hid (∀ z, Fr z1 z (fun _ => False) → RdV z (.slice ax lx cx) Ex) := fun z hz => Hx2.out.keep (Zr.out.none hz)
      have Hrh : Hid (∀ z, Fr z1 z (fun _ => False) → RdV z (.slice a2' m c2') E) := fun z hz => Hr3.out z ((Hf17.out.none Zr.out).none hz)
      have Q17z : Hid (∀ z, Fr z1 z (fun _ => False) → z.heap[p17]? = some (.cells #[.int .u64 (n : Int), .slice a2' m c2'] 25 (0, 0))) := fun z hz => Q17.out z ((Hf17.out.none Zr.out).none hz)
      clear hp20 hz1 kt0 kt1 Hx2
      obtain ⟨⟨ci, ce⟩, hC⟩ : ∃ C, C = checkF nx Ex := ⟨_, rfl⟩
      have HC : Hid _ := hC
      obtain ⟨D, hD⟩ : ∃ D, D = decide (nx = n ∧ Ex = E) := ⟨_, rfl⟩
      have HD : Hid _ := hD
      obtain ⟨LF, hLF⟩ : ∃ L, L = lastF Ex := ⟨_, rfl⟩
      have HLF : Hid _ := hLF
      clear hC hD hLF
      obtain ⟨ka, kb⟩ : z1.cell? ⟨p20, 0, none⟩ = some (.int .u64 (nx : Int)) ∧ z1.cell? ⟨p20, 1, none⟩ = some (.slice ax lx cx) := ⟨two_cell0 (Q20.out z1 (Fr.refl _ _)), two_cell1 (Q20.out z1 (Fr.refl _ _))⟩
      go_wp2_with fail
      refine (M.check nx _ Ex _ (Hrx.out z1 (Fr.refl _ _)) Hx1.out (by have := Hx3.out; omega) Hx4.out).mono ?_
      rw [← HC.out]
      rintro r z2 ⟨rfl, g⟩
      have Z2 : Hid (Fr z1 z2 (fun _ => False)) := g
      clear g ka kb
      dsimp only
      obtain ⟨ka, kb⟩ : z2.cell? ⟨p20, 0, none⟩ = some (.int .u64 (nx : Int)) ∧ z2.cell? ⟨p20, 1, none⟩ = some (.slice ax lx cx) := ⟨two_cell0 (Q20.out z2 Z2.out), two_cell1 (Q20.out z2 Z2.out)⟩
      go_wp2_with fail
      refine (refCheck_any nx _ Ex _ (Hrx.out z2 Z2.out) (by have := Hx3.out; omega) Hx4.out).mono ?_
      rw [← HC.out]
      rintro r z3 ⟨rfl, g⟩
      have Z3 : Hid (Fr z1 z3 (fun _ => False)) := Z2.out.none g
      clear g ka kb
      dsimp only
      have e1 : ((ci : Int) != (ci : Int)) = false := by simp
      have e2 : ((ce : Int) != (ce : Int)) = false := by simp
      obtain ⟨y0, hy0⟩ : ∃ x, x = z3.drew := ⟨_, rfl⟩
      have Y0 : Hid (Fr z1 y0 (fun _ => False)) := by show Fr _ _ _; rw [hy0]; exact Z3.out.drew
      go_wp2_with fail
      refine wp_region_tree (fun _ => False) (.take 0 (.take 1 (.take 2 (.take 3 (.take 4 (.take 5 (.take 6 (.take 7 (.take 8 (.take 9 (.take 10 (.take 12 (.take 13 (.one 11 (.one 14 (.take 15 (.take 16 (.take 17 (.take 18 (.take 20 (.one 19 (.one 21 (.take 22 (.take 23 .nil)))))))))))))))))))))))) (by kernel_rfl) (by kernel_rfl) (by decide) (by kernel_rfl) ?_
      rw [← hy0]
      clear hy0
      have ka : ∀ z, Fr y0 z (fun _ => False) → z.cell? ⟨p20, 0, none⟩ = some (.int .u64 (nx : Int)) := fun z hz => two_cell0 (Q20.out z (Y0.out.none hz))
      have kb : ∀ z, Fr y0 z (fun _ => False) → z.cell? ⟨p20, 1, none⟩ = some (.slice ax lx cx) := fun z hz => two_cell1 (Q20.out z (Y0.out.none hz))
      have kc : ∀ z, Fr y0 z (fun _ => False) → z.cell? ⟨p17, 0, none⟩ = some (.int .u64 (n : Int)) := fun z hz => two_cell0 (Q17z.out z (Y0.out.none hz))
      have kd : ∀ z, Fr y0 z (fun _ => False) → z.cell? ⟨p17, 1, none⟩ = some (.slice a2' m c2') := fun z hz => two_cell1 (Q17z.out z (Y0.out.none hz))
      repeat (refine wpT_take (v := ?_) rfl rfl (fun x hx => ?_) ?_; rotate_left; (focus (go_simp; with_reducible rfl)); simp only [Act.put, List.setIfInBounds_toArray, List.set_cons_zero, List.set_cons_succ])
      clear ka kb kc kd e1 e2
      refine wpT_one rfl rfl (fun K hK => ?_)
      go_simp
      refine (M.same nx n _ _ Ex E _ (Hrx.out _ Y0.out) (Hrh.out _ Y0.out) Hx1.out Hn.out.1 (by have := Hx3.out; omega) (by have := HEl.out; omega) Hx4.out HEf.out).mono ?_
      rw [← HD.out]
      rintro r y4 ⟨rfl, g⟩
      refine hK _ _ g ?_
      clear hK K
      have Y4 : Hid (Fr z1 y4 (fun _ => False)) := Y0.out.none g
      clear g
      refine wpT_one rfl rfl (fun K hK => ?_)
      go_simp
      refine (refSame_any nx n _ _ Ex E _ (Hrx.out _ Y4.out) (Hrh.out _ Y4.out) (by have := Hx3.out; omega) (by have := HEl.out; omega)).mono ?_
      rw [← HD.out]
      rintro r y5 ⟨rfl, g⟩
      refine hK _ _ g ?_
      clear hK K
      have Y5 : Hid (Fr z1 y5 (fun _ => False)) := Y4.out.none g
      clear g
      have e3 : (D != D) = false := by simp
      have ka : ∀ z, Fr y5 z (fun _ => False) → z.cell? ⟨p20, 0, none⟩ = some (.int .u64 (nx : Int)) := fun z hz => two_cell0 (Q20.out z (Y5.out.none hz))
      have kb : ∀ z, Fr y5 z (fun _ => False) → z.cell? ⟨p20, 1, none⟩ = some (.slice ax lx cx) := fun z hz => two_cell1 (Q20.out z (Y5.out.none hz))
      repeat (refine wpT_take (v := ?_) rfl rfl (fun x hx => ?_) ?_; rotate_left; (focus (go_simp; with_reducible rfl)); simp only [Act.put, List.setIfInBounds_toArray, List.set_cons_zero, List.set_cons_succ])
      clear ka kb
      refine wpT_one rfl rfl (fun K hK => ?_)
      go_simp
      refine (M.copy nx _ Ex _ (Hrx.out _ Y5.out) Hx1.out (by have := Hx3.out; omega) Hx4.out).mono ?_
      unfold histV
      rintro r y6 ⟨⟨v6, rfl, hr6, -⟩, g⟩
      have Hr6 : Hid (RdV y6 v6 Ex) := hr6
      refine hK _ _ g ?_
      clear hK K hr6
      have Y6 : Hid (Fr z1 y6 (fun _ => False)) := Y5.out.none g
      clear g
      refine wpT_one rfl rfl (fun K hK => ?_)
      go_simp
      refine (refSame_any nx nx _ _ Ex Ex _ Hr6.out (Hrx.out _ Y6.out) (by have := Hx3.out; omega) (by have := Hx3.out; omega)).mono ?_
      rw [show decide (nx = nx ∧ Ex = Ex) = true by simp]
      rintro r y7 ⟨rfl, g⟩
      refine hK _ _ g ?_
      clear hK K
      have Y7 : Hid (Fr z1 y7 (fun _ => False)) := Y6.out.none g
      clear g Hr6
      repeat (refine wpT_take (v := ?_) rfl rfl (fun x hx => ?_) ?_; rotate_left; (focus (go_simp; with_reducible rfl)); simp only [Act.put, List.setIfInBounds_toArray, List.set_cons_zero, List.set_cons_succ])
      clear e3
      have Hfo : Hid (Fr x6 y7 (fun _ => False)) := (Hf.out.none Zr.out).none Y7.out
      obtain ⟨ka, kb⟩ : y7.cell? ⟨p20, 0, none⟩ = some (.int .u64 (nx : Int)) ∧ y7.cell? ⟨p20, 1, none⟩ = some (.slice ax lx cx) := ⟨two_cell0 (Q20.out y7 Y7.out), two_cell1 (Q20.out y7 Y7.out)⟩
      unfold wpT
      by_cases hl0 : lx = 0
      · have d3 : decide ((0 : Int) < (lx : Int)) = false := decide_eq_false (by omega)
        have d3' : decide (0 < lx) = false := decide_eq_false (by omega)
        obtain rfl : LF = -1 := by rw [HLF.out]; exact last_none (by rw [← Hx5.out]; exact hl0)
        clear hl0
        go_wp2_with fail
        refine (M.last nx _ Ex _ (Hrx.out _ Y7.out) Hx1.out (by have := Hx3.out; omega) Hx4.out).mono ?_
        rw [← HLF.out]
        rintro r y8 ⟨rfl, g⟩
        have Hfo2 : Hid (Fr x6 y8 (fun _ => False)) := Hfo.out.none g
        clear g ka kb
        go_wp2_with fail
        go_roundg (7 - (i + 1))
        case rel => exact ⟨i + 1, rfl, by omega, by go_num, Hfo2.out⟩
        case measure => rw [Hg.out]; omega
      · have d3 : decide ((0 : Int) < (lx : Int)) = true := decide_eq_true (by omega)
        have d3' : decide (0 < lx) = true := decide_eq_true (by omega)
        obtain ⟨l1', hl1⟩ : ∃ l, lx = l + 1 := ⟨lx - 1, by omega⟩
        obtain ⟨⟨s, ⟨f, h⟩, bb⟩, hs⟩ : ∃ y, Ex[l1']? = some y := ⟨_, List.getElem?_eq_getElem (by have := Hx5.out; omega)⟩
        obtain rfl : LF = s := by rw [HLF.out]; exact last_some (by rw [← Hx5.out]; exact hl1) hs
        have hlx := Hx3.out
        have hlx2 := Hx5.out
        have hsub : IntKind.i64.wrap ((lx : Int) - 1) = (l1' : Int) := by rw [IntWalk.i64_in _ (by omega)]; omega
        have hll : (l1' : Int) < (lx : Int) := by omega
        have hl10 : (0 : Int) ≤ (l1' : Int) := by omega
        obtain ⟨bk, off, cap, e5, -, hca⟩ := (Hrx.out y7 Y7.out).get l1' _ hs
        simp only [Value.slice.injEq] at e5
        obtain ⟨rfl, -, rfl⟩ := e5
        have kc := (hca y7 (Fr.refl _ _)).1
        have e4 : (LF != LF) = false := by simp
        clear hca hs hl1 hl0 hlx hlx2
        go_wp2_with fail
        refine (M.last nx _ Ex _ (Hrx.out _ Y7.out) Hx1.out (by have := Hx3.out; omega) Hx4.out).mono ?_
        rw [← HLF.out]
        rintro r y8 ⟨rfl, g⟩
        have Hfo2 : Hid (Fr x6 y8 (fun _ => False)) := Hfo.out.none g
        clear g ka kb kc
        go_wp2_with fail
        go_roundg (7 - (i + 1))
        case rel => exact ⟨i + 1, rfl, by omega, by go_num, Hfo2.out⟩
        case measure => rw [Hg.out]; omega
    · have hin : ¬ (i : Int) < 7 := by omega
      have hin' : decide (i < 7) = false := decide_eq_false hlt
      obtain ⟨ka, kb⟩ : wr.cell? ⟨p17, 0, none⟩ = some (.int .u64 (n : Int)) ∧ wr.cell? ⟨p17, 1, none⟩ = some (.slice a2' m c2') := ⟨two_cell0 (Q17.out wr Hf17.out), two_cell1 (Q17.out wr Hf17.out)⟩
      go_wp2_with fail
      refine (M.check n _ E _ (Hr3.out wr Hf17.out) Hn.out.1 (by have := HEl.out; omega) HEf.out).mono ?_
      rw [HEr.out]
      rintro r z2 ⟨rfl, g⟩
      have Hfo : Hid (Fr w z2 (fun _ => False)) := (Hx6.out.none Hf.out).none g
      clear g ka kb
      dsimp only
      go_wp2
      go_ret
      exact ⟨rfl, ebelow Hfo.out⟩

end Go.Proofs.Ytojeaggnknnnoaa.historyTells

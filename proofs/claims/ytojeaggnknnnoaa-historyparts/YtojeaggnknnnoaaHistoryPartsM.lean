/-
  The walk of the law HistoryParts, under the condition that the program's functions answer as their contracts say.
-/
import Derived.Test.YtojeaggnknnnoaaRows
import Derived.Test.YtojeaggnknnnoaaXHI
import Derived.Test.YtojeaggnknnnoaaXHist
import Derived.Test.YtojeaggnknnnoaaXParts
import Derived.Test.YtojeaggnknnnoaaXArg
namespace Go.Proofs.Ytojeaggnknnnoaa.historyParts
open Go.ChangeShapes Go.WideShapes Go.ChangeAt Go.RowKit

theorem eu8 (n : Int) (h : (Lit.int .u8 n).wf = true) : 0 ≤ n ∧ n < (256 : Nat) := by have := bounds_u8 h; omega
theorem ebelow {w w' : World} (h : Fr w w' (fun _ => False)) : Below w.heap.size w w' := h.below (Nat.le_refl _) (fun _ h => h.elim)

set_option maxRecDepth 4000 in
set_option maxHeartbeats 3200000 in
theorem walkM (M : HI) (a0 : Int) (a1 : Option Addr) (len1 cap1 : Nat) (z1 : List Int) (a2 a3 a4 a5 : Int) (a6 : Option Addr) (len6 cap6 : Nat) (w : World) (w0 : (Lit.int .u8 a0).wf = true) (w1 : IsRow .u8 w a1 len1 cap1 z1) (w2 : (Lit.int .u8 a2).wf = true) (w3 : (Lit.int .u8 a3).wf = true) (w4 : (Lit.int .u8 a4).wf = true) (w5 : (Lit.int .i64 a5).wf = true) (w6 : IsEvents w a6 len6 cap6) :
    Calls Try.prog 5 #[.int .u8 a0, .slice a1 len1 cap1, .int .u8 a2, .int .u8 a3, .int .u8 a4, .int .i64 a5, .slice a6 len6 cap6] w fun e w' => e = .returned (.bool true) ∧ Below w.heap.size w w' := by
  obtain ⟨bs, hbl, hbb, hbr, -⟩ := reads_isRow eu8 (by decide) w1
  obtain ⟨k, rfl⟩ : ∃ k : Nat, a0 = (k : Int) := ⟨a0.toNat, by have := eu8 a0 w0; omega⟩
  have hk := (eu8 _ w0).2
  have Hk : Hid (k < 256) := by show _ < _; omega
  have Hbs : Hid (Reads .u8 w (.slice a1 len1 cap1) bs) := hbr
  have Hbb : Hid (∀ x ∈ bs, x < 256) := fun x hx => by
    obtain ⟨i, hi⟩ := List.getElem?_of_mem hx
    have := hbb i
    rw [List.getD_eq_getElem?_getD, hi] at this
    exact this
  have Hbl : Hid _ := hbl
  clear hbl hbb hbr hk
  obtain ⟨cut, rfl⟩ : ∃ k : Nat, a2 = (k : Int) := ⟨a2.toNat, by have := eu8 a2 w2; omega⟩
  obtain ⟨wh, rfl⟩ : ∃ k : Nat, a3 = (k : Int) := ⟨a3.toNat, by have := eu8 a3 w3; omega⟩
  obtain ⟨at_, rfl⟩ : ∃ k : Nat, a4 = (k : Int) := ⟨a4.toNat, by have := eu8 a4 w4; omega⟩
  have Hc : Hid (cut < 256 ∧ wh < 256 ∧ at_ < 256) := by have h1 := eu8 _ w2; have h2 := eu8 _ w3; have h3 := eu8 _ w4; refine ⟨?_, ?_, ?_⟩ <;> omega
  have Hz : Hid (-9223372036854775808 ≤ a5 ∧ a5 ≤ 9223372036854775807) := by have := bounds_i64 w5; show _ ∧ _; omega
  obtain ⟨more, hml, hmr, hmf⟩ := w6
  have Hml : Hid _ := hml
  have Hmr : Hid (RdV w (.slice a6 len6 cap6) more) := hmr
  have Hmf : Hid _ := hmf
  clear w0 w1 w2 w3 w4 w5 hml hmr hmf
  go_enter Try.func5, Try.ntmps5
  go_wp2_with fail
  refine (hknown_any M w).mono ?_
  rintro e w1 ⟨rfl, hf1⟩
  have Hf1 : Hid (Fr w w1 (fun _ => False)) := hf1
  clear hf1
  by_cases h60 : 60 < len1
  · have d1 : decide ((60 : Int) < (len1 : Int)) = true := decide_eq_true (by omega)
    have d1' : decide (60 < len1) = true := decide_eq_true h60
    go_wp2
    go_ret
    exact ⟨rfl, ebelow Hf1.out⟩
  have d1 : decide ((60 : Int) < (len1 : Int)) = false := decide_eq_false (by omega)
  have d1' : decide (60 < len1) = false := decide_eq_false h60
  have Hl60 : Hid (bs.length ≤ 60) := by have := Hbl.out; exact (by omega : bs.length ≤ 60)
  clear h60
  by_cases h10 : 10 < len6
  · have d2 : decide ((10 : Int) < (len6 : Int)) = true := decide_eq_true (by omega)
    have d2' : decide (10 < len6) = true := decide_eq_true h10
    go_wp2
    go_ret
    exact ⟨rfl, ebelow Hf1.out⟩
  have d2 : decide ((10 : Int) < (len6 : Int)) = false := decide_eq_false (by omega)
  have d2' : decide (10 < len6) = false := decide_eq_false h10
  have Hl10 : Hid (more.length ≤ 10) := by have := Hml.out; exact (by omega : more.length ≤ 10)
  clear h10
  go_wp2_with fail
  refine (seatHistory_any k _ bs _ (Hbs.out.keep Hf1.out) Hbb.out (by have := Hl60.out; omega) Hk.out).mono ?_
  rintro r w2 ⟨⟨v2, rfl, hr2, -⟩, g⟩
  obtain ⟨n, hn⟩ : ∃ n, n = vertF k := ⟨_, rfl⟩
  obtain ⟨E, hE⟩ : ∃ E, E = histE k bs := ⟨_, rfl⟩
  have hnb := vertF_bounds k
  have hEl := hist_length k bs
  have hEo := hist_ok k bs
  have hEs := hist_sorted k bs
  have hEr := hist_right k bs (by have := Hl60.out; omega)
  rw [← hn] at hnb hEo hEr ⊢
  rw [← hE] at hEl hEo hEs hr2 hEr
  have Hn : Hid (n < 18446744073709551616 ∧ n ≤ 4294967296) := by constructor <;> omega
  have HEl : Hid (E.length ≤ 40) := hEl
  have HEr : Hid (checkF n E = (0, 0)) := hEr
  have HEo : Hid (∀ x ∈ E, 0 ≤ x.1 ∧ x.1 ≤ 4611686018427387903) := fun x hx => by have h1 := hEo x hx; have h2 := Hl60.out; obtain ⟨h3, h4, -⟩ := h1; constructor <;> omega
  have HEf : Hid (∀ x ∈ E, EvFit x) := fun x hx => by
    have h1 := hEo x hx
    obtain ⟨h3, h4⟩ := HEo.out x hx
    obtain ⟨-, -, h5⟩ := h1
    unfold eRight at h5
    have h6 := of_decide_eq_true h5
    have h7 := Hn.out
    unfold EvFit
    omega
  have HEs : Hid (SortedT E) := sorted_times hEs
  obtain ⟨a2', c2', rfl, hmc⟩ := RdV.form hr2
  obtain ⟨m, hm⟩ : ∃ m, m = E.length := ⟨_, rfl⟩
  rw [← hm] at hr2 hmc ⊢
  have Hm : Hid _ := hm
  have Hr2 : Hid (RdV w2 (.slice a2' m c2') E) := hr2
  have Hf2 : Hid (Fr w w2 (fun _ => False)) := Hf1.out.none g
  have hm40 : m ≤ 40 := by omega
  clear g hn hE hnb hEl hEo hEs hr2 hm hEr
  unfold histV
  go_upto_region 6 with fail
  obtain ⟨p15, hp15⟩ : ∃ p, p = w2.heap.size := ⟨_, rfl⟩
  obtain ⟨w3, hw3⟩ : ∃ x, x = w2.alloc (.cells #[.int .u64 (n : Int), .slice a2' m c2'] 25) := ⟨_, rfl⟩
  rw [← hw3, ← hp15]
  have Q15 : Hid (∀ z, Fr w3 z (fun _ => False) → z.heap[p15]? = some (.cells #[.int .u64 (n : Int), .slice a2' m c2'] 25 (0, 0))) := fun z hz => hz.kept (by rw [hw3, hp15]; exact heap_alloc_new _ _) (fun h => h)
  have Hr3 : Hid (∀ z, Fr w3 z (fun _ => False) → RdV z (.slice a2' m c2') E) := fun z hz => Hr2.out.keep ((show Fr w2 w3 (fun _ => False) by rw [hw3]; exact (Fr.refl _ _).alloc _).none hz)
  have Hw3 : Hid (Fr w w3 (fun _ => False)) := by show Fr _ _ _; rw [hw3]; exact Hf2.out.alloc _
  have Hsz3 : Hid (p15 < w3.heap.size) := lt_of_block (Q15.out w3 (Fr.refl _ _))
  clear hp15 hw3 Hf1 Hf2 Hr2 Hbs
  obtain ⟨⟨N, EB⟩, hB⟩ : ∃ B, B = bentF n E wh at_ a5 := ⟨_, rfl⟩
  have hfit := bent_fit (n := n) (evs := E) (what := wh) (at_ := at_) Hn.out.1 Hz.out HEf.out
  rw [← hB] at hfit
  have Hfit : Hid _ := hfit
  have HB : Hid _ := hB
  obtain ⟨⟨ci, ce⟩, hC⟩ : ∃ C, C = checkF N EB := ⟨_, rfl⟩
  have HC : Hid _ := hC
  clear hB hfit hC
  obtain ⟨ka, kb⟩ : w3.cell? ⟨p15, 0, none⟩ = some (.int .u64 (n : Int)) ∧ w3.cell? ⟨p15, 1, none⟩ = some (.slice a2' m c2') := ⟨two_cell0 (Q15.out w3 (Fr.refl _ _)), two_cell1 (Q15.out w3 (Fr.refl _ _))⟩
  by_cases h0 : m = 0
  · subst h0
    have HfA : Hid (Fr w3 w3 (fun _ => False)) := Fr.refl _ _
    go_wp2_with fail
    refine (seatBent_any n _ E wh at_ a5 _ (Hr3.out _ HfA.out) (by have := HEl.out; omega) HEf.out Hc.out.2.1 Hc.out.2.2).mono ?_
    rw [← HB.out]
    dsimp only
    rintro r x1 ⟨⟨v1, rfl, hr1, -⟩, g⟩
    have Hr1 : Hid (RdV x1 v1 EB) := hr1
    have G1 : Hid (Fr w3 x1 (fun _ => False)) := HfA.out.none g
    obtain ⟨ab, lb, cb, rfl⟩ : ∃ a l c, v1 = .slice a l c := by obtain ⟨a, c, e, -⟩ := hr1.form; exact ⟨a, _, c, e⟩
    clear g hr1 ka kb
    unfold histV
    go_upto_region 13 with fail
    obtain ⟨p19, hp19⟩ : ∃ p, p = x1.heap.size := ⟨_, rfl⟩
    obtain ⟨y1, hy1⟩ : ∃ x, x = x1.alloc (.cells #[.int .u64 (N : Int), .slice ab lb cb] 25) := ⟨_, rfl⟩
    rw [← hy1, ← hp19]
    have Q19 : Hid (∀ z, Fr y1 z (fun _ => False) → z.heap[p19]? = some (.cells #[.int .u64 (N : Int), .slice ab lb cb] 25 (0, 0))) := fun z hz => hz.kept (by rw [hy1, hp19]; exact heap_alloc_new _ _) (fun h => h)
    have HrB : Hid (∀ z, Fr y1 z (fun _ => False) → RdV z (.slice ab lb cb) EB) := fun z hz => Hr1.out.keep ((show Fr x1 y1 (fun _ => False) by rw [hy1]; exact (Fr.refl _ _).alloc _).none hz)
    have Y1 : Hid (Fr w3 y1 (fun _ => False)) := by show Fr _ _ _; rw [hy1]; exact G1.out.alloc _
    have Hp19 : Hid (w3.heap.size ≤ p19) := by show _ ≤ _; rw [hp19]; exact G1.out.size
    clear hp19 hy1 Hr1 G1
    obtain ⟨ka, kb⟩ : y1.cell? ⟨p19, 0, none⟩ = some (.int .u64 (N : Int)) ∧ y1.cell? ⟨p19, 1, none⟩ = some (.slice ab lb cb) := ⟨two_cell0 (Q19.out y1 (Fr.refl _ _)), two_cell1 (Q19.out y1 (Fr.refl _ _))⟩
    go_wp2_with fail
    refine (M.check N _ EB _ (HrB.out y1 (Fr.refl _ _)) Hfit.out.1 (by have h1 := Hfit.out.2.2; have h2 := HEl.out; omega) Hfit.out.2.1).mono ?_
    rw [← HC.out]
    rintro r x2 ⟨rfl, g⟩
    have G2 : Hid (Fr y1 x2 (fun _ => False)) := g
    clear g ka kb
    dsimp only
    by_cases hce : ce = 0
    · subst hce
      obtain rfl : ci = 0 := by
        have h1 := check_zero (n := N) (l := EB) (by rw [← HC.out])
        rw [← HC.out] at h1
        exact h1
      have Hfo : Hid (Fr w x2 (fun _ => False)) := Hw3.out.none (Y1.out.none G2.out)
      go_wp2
      go_ret
      exact ⟨rfl, ebelow Hfo.out⟩
    · have f1 : ((ce : Int) == 0) = false := by rw [beq_eq_false_iff_ne]; omega
      have f1' : (ce == 0) = false := by rw [beq_eq_false_iff_ne]; exact hce
      have HC2 : Hid (checkF N (EB ++ more) = (ci, ce)) := by
        show _ = _
        rw [check_append (by have h1 := Hfit.out.2.2; have h2 := HEl.out; have h3 := Hl10.out; omega) (by rw [← HC.out]; exact hce), ← HC.out]
      have HEB : Hid (EB.length ≤ 40) := by have h1 := Hfit.out.2.2; have h2 := HEl.out; exact (by omega : EB.length ≤ 40)
      clear hce
      have HrM : Hid (∀ z, Fr w z (fun _ => False) → RdV z (.slice a6 len6 cap6) more) := fun z hz => Hmr.out.keep hz
      have Hfx : Hid (Fr w x2 (fun _ => False)) := Hw3.out.none (Y1.out.none G2.out)
      obtain ⟨v4, w4, hrun4, ho4, hf4, hn4⟩ := app_events_nil x2 (.slice ab lb cb) EB x2.heap.size (Nat.le_refl _) (HrB.out _ G2.out) (by have := HEB.out; omega)
      obtain ⟨v5, w5, hrun5, ho5, hf5, hn5⟩ := app_events_new w4 v4 (.slice a6 len6 cap6) EB more x2.heap.size hf4.size ho4 hn4 (HrM.out _ (Hfx.out.none (hf4.old (Nat.le_refl _)))) (by have h1 := HEB.out; have h2 := Hl10.out; omega)
      obtain ⟨a5', l5, c5, rfl⟩ : ∃ a l c, v5 = .slice a l c := by obtain ⟨a, c, e, -⟩ := ho5.rd.form; exact ⟨a, _, c, e⟩
      have hx2w5 : Fr x2 w5 (fun k => x2.heap.size ≤ k) := hf4.trans hf5 (fun _ _ h => h)
      have Q19b : Hid (w5.heap[p19]? = some (.cells #[.int .u64 (N : Int), .slice ab lb cb] 25 (0, 0))) := (hx2w5.old (Nat.le_refl _)).kept (Q19.out _ G2.out) (fun h => h)
      have Hs19 : Hid (p19 < x2.heap.size) := lt_of_block (Q19.out _ G2.out)
      obtain ⟨kc, kd⟩ : x2.cell? ⟨p19, 0, none⟩ = some (.int .u64 (N : Int)) ∧ x2.cell? ⟨p19, 1, none⟩ = some (.slice ab lb cb) := ⟨two_cell0 (Q19.out _ G2.out), two_cell1 (Q19.out _ G2.out)⟩
      obtain ⟨ke, kf⟩ : w5.cell? ⟨p19, 0, none⟩ = some (.int .u64 (N : Int)) ∧ w5.cell? ⟨p19, 1, none⟩ = some (.slice ab lb cb) := ⟨two_cell0 Q19b.out, two_cell1 Q19b.out⟩
      have fz := two_free Q19b.out 1
      have Ho5 : Hid (OwnV w5 (.slice a5' l5 c5) (EB ++ more)) := ho5
      have Hn5 : Hid (∀ k, (Value.slice a5' l5 c5).ownBlock = some k → x2.heap.size ≤ k) := hn5
      have Hfw5 : Hid (Fr w w5 (fun _ => False)) := Hfx.out.none (hx2w5.old (Nat.le_refl _))
      clear ho4 hf4 hn4 ho5 hf5 hn5 hx2w5
      go_upto_region 17 with (at_builtin; first | refine wpList_append_run rfl (.const (.slice none 0 0)) (.tmp 74) 23 rfl rfl rfl hrun4 ?_ | refine wpList_append_run rfl (.tmp 75) (.tmp 76) 23 rfl rfl rfl hrun5 ?_)
      have HQ : Hid _ := two_set1 Q19b.out (u := .slice a5' l5 c5)
      have Ho6 : Hid (OwnV (w5.setCell ⟨p19, 1, none⟩ (.slice a5' l5 c5)) (.slice a5' l5 c5) (EB ++ more)) := Ho5.out.frame (fr_cell w5 _ _ _) (fun k hk h => by have h1 := Hn5.out k hk; have h2 := Hs19.out; omega)
      have Hf6 : Hid (Fr w (w5.setCell ⟨p19, 1, none⟩ (.slice a5' l5 c5)) (fun _ => False)) := Hfw5.out.newer (fr_cell w5 _ _ _) (fun k h => by have h1 := Hp19.out; have h2 := Hw3.out.size; omega)
      clear kc kd ke kf fz hrun4 hrun5
      generalize w5.setCell ⟨p19, 1, none⟩ (.slice a5' l5 c5) = w6 at HQ Ho6 Hf6 ⊢
      obtain ⟨ka, kb⟩ : w6.cell? ⟨p19, 0, none⟩ = some (.int .u64 (N : Int)) ∧ w6.cell? ⟨p19, 1, none⟩ = some (.slice a5' l5 c5) := ⟨two_cell0 HQ.out, two_cell1 HQ.out⟩
      go_wp2_with fail
      refine (M.check N _ (EB ++ more) _ Ho6.out.rd Hfit.out.1 (by have h1 := HEB.out; have h2 := Hl10.out; rw [List.length_append]; omega) (fun x hx => by rcases List.mem_append.1 hx with h | h; exact Hfit.out.2.1 x h; exact Hmf.out x h)).mono ?_
      rw [HC2.out]
      rintro r x7 ⟨rfl, g⟩
      have Hfo : Hid (Fr w x7 (fun _ => False)) := Hf6.out.none g
      have e1 : ((ci : Int) == (ci : Int)) = true := by simp
      have e2 : ((ce : Int) == (ce : Int)) = true := by simp
      clear g ka kb
      dsimp only
      go_wp2
      go_ret
      exact ⟨rfl, ebelow Hfo.out⟩
  · have d3 : decide ((0 : Int) < (m : Int)) = true := decide_eq_true (by omega)
    have d3' : decide (0 < m) = true := decide_eq_true (by omega)
    obtain ⟨c, hc⟩ : ∃ c, c = cut % m := ⟨_, rfl⟩
    have hcm : c < m := by rw [hc]; exact Nat.mod_lt _ (by omega)
    have wc1 : IntKind.i64.wrap (cut : Int) = (cut : Int) := IntWalk.i64_in _ (by have := Hc.out; omega)
    have wm1 : (cut : Int).tmod (m : Int) = (c : Int) := by rw [Int.tmod_eq_emod_of_nonneg (by omega), hc]; simp
    have wm2 : (cut : Int) % (m : Int) = (c : Int) := by rw [hc]; simp
    have hz0 : ¬ m = 0 := h0
    have hcc : (c : Int) ≤ (c2' : Int) := by omega
    have hc0 : (0 : Int) ≤ (c : Int) := by omega
    have Hcm : Hid (c ≤ m) := by show _ ≤ _; omega
    clear hc h0
    go_upto_region 8 with fail
    obtain ⟨p16, hp16⟩ : ∃ p, p = w3.heap.size := ⟨_, rfl⟩
    obtain ⟨w4, hw4⟩ : ∃ x, x = w3.alloc (.cells #[.int .u64 (n : Int), .slice a2' m c2'] 25) := ⟨_, rfl⟩
    rw [← hw4, ← hp16]
    have H16 : Hid (w4.heap[p16]? = some (.cells #[.int .u64 (n : Int), .slice a2' m c2'] 25 (0, 0))) := by show _ = _; rw [hw4, hp16]; exact heap_alloc_new _ _
    have Hf4 : Hid (Fr w3 w4 (fun _ => False)) := by show Fr _ _ _; rw [hw4]; exact (Fr.refl _ _).alloc _
    have Hp16 : Hid (w3.heap.size ≤ p16) := by show _ ≤ _; omega
    obtain ⟨x0, hx0⟩ : ∃ x, x = w4.drew := ⟨_, rfl⟩
    have X0 : Hid (Fr w3 x0 (fun _ => False)) := by show Fr _ _ _; rw [hx0]; exact Hf4.out.drew
    have H16x : Hid (x0.heap[p16]? = some (.cells #[.int .u64 (n : Int), .slice a2' m c2'] 25 (0, 0))) := by show _ = _; rw [hx0]; exact H16.out
    clear hp16 hw4 ka kb
    go_wp2_with fail
    refine wp_region_tree (fun k => w3.heap.size ≤ k) (.take 0 (.take 1 (.take 2 (.take 3 (.take 4 (.take 5 (.take 6 (.take 7 (.take 8 (.take 9 (.one 10 .nil))))))))))) (by kernel_rfl) (by kernel_rfl) (by decide) (by kernel_rfl) ?_
    rw [← hx0]
    clear hx0
    have ka : ∀ z, Fr x0 z (fun k => w3.heap.size ≤ k) → z.cell? ⟨p15, 0, none⟩ = some (.int .u64 (n : Int)) := fun z hz => two_cell0 (Q15.out z ((X0.out.trans hz (T := fun k => w3.heap.size ≤ k) (fun i hi h => by omega))))
    have kb : ∀ z, Fr x0 z (fun k => w3.heap.size ≤ k) → z.cell? ⟨p15, 1, none⟩ = some (.slice a2' m c2') := fun z hz => two_cell1 (Q15.out z ((X0.out.trans hz (T := fun k => w3.heap.size ≤ k) (fun i hi h => by omega))))
    repeat (refine wpT_take (v := ?_) rfl rfl (fun x hx => ?_) ?_; rotate_left; (focus (go_simp; with_reducible rfl)); simp only [Act.put, List.setIfInBounds_toArray, List.set_cons_zero, List.set_cons_succ])
    clear ka kb
    obtain ⟨kc, kd⟩ : x0.cell? ⟨p16, 0, none⟩ = some (.int .u64 (n : Int)) ∧ x0.cell? ⟨p16, 1, none⟩ = some (.slice a2' m c2') := ⟨two_cell0 H16x.out, two_cell1 H16x.out⟩
    have fz := two_free H16x.out 1
    refine wpT_one rfl rfl (fun K hK => ?_)
    go_simp
    refine hK _ _ ((fr_cell x0 _ _ _).mono (fun j _ h => by have := Hp16.out; omega)) ?_
    clear hK K kc kd fz
    have HQ : Hid _ := two_set1 H16x.out (u := .slice a2' c c2')
    have HfA0 : Hid (Fr w3 (x0.setCell ⟨p16, 1, none⟩ (.slice a2' c c2')) (fun _ => False)) := X0.out.newer (fr_cell x0 _ _ _) (fun k h => by have h1 := Hp16.out; omega)
    generalize x0.setCell ⟨p16, 1, none⟩ (.slice a2' c c2') = x3 at HQ HfA0 ⊢
    obtain ⟨kc, kd⟩ : x3.cell? ⟨p16, 0, none⟩ = some (.int .u64 (n : Int)) ∧ x3.cell? ⟨p16, 1, none⟩ = some (.slice a2' c c2') := ⟨two_cell0 HQ.out, two_cell1 HQ.out⟩
    unfold wpT
    go_wp2_with fail
    have Hpr : Hid (RdV x3 (.slice a2' c c2') (E.take c)) := (Hr3.out x3 HfA0.out).take Hm.out.symm c Hcm.out
    refine (M.check n _ (E.take c) _ Hpr.out Hn.out.1 (by have := HEl.out; rw [List.length_take]; omega) (fun x hx => HEf.out x (List.mem_of_mem_take hx))).mono ?_
    obtain ⟨⟨gi, ge⟩, hG⟩ : ∃ G, G = checkF n (E.take c) := ⟨_, rfl⟩
    rw [← hG]
    obtain rfl : ge = 0 := by
      have h1 := check_take (n := n) (l := E) c (by have := HEl.out; omega) (by rw [HEr.out])
      rw [← hG] at h1
      exact h1
    rintro r x4 ⟨rfl, g⟩
    have HfA : Hid (Fr w3 x4 (fun _ => False)) := HfA0.out.none g
    clear g kc kd hG
    obtain ⟨ka, kb⟩ : x4.cell? ⟨p15, 0, none⟩ = some (.int .u64 (n : Int)) ∧ x4.cell? ⟨p15, 1, none⟩ = some (.slice a2' m c2') := ⟨two_cell0 (Q15.out _ HfA.out), two_cell1 (Q15.out _ HfA.out)⟩
    dsimp only
    go_wp2_with fail
    refine (seatBent_any n _ E wh at_ a5 _ (Hr3.out _ HfA.out) (by have := HEl.out; omega) HEf.out Hc.out.2.1 Hc.out.2.2).mono ?_
    rw [← HB.out]
    dsimp only
    rintro r x1 ⟨⟨v1, rfl, hr1, -⟩, g⟩
    have Hr1 : Hid (RdV x1 v1 EB) := hr1
    have G1 : Hid (Fr w3 x1 (fun _ => False)) := HfA.out.none g
    obtain ⟨ab, lb, cb, rfl⟩ : ∃ a l c, v1 = .slice a l c := by obtain ⟨a, c, e, -⟩ := hr1.form; exact ⟨a, _, c, e⟩
    clear g hr1 ka kb
    unfold histV
    go_upto_region 13 with fail
    obtain ⟨p19, hp19⟩ : ∃ p, p = x1.heap.size := ⟨_, rfl⟩
    obtain ⟨y1, hy1⟩ : ∃ x, x = x1.alloc (.cells #[.int .u64 (N : Int), .slice ab lb cb] 25) := ⟨_, rfl⟩
    rw [← hy1, ← hp19]
    have Q19 : Hid (∀ z, Fr y1 z (fun _ => False) → z.heap[p19]? = some (.cells #[.int .u64 (N : Int), .slice ab lb cb] 25 (0, 0))) := fun z hz => hz.kept (by rw [hy1, hp19]; exact heap_alloc_new _ _) (fun h => h)
    have HrB : Hid (∀ z, Fr y1 z (fun _ => False) → RdV z (.slice ab lb cb) EB) := fun z hz => Hr1.out.keep ((show Fr x1 y1 (fun _ => False) by rw [hy1]; exact (Fr.refl _ _).alloc _).none hz)
    have Y1 : Hid (Fr w3 y1 (fun _ => False)) := by show Fr _ _ _; rw [hy1]; exact G1.out.alloc _
    have Hp19 : Hid (w3.heap.size ≤ p19) := by show _ ≤ _; rw [hp19]; exact G1.out.size
    clear hp19 hy1 Hr1 G1
    obtain ⟨ka, kb⟩ : y1.cell? ⟨p19, 0, none⟩ = some (.int .u64 (N : Int)) ∧ y1.cell? ⟨p19, 1, none⟩ = some (.slice ab lb cb) := ⟨two_cell0 (Q19.out y1 (Fr.refl _ _)), two_cell1 (Q19.out y1 (Fr.refl _ _))⟩
    go_wp2_with fail
    refine (M.check N _ EB _ (HrB.out y1 (Fr.refl _ _)) Hfit.out.1 (by have h1 := Hfit.out.2.2; have h2 := HEl.out; omega) Hfit.out.2.1).mono ?_
    rw [← HC.out]
    rintro r x2 ⟨rfl, g⟩
    have G2 : Hid (Fr y1 x2 (fun _ => False)) := g
    clear g ka kb
    dsimp only
    by_cases hce : ce = 0
    · subst hce
      obtain rfl : ci = 0 := by
        have h1 := check_zero (n := N) (l := EB) (by rw [← HC.out])
        rw [← HC.out] at h1
        exact h1
      have Hfo : Hid (Fr w x2 (fun _ => False)) := Hw3.out.none (Y1.out.none G2.out)
      go_wp2
      go_ret
      exact ⟨rfl, ebelow Hfo.out⟩
    · have f1 : ((ce : Int) == 0) = false := by rw [beq_eq_false_iff_ne]; omega
      have f1' : (ce == 0) = false := by rw [beq_eq_false_iff_ne]; exact hce
      have HC2 : Hid (checkF N (EB ++ more) = (ci, ce)) := by
        show _ = _
        rw [check_append (by have h1 := Hfit.out.2.2; have h2 := HEl.out; have h3 := Hl10.out; omega) (by rw [← HC.out]; exact hce), ← HC.out]
      have HEB : Hid (EB.length ≤ 40) := by have h1 := Hfit.out.2.2; have h2 := HEl.out; exact (by omega : EB.length ≤ 40)
      clear hce
      have HrM : Hid (∀ z, Fr w z (fun _ => False) → RdV z (.slice a6 len6 cap6) more) := fun z hz => Hmr.out.keep hz
      have Hfx : Hid (Fr w x2 (fun _ => False)) := Hw3.out.none (Y1.out.none G2.out)
      obtain ⟨v4, w4, hrun4, ho4, hf4, hn4⟩ := app_events_nil x2 (.slice ab lb cb) EB x2.heap.size (Nat.le_refl _) (HrB.out _ G2.out) (by have := HEB.out; omega)
      obtain ⟨v5, w5, hrun5, ho5, hf5, hn5⟩ := app_events_new w4 v4 (.slice a6 len6 cap6) EB more x2.heap.size hf4.size ho4 hn4 (HrM.out _ (Hfx.out.none (hf4.old (Nat.le_refl _)))) (by have h1 := HEB.out; have h2 := Hl10.out; omega)
      obtain ⟨a5', l5, c5, rfl⟩ : ∃ a l c, v5 = .slice a l c := by obtain ⟨a, c, e, -⟩ := ho5.rd.form; exact ⟨a, _, c, e⟩
      have hx2w5 : Fr x2 w5 (fun k => x2.heap.size ≤ k) := hf4.trans hf5 (fun _ _ h => h)
      have Q19b : Hid (w5.heap[p19]? = some (.cells #[.int .u64 (N : Int), .slice ab lb cb] 25 (0, 0))) := (hx2w5.old (Nat.le_refl _)).kept (Q19.out _ G2.out) (fun h => h)
      have Hs19 : Hid (p19 < x2.heap.size) := lt_of_block (Q19.out _ G2.out)
      obtain ⟨kc, kd⟩ : x2.cell? ⟨p19, 0, none⟩ = some (.int .u64 (N : Int)) ∧ x2.cell? ⟨p19, 1, none⟩ = some (.slice ab lb cb) := ⟨two_cell0 (Q19.out _ G2.out), two_cell1 (Q19.out _ G2.out)⟩
      obtain ⟨ke, kf⟩ : w5.cell? ⟨p19, 0, none⟩ = some (.int .u64 (N : Int)) ∧ w5.cell? ⟨p19, 1, none⟩ = some (.slice ab lb cb) := ⟨two_cell0 Q19b.out, two_cell1 Q19b.out⟩
      have fz := two_free Q19b.out 1
      have Ho5 : Hid (OwnV w5 (.slice a5' l5 c5) (EB ++ more)) := ho5
      have Hn5 : Hid (∀ k, (Value.slice a5' l5 c5).ownBlock = some k → x2.heap.size ≤ k) := hn5
      have Hfw5 : Hid (Fr w w5 (fun _ => False)) := Hfx.out.none (hx2w5.old (Nat.le_refl _))
      clear ho4 hf4 hn4 ho5 hf5 hn5 hx2w5
      go_upto_region 17 with (at_builtin; first | refine wpList_append_run rfl (.const (.slice none 0 0)) (.tmp 74) 23 rfl rfl rfl hrun4 ?_ | refine wpList_append_run rfl (.tmp 75) (.tmp 76) 23 rfl rfl rfl hrun5 ?_)
      have HQ : Hid _ := two_set1 Q19b.out (u := .slice a5' l5 c5)
      have Ho6 : Hid (OwnV (w5.setCell ⟨p19, 1, none⟩ (.slice a5' l5 c5)) (.slice a5' l5 c5) (EB ++ more)) := Ho5.out.frame (fr_cell w5 _ _ _) (fun k hk h => by have h1 := Hn5.out k hk; have h2 := Hs19.out; omega)
      have Hf6 : Hid (Fr w (w5.setCell ⟨p19, 1, none⟩ (.slice a5' l5 c5)) (fun _ => False)) := Hfw5.out.newer (fr_cell w5 _ _ _) (fun k h => by have h1 := Hp19.out; have h2 := Hw3.out.size; omega)
      clear kc kd ke kf fz hrun4 hrun5
      generalize w5.setCell ⟨p19, 1, none⟩ (.slice a5' l5 c5) = w6 at HQ Ho6 Hf6 ⊢
      obtain ⟨ka, kb⟩ : w6.cell? ⟨p19, 0, none⟩ = some (.int .u64 (N : Int)) ∧ w6.cell? ⟨p19, 1, none⟩ = some (.slice a5' l5 c5) := ⟨two_cell0 HQ.out, two_cell1 HQ.out⟩
      go_wp2_with fail
      refine (M.check N _ (EB ++ more) _ Ho6.out.rd Hfit.out.1 (by have h1 := HEB.out; have h2 := Hl10.out; rw [List.length_append]; omega) (fun x hx => by rcases List.mem_append.1 hx with h | h; exact Hfit.out.2.1 x h; exact Hmf.out x h)).mono ?_
      rw [HC2.out]
      rintro r x7 ⟨rfl, g⟩
      have Hfo : Hid (Fr w x7 (fun _ => False)) := Hf6.out.none g
      have e1 : ((ci : Int) == (ci : Int)) = true := by simp
      have e2 : ((ce : Int) == (ce : Int)) = true := by simp
      clear g ka kb
      dsimp only
      go_wp2
      go_ret
      exact ⟨rfl, ebelow Hfo.out⟩

end Go.Proofs.Ytojeaggnknnnoaa.historyParts

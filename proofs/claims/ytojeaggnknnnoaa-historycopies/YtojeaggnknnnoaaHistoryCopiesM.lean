/-
  The walk of the law HistoryCopies, under the condition that the program's functions answer as their contracts say.
-/
import Derived.Test.YtojeaggnknnnoaaRows
import Derived.Test.YtojeaggnknnnoaaXHI
import Derived.Test.YtojeaggnknnnoaaXHist
import Derived.Test.YtojeaggnknnnoaaXBent
import Derived.Test.YtojeaggnknnnoaaESkip
namespace Go.Proofs.Ytojeaggnknnnoaa.historyCopies
open Go.ChangeShapes Go.WideShapes Go.ChangeAt Go.RowKit

theorem eu8 (n : Int) (h : (Lit.int .u8 n).wf = true) : 0 ≤ n ∧ n < (256 : Nat) := by have := bounds_u8 h; omega
theorem ebelow {w w' : World} (h : Fr w w' (fun _ => False)) : Below w.heap.size w w' := h.below (Nat.le_refl _) (fun _ h => h.elim)

/-- The first j of them with another time, doing the other thing. -/
def modE (t : Int) (x : Ev) : Ev := (t, x.2.1, !x.2.2)
def modF (E : List Ev) (t : Int) (j : Nat) : List Ev := (E.take j).map (modE t) ++ E.drop j
theorem modF_length (E : List Ev) (t : Int) (j : Nat) : (modF E t j).length = E.length := by
  unfold modF
  rw [List.length_append, List.length_map, List.length_take, List.length_drop]
  omega
theorem modF_zero (E : List Ev) (t : Int) : modF E t 0 = E := by simp [modF]
theorem modF_at {E : List Ev} {t : Int} {j : Nat} {x : Ev} (h : E[j]? = some x) : (modF E t j)[j]? = some x := by
  have hj := (List.getElem?_eq_some_iff.1 h).1
  unfold modF
  rw [List.getElem?_append_right (by simp; omega), List.getElem?_drop]
  rw [List.length_map, List.length_take, Nat.min_eq_left (by omega)]
  simpa using h
theorem modF_succ {E : List Ev} {t : Int} {j : Nat} {x : Ev} (h : E[j]? = some x) : (modF E t j).set j (modE t x) = modF E t (j + 1) := by
  have hj := (List.getElem?_eq_some_iff.1 h).1
  refine List.ext_getElem? fun i => ?_
  rw [List.getElem?_set]
  unfold modF
  by_cases hij : j = i
  · subst hij
    rw [if_pos rfl, if_pos (by rw [List.length_append, List.length_map, List.length_take, List.length_drop]; omega)]
    rw [List.getElem?_append_left (by simp; omega), List.getElem?_map, List.getElem?_take, if_pos (by omega), h]
    rfl
  · rw [if_neg hij]
    by_cases hlt : i < j
    · rw [List.getElem?_append_left (by simp; omega), List.getElem?_append_left (by simp; omega), List.getElem?_map, List.getElem?_map, List.getElem?_take, List.getElem?_take, if_pos hlt, if_pos (by omega)]
    · rw [List.getElem?_append_right (by simp; omega), List.getElem?_append_right (by simp; omega), List.getElem?_drop, List.getElem?_drop]
      congr 1
      simp
      omega
theorem modF_ne {E : List Ev} {t : Int} {x : Ev} (h : E[0]? = some x) : E ≠ modF E t E.length := fun e => by
  have h1 : (modF E t E.length)[0]? = some (modE t x) := by
    have hj := (List.getElem?_eq_some_iff.1 h).1
    unfold modF
    rw [List.getElem?_append_left (by simp; omega), List.getElem?_map, List.getElem?_take, if_pos hj, h]
    rfl
  rw [← e, h] at h1
  simp only [Option.some.injEq, modE] at h1
  have h2 := congrArg (fun y : Ev => y.2.2) h1
  simp at h2
theorem mod_fit {E : List Ev} {t : Int} {j : Nat} (hf : ∀ x ∈ E, EvFit x) (ht : -9223372036854775808 ≤ t ∧ t ≤ 9223372036854775807) : ∀ x ∈ modF E t j, EvFit x := fun x hx => by
  unfold modF at hx
  rcases List.mem_append.1 hx with hx | hx
  · obtain ⟨y, hy, rfl⟩ := List.mem_map.1 hx
    have h1 := hf y (List.mem_of_mem_take hy)
    exact ⟨ht, h1.2.1, h1.2.2⟩
  · exact hf x (List.mem_of_mem_drop hx)

set_option maxRecDepth 4000 in
set_option maxHeartbeats 3200000 in
theorem walkM (M : HI) (a0 : Int) (a1 : Option Addr) (len1 cap1 : Nat) (z1 : List Int) (a2 : Int) (w : World) (w0 : (Lit.int .u8 a0).wf = true) (w1 : IsRow .u8 w a1 len1 cap1 z1) (w2 : (Lit.int .i64 a2).wf = true) :
    Calls Try.prog 6 #[.int .u8 a0, .slice a1 len1 cap1, .int .i64 a2] w fun e w' => e = .returned (.bool true) ∧ Below w.heap.size w w' := by
  obtain ⟨bs, hbl, hbb, hbr, -⟩ := reads_isRow eu8 (by decide) w1
  obtain ⟨k, rfl⟩ : ∃ k : Nat, a0 = (k : Int) := ⟨a0.toNat, by have := eu8 a0 w0; omega⟩
  have hk := (eu8 _ w0).2
  have Hk : Hid (k < 256) := by show _ < _; omega
  have Hbs : Hid (Reads .u8 w (.slice a1 len1 cap1) bs) := hbr
  have Hbb : Hid (∀ x ∈ bs, x < 256) := fun x hx => by
    obtain ⟨i, hi⟩ := List.getElem?_of_mem hx
    have := hbb i
    rw [List.getD_eq_getElem?_getD, hi] at this
    exact this
  have Hbl : Hid _ := hbl
  clear hbl hbb hbr hk
  have Hz : Hid (-9223372036854775808 ≤ a2 ∧ a2 ≤ 9223372036854775807) := by have := bounds_i64 w2; show _ ∧ _; omega
  clear w0 w1 w2
  go_enter Try.func6, Try.ntmps6
  go_wp2_with fail
  refine (hknown_any M w).mono ?_
  rintro e w1 ⟨rfl, hf1⟩
  have Hf1 : Hid (Fr w w1 (fun _ => False)) := hf1
  clear hf1
  by_cases h60 : 60 < len1
  · have d1 : decide ((60 : Int) < (len1 : Int)) = true := decide_eq_true (by omega)
    have d1' : decide (60 < len1) = true := decide_eq_true h60
    go_wp2
    go_ret
    exact ⟨rfl, ebelow Hf1.out⟩
  have d1 : decide ((60 : Int) < (len1 : Int)) = false := decide_eq_false (by omega)
  have d1' : decide (60 < len1) = false := decide_eq_false h60
  have Hl60 : Hid (bs.length ≤ 60) := by have := Hbl.out; exact (by omega : bs.length ≤ 60)
  clear h60
  go_wp2_with fail
  refine (seatHistory_any k _ bs _ (Hbs.out.keep Hf1.out) Hbb.out (by have := Hl60.out; omega) Hk.out).mono ?_
  rintro r w2 ⟨⟨v2, rfl, hr2, -⟩, g⟩
  obtain ⟨n, hn⟩ : ∃ n, n = vertF k := ⟨_, rfl⟩
  obtain ⟨E, hE⟩ : ∃ E, E = histE k bs := ⟨_, rfl⟩
  have hnb := vertF_bounds k
  have hEl := hist_length k bs
  have hEo := hist_ok k bs
  have hEs := hist_sorted k bs
  have hEr := hist_right k bs (by have := Hl60.out; omega)
  rw [← hn] at hnb hEo hEr ⊢
  rw [← hE] at hEl hEo hEs hr2 hEr
  have Hn : Hid (n < 18446744073709551616 ∧ n ≤ 4294967296) := by constructor <;> omega
  have HEl : Hid (E.length ≤ 40) := hEl
  have HEr : Hid (checkF n E = (0, 0)) := hEr
  have HEo : Hid (∀ x ∈ E, 0 ≤ x.1 ∧ x.1 ≤ 4611686018427387903) := fun x hx => by have h1 := hEo x hx; have h2 := Hl60.out; obtain ⟨h3, h4, -⟩ := h1; constructor <;> omega
  have HEf : Hid (∀ x ∈ E, EvFit x) := fun x hx => by
    have h1 := hEo x hx
    obtain ⟨h3, h4⟩ := HEo.out x hx
    obtain ⟨-, -, h5⟩ := h1
    unfold eRight at h5
    have h6 := of_decide_eq_true h5
    have h7 := Hn.out
    unfold EvFit
    omega
  have HEs : Hid (SortedT E) := sorted_times hEs
  obtain ⟨a2', c2', rfl, hmc⟩ := RdV.form hr2
  obtain ⟨m, hm⟩ : ∃ m, m = E.length := ⟨_, rfl⟩
  rw [← hm] at hr2 hmc ⊢
  have Hm : Hid _ := hm
  have Hr2 : Hid (RdV w2 (.slice a2' m c2') E) := hr2
  have Hf2 : Hid (Fr w w2 (fun _ => False)) := Hf1.out.none g
  have hm40 : m ≤ 40 := by omega
  clear g hn hE hnb hEl hEo hEs hr2 hm hEr
  unfold histV
  go_upto_region 6 with fail
  obtain ⟨p7, hp7⟩ : ∃ p, p = w2.heap.size := ⟨_, rfl⟩
  obtain ⟨w3, hw3⟩ : ∃ x, x = w2.alloc (.cells #[.int .u64 (n : Int), .slice a2' m c2'] 25) := ⟨_, rfl⟩
  rw [← hw3, ← hp7]
  have Q7 : Hid (∀ z, Fr w3 z (fun _ => False) → z.heap[p7]? = some (.cells #[.int .u64 (n : Int), .slice a2' m c2'] 25 (0, 0))) := fun z hz => hz.kept (by rw [hw3, hp7]; exact heap_alloc_new _ _) (fun h => h)
  have Hr3 : Hid (∀ z, Fr w3 z (fun _ => False) → RdV z (.slice a2' m c2') E) := fun z hz => Hr2.out.keep ((show Fr w2 w3 (fun _ => False) by rw [hw3]; exact (Fr.refl _ _).alloc _).none hz)
  have Hw3 : Hid (Fr w w3 (fun _ => False)) := by show Fr _ _ _; rw [hw3]; exact Hf2.out.alloc _
  clear hp7 hw3 Hf1 Hf2 Hr2 Hbs
  obtain ⟨ka, kb⟩ : w3.cell? ⟨p7, 0, none⟩ = some (.int .u64 (n : Int)) ∧ w3.cell? ⟨p7, 1, none⟩ = some (.slice a2' m c2') := ⟨two_cell0 (Q7.out w3 (Fr.refl _ _)), two_cell1 (Q7.out w3 (Fr.refl _ _))⟩
  go_wp2_with fail
  refine (M.copy n _ E _ (Hr3.out w3 (Fr.refl _ _)) Hn.out.1 (by have := HEl.out; omega) HEf.out).mono ?_
  unfold histV
  rintro r x1 ⟨⟨v1, rfl, hr1, -⟩, g⟩
  have Hr1 : Hid (RdV x1 v1 E) := hr1
  have G1 : Hid (Fr w3 x1 (fun _ => False)) := g
  obtain ⟨ac, cc, rfl⟩ : ∃ a c, v1 = .slice a m c := by obtain ⟨a, c, e, -⟩ := hr1.form; rw [← Hm.out] at e; exact ⟨a, c, e⟩
  clear g hr1 ka kb
  go_upto_region 7 with fail
  obtain ⟨p8, hp8⟩ : ∃ p, p = x1.heap.size := ⟨_, rfl⟩
  obtain ⟨w4, hw4⟩ : ∃ x, x = x1.alloc (.cells #[.int .u64 (n : Int), .slice ac m cc] 25) := ⟨_, rfl⟩
  rw [← hw4, ← hp8]
  have Q8 : Hid (∀ z, Fr w4 z (fun _ => False) → z.heap[p8]? = some (.cells #[.int .u64 (n : Int), .slice ac m cc] 25 (0, 0))) := fun z hz => hz.kept (by rw [hw4, hp8]; exact heap_alloc_new _ _) (fun h => h)
  have H34 : Hid (Fr w3 w4 (fun _ => False)) := by show Fr _ _ _; rw [hw4]; exact G1.out.alloc _
  have HrC : Hid (∀ z, Fr w4 z (fun _ => False) → RdV z (.slice ac m cc) E) := fun z hz => Hr1.out.keep ((show Fr x1 w4 (fun _ => False) by rw [hw4]; exact (Fr.refl _ _).alloc _).none hz)
  clear hp8 hw4 Hr1 G1
  obtain ⟨ka, kb⟩ : w4.cell? ⟨p8, 0, none⟩ = some (.int .u64 (n : Int)) ∧ w4.cell? ⟨p8, 1, none⟩ = some (.slice ac m cc) := ⟨two_cell0 (Q8.out w4 (Fr.refl _ _)), two_cell1 (Q8.out w4 (Fr.refl _ _))⟩
  go_wp2_with fail
  refine (M.copy n _ E _ (HrC.out w4 (Fr.refl _ _)) Hn.out.1 (by have := HEl.out; omega) HEf.out).mono ?_
  unfold histV
  rintro r x2 ⟨⟨v2, rfl, hr2, hown⟩, g⟩
  have Hr2 : Hid (RdV x2 v2 E) := hr2
  have Hown : Hid (0 < E.length → OwnV x2 v2 E ∧ ∀ k, v2.ownBlock = some k → w4.heap.size ≤ k) := hown
  have G2 : Hid (Fr w4 x2 (fun _ => False)) := g
  obtain ⟨ad, cd, rfl⟩ : ∃ a c, v2 = .slice a m c := by obtain ⟨a, c, e, -⟩ := hr2.form; rw [← Hm.out] at e; exact ⟨a, c, e⟩
  clear g hr2 hown ka kb
  go_upto_region 8 with fail
  obtain ⟨p9, hp9⟩ : ∃ p, p = x2.heap.size := ⟨_, rfl⟩
  obtain ⟨w5, hw5⟩ : ∃ x, x = x2.alloc (.cells #[.int .u64 (n : Int), .slice ad m cd] 25) := ⟨_, rfl⟩
  rw [← hw5, ← hp9]
  have H9 : Hid (w5.heap[p9]? = some (.cells #[.int .u64 (n : Int), .slice ad m cd] 25 (0, 0))) := by show _ = _; rw [hw5, hp9]; exact heap_alloc_new _ _
  have H25 : Hid (Fr x2 w5 (fun _ => False)) := by show Fr _ _ _; rw [hw5]; exact (Fr.refl _ _).alloc _
  have H45 : Hid (Fr w4 w5 (fun _ => False)) := G2.out.none H25.out
  have Hx9 : Hid (x2.heap.size = p9) := hp9.symm
  clear hp9 hw5
  obtain ⟨ka, kb⟩ : w5.cell? ⟨p8, 0, none⟩ = some (.int .u64 (n : Int)) ∧ w5.cell? ⟨p8, 1, none⟩ = some (.slice ac m cc) := ⟨two_cell0 (Q8.out w5 H45.out), two_cell1 (Q8.out w5 H45.out)⟩
  obtain ⟨kc, kd⟩ : w5.cell? ⟨p7, 0, none⟩ = some (.int .u64 (n : Int)) ∧ w5.cell? ⟨p7, 1, none⟩ = some (.slice a2' m c2') := ⟨two_cell0 (Q7.out w5 (H34.out.none H45.out)), two_cell1 (Q7.out w5 (H34.out.none H45.out))⟩
  go_wp2_with fail
  refine (M.same n n _ _ E E _ (HrC.out w5 H45.out) (Hr3.out w5 (H34.out.none H45.out)) Hn.out.1 Hn.out.1 (by have := HEl.out; omega) (by have := HEl.out; omega) HEf.out HEf.out).mono ?_
  rw [show decide (n = n ∧ E = E) = true by simp]
  rintro r x3 ⟨rfl, g⟩
  have G3 : Hid (Fr w5 x3 (fun _ => False)) := g
  have H43 : Hid (Fr w4 x3 (fun _ => False)) := H45.out.none g
  clear g ka kb kc kd
  have H9b : Hid (x3.heap[p9]? = some (.cells #[.int .u64 (n : Int), .slice ad m cd] 25 (0, 0))) := G3.out.kept H9.out (fun h => h)
  obtain ⟨ka, kb⟩ : x3.cell? ⟨p9, 0, none⟩ = some (.int .u64 (n : Int)) ∧ x3.cell? ⟨p9, 1, none⟩ = some (.slice ad m cd) := ⟨two_cell0 H9b.out, two_cell1 H9b.out⟩
  obtain ⟨kc, kd⟩ : x3.cell? ⟨p7, 0, none⟩ = some (.int .u64 (n : Int)) ∧ x3.cell? ⟨p7, 1, none⟩ = some (.slice a2' m c2') := ⟨two_cell0 (Q7.out x3 (H34.out.none H43.out)), two_cell1 (Q7.out x3 (H34.out.none H43.out))⟩
  have em : ((m : Int) != (m : Int)) = false := by simp
  have em' : ((m : Int) == (m : Int)) = true := by simp
  obtain ⟨LF, hLF⟩ : ∃ L, L = lastF E := ⟨_, rfl⟩
  have HLF : Hid _ := hLF
  have eL : (LF == LF) = true := by simp
  clear hLF
  by_cases h0 : m = 0
  · subst h0
    go_wp2_with fail
    clear ka kb kc kd
    go_loopg [10] 1 (fun g I wr => ∃ i : Nat, g = 1 - i ∧ i = 0 ∧ I = .int .i64 (i : Int) ∧ wr = x3)
    case atStart => exact ⟨0, rfl, rfl, rfl, rfl⟩
    case round =>
      obtain ⟨i, hg, rfl, rfl, rfl⟩ := hrel
      obtain ⟨ka, kb⟩ : wr.cell? ⟨p9, 0, none⟩ = some (.int .u64 (n : Int)) ∧ wr.cell? ⟨p9, 1, none⟩ = some (.slice ad 0 cd) := ⟨two_cell0 H9b.out, two_cell1 H9b.out⟩
      clear hg
      obtain ⟨y0, hy0⟩ : ∃ x, x = wr.drew := ⟨_, rfl⟩
      have Y0 : Hid (Fr w4 y0 (fun _ => False)) := by show Fr _ _ _; rw [hy0]; exact H43.out.drew
      go_wp2_with fail
      refine wp_region_tree (fun _ => False) (.take 0 (.take 1 (.one 2 (.take 3 (.take 4 (.take 5 (.take 6 (.take 7 (.take 8 (.take 9 (.take 10 (.one 11 (.take 12 (.take 13 (.take 14 (.take 15 (.take 16 (.take 18 (.one 17 (.one 19 (.take 20 (.take 21 (.take 22 .nil))))))))))))))))))))))) (by kernel_rfl) (by kernel_rfl) (by decide) (by kernel_rfl) ?_
      rw [← hy0]
      clear hy0 ka kb
      have kp7a : ∀ z, Fr y0 z (fun _ => False) → z.cell? ⟨p7, 0, none⟩ = some (.int .u64 (n : Int)) := fun z hz => two_cell0 (Q7.out z (H34.out.none (Y0.out.none hz)))
      have kp7b : ∀ z, Fr y0 z (fun _ => False) → z.cell? ⟨p7, 1, none⟩ = some (.slice a2' 0 c2') := fun z hz => two_cell1 (Q7.out z (H34.out.none (Y0.out.none hz)))
      have kp8a : ∀ z, Fr y0 z (fun _ => False) → z.cell? ⟨p8, 0, none⟩ = some (.int .u64 (n : Int)) := fun z hz => two_cell0 (Q8.out z (Y0.out.none hz))
      have kp8b : ∀ z, Fr y0 z (fun _ => False) → z.cell? ⟨p8, 1, none⟩ = some (.slice ac 0 cc) := fun z hz => two_cell1 (Q8.out z (Y0.out.none hz))
      repeat (refine wpT_take (v := ?_) rfl rfl (fun x hx => ?_) ?_; rotate_left; (focus (go_simp; with_reducible rfl)); simp only [Act.put, List.setIfInBounds_toArray, List.set_cons_zero, List.set_cons_succ])
      refine wpT_one rfl rfl (fun K hK => ?_)
      go_simp
      refine (M.same n n _ _ E E _ (HrC.out _ Y0.out) (Hr3.out _ (H34.out.none Y0.out)) Hn.out.1 Hn.out.1 (by have := HEl.out; omega) (by have := HEl.out; omega) HEf.out HEf.out).mono ?_
      rw [show decide (n = n ∧ E = E) = true by simp]
      rintro r y4 ⟨rfl, g⟩
      refine hK _ _ g ?_
      clear hK K
      clear kp7a kp7b kp8a kp8b
      have Y4 : Hid (Fr w4 y4 (fun _ => False)) := Y0.out.none g
      clear g
      have kp7a : ∀ z, Fr y4 z (fun _ => False) → z.cell? ⟨p7, 0, none⟩ = some (.int .u64 (n : Int)) := fun z hz => two_cell0 (Q7.out z (H34.out.none (Y4.out.none hz)))
      have kp7b : ∀ z, Fr y4 z (fun _ => False) → z.cell? ⟨p7, 1, none⟩ = some (.slice a2' 0 c2') := fun z hz => two_cell1 (Q7.out z (H34.out.none (Y4.out.none hz)))
      have kp8a : ∀ z, Fr y4 z (fun _ => False) → z.cell? ⟨p8, 0, none⟩ = some (.int .u64 (n : Int)) := fun z hz => two_cell0 (Q8.out z (Y4.out.none hz))
      have kp8b : ∀ z, Fr y4 z (fun _ => False) → z.cell? ⟨p8, 1, none⟩ = some (.slice ac 0 cc) := fun z hz => two_cell1 (Q8.out z (Y4.out.none hz))
      repeat (refine wpT_take (v := ?_) rfl rfl (fun x hx => ?_) ?_; rotate_left; (focus (go_simp; with_reducible rfl)); simp only [Act.put, List.setIfInBounds_toArray, List.set_cons_zero, List.set_cons_succ])
      iterate 2 (refine wpT_pass rfl rfl ?_; simp only [Act.put, List.setIfInBounds_toArray, List.set_cons_zero, List.set_cons_succ])
      refine wpT_skip rfl rfl ?_
      simp only [Act.put, List.setIfInBounds_toArray, List.set_cons_zero, List.set_cons_succ]
      (refine wpT_pass rfl rfl ?_; simp only [Act.put, List.setIfInBounds_toArray, List.set_cons_zero, List.set_cons_succ])
      repeat (refine wpT_take (v := ?_) rfl rfl (fun x hx => ?_) ?_; rotate_left; (focus (go_simp; with_reducible rfl)); simp only [Act.put, List.setIfInBounds_toArray, List.set_cons_zero, List.set_cons_succ])
      clear kp7a kp7b kp8a kp8b
      refine wpT_one rfl rfl (fun K hK => ?_)
      go_simp
      refine (M.last n _ E _ (HrC.out _ Y4.out) Hn.out.1 (by have := HEl.out; omega) HEf.out).mono ?_
      rw [← HLF.out]
      rintro r y6 ⟨rfl, g⟩
      refine hK _ _ g ?_
      clear hK K
      have Y6 : Hid (Fr w4 y6 (fun _ => False)) := Y4.out.none g
      clear g
      refine wpT_one rfl rfl (fun K hK => ?_)
      go_simp
      refine (M.last n _ E _ (Hr3.out _ (H34.out.none Y6.out)) Hn.out.1 (by have := HEl.out; omega) HEf.out).mono ?_
      rw [← HLF.out]
      rintro r y7 ⟨rfl, g⟩
      refine hK _ _ g ?_
      clear hK K
      have Hfo : Hid (Fr w y7 (fun _ => False)) := Hw3.out.none (H34.out.none (Y6.out.none g))
      clear g
      repeat (refine wpT_take (v := ?_) rfl rfl (fun x hx => ?_) ?_; rotate_left; (focus (go_simp; with_reducible rfl)); simp only [Act.put, List.setIfInBounds_toArray, List.set_cons_zero, List.set_cons_succ])
      unfold wpT
      go_wp2_with fail
      go_ret
      exact ⟨rfl, ebelow Hfo.out⟩
  · obtain ⟨g9, rfl⟩ : ∃ g, ad = some ⟨g, 0, none⟩ := by
      rcases (Hown.out (by rw [← Hm.out]; omega)).1.2 with ⟨e, h⟩ | ⟨g, cap, cur, e, -⟩
      · rw [← Hm.out] at h; omega
      · simp only [Value.slice.injEq] at e; exact ⟨g, e.1⟩
    have HO : Hid (OwnV x2 (.slice (some ⟨g9, 0, none⟩) m cd) E) := (Hown.out (by rw [← Hm.out]; omega)).1
    have Hg4 : Hid (w4.heap.size ≤ g9) := (Hown.out (by rw [← Hm.out]; omega)).2 g9 rfl
    have Hg9 : Hid (g9 < p9) := by show _ < _; rw [← Hx9.out]; exact HO.out.lt g9 rfl
    have Hm' : Hid (E.length = m) := Hm.out.symm
    have HO3 : Hid (OwnV x3 (.slice (some ⟨g9, 0, none⟩) m cd) E) := HO.out.frame (H25.out.none G3.out) (fun _ _ h => h)
    obtain ⟨e0, he0⟩ : ∃ y, E[0]? = some y := ⟨_, List.getElem?_eq_getElem (by rw [Hm'.out]; omega)⟩
    have Hne : Hid (E ≠ modF E a2 m) := by rw [← Hm'.out]; exact modF_ne he0
    have d3 : ((m : Int) == 0) = false := by rw [beq_eq_false_iff_ne]; omega
    have d3' : (m == 0) = false := by rw [beq_eq_false_iff_ne]; exact h0
    clear he0 h0
    go_wp2_with fail
    clear ka kb kc kd em em'
    go_loopg [10] m (fun g I wr => ∃ j : Nat, g = m - j ∧ j ≤ m ∧ I = .int .i64 (j : Int) ∧ OwnV wr (.slice (some ⟨g9, 0, none⟩) m cd) (modF E a2 j) ∧ Fr x3 wr (fun k => k = g9))
    case atStart => exact ⟨0, by omega, by omega, rfl, by rw [modF_zero]; exact HO3.out, Fr.refl _ _⟩
    case round =>
      obtain ⟨j, hg, hj, rfl, ho, hf⟩ := hrel
      have Hg : Hid _ := hg
      have Hoj : Hid (OwnV wr (.slice (some ⟨g9, 0, none⟩) m cd) (modF E a2 j)) := ho
      have Hf : Hid (Fr x3 wr (fun k => k = g9)) := hf
      have H4r : Hid (Fr w4 wr (fun _ => False)) := H43.out.newer hf (fun k h => by have := Hg4.out; omega)
      have H9r : Hid (wr.heap[p9]? = some (.cells #[.int .u64 (n : Int), .slice (some ⟨g9, 0, none⟩) m cd] 25 (0, 0))) := hf.kept H9b.out (fun h => by have := Hg9.out; omega)
      have Hml : Hid ((modF E a2 j).length = m) := by show _ = _; rw [modF_length]; exact Hm'.out
      clear hg ho hf
      obtain ⟨ka, kb⟩ : wr.cell? ⟨p9, 0, none⟩ = some (.int .u64 (n : Int)) ∧ wr.cell? ⟨p9, 1, none⟩ = some (.slice (some ⟨g9, 0, none⟩) m cd) := ⟨two_cell0 H9r.out, two_cell1 H9r.out⟩
      by_cases hlt : j < m
      · have hin : (j : Int) < (m : Int) := by omega
        have hin' : decide (j < m) = true := decide_eq_true hlt
        obtain ⟨⟨s, ⟨f1, f2⟩, ax⟩, hx⟩ : ∃ y, E[j]? = some y := ⟨_, List.getElem?_eq_getElem (by rw [Hm'.out]; exact hlt)⟩
        have Hx : Hid _ := hx
        have Hxm : Hid ((modF E a2 j)[j]? = some (s, (f1, f2), ax)) := modF_at hx
        obtain ⟨k0, k1, k2, k3⟩ := OwnV.cells4 Hoj.out Hml.out Hxm.out
        dsimp only at k0 k1 k2 k3
        have fz0 := OwnV.free Hoj.out Hml.out (j * 4)
        have hj0 : (0 : Int) ≤ (j : Int) := by omega
        clear hx
        go_upto_region 14 with fail
        have HO1 : OwnV (wr.setCell ⟨g9, j * 4, none⟩ (.int .i64 a2)) (.slice (some ⟨g9, 0, none⟩) m cd) ((modF E a2 j).set j (a2, (f1, f2), ax)) := OwnV.put Hoj.out Hml.out (k := 0) Hxm.out (by omega) rfl
        have F1 : Fr x3 (wr.setCell ⟨g9, j * 4, none⟩ (.int .i64 a2)) (fun k => k = g9) := Hf.out.trans (fr_cell wr _ _ _) (fun _ _ h => h)
        clear k0 k1 k2 k3 fz0 ka kb
        generalize wr.setCell ⟨g9, j * 4, none⟩ (.int .i64 a2) = y1 at HO1 F1 ⊢
        have HO1' : Hid (OwnV y1 (.slice (some ⟨g9, 0, none⟩) m cd) ((modF E a2 j).set j (a2, (f1, f2), ax))) := HO1
        have F1' : Hid (Fr x3 y1 (fun k => k = g9)) := F1
        have Hml1 : Hid (((modF E a2 j).set j (a2, (f1, f2), ax)).length = m) := by show _ = _; rw [List.length_set]; exact Hml.out
        have Hx1 : Hid (((modF E a2 j).set j (a2, (f1, f2), ax))[j]? = some (a2, (f1, f2), ax)) := by show _ = _; rw [List.getElem?_set, if_pos rfl, if_pos (by rw [Hml.out]; exact hlt)]
        clear HO1 F1
        obtain ⟨k0, k1, k2, k3⟩ := OwnV.cells4 HO1'.out Hml1.out Hx1.out
        dsimp only at k0 k1 k2 k3
        have fz3 := OwnV.free HO1'.out Hml1.out (j * 4 + 3)
        have H9y : Hid (∀ z, Fr y1 z (fun k => k = g9) → z.heap[p9]? = some (.cells #[.int .u64 (n : Int), .slice (some ⟨g9, 0, none⟩) m cd] 25 (0, 0))) := fun z hz => (F1'.out.trans hz (fun _ _ h => h)).kept H9b.out (fun h => by have := Hg9.out; omega)
        have ka : ∀ z, Fr y1.drew z (fun k => k = g9) → z.cell? ⟨p9, 1, none⟩ = some (.slice (some ⟨g9, 0, none⟩) m cd) := fun z hz => two_cell1 (H9y.out z ((Fr.refl y1 _).drew.trans hz (fun _ _ h => h)))
        go_wp2_with fail
        refine wp_region_tree (fun k => k = g9) (.take 0 (.take 1 (.take 2 (.take 3 (.take 4 (.take 5 (.take 6 (.take 7 (.one 8 (.take 9 (.take 10 (.take 11 (.one 12 .nil))))))))))))) (by kernel_rfl) (by kernel_rfl) (by decide) (by kernel_rfl) ?_
        repeat (refine wpT_take (v := ?_) rfl rfl (fun x hx => ?_) ?_; rotate_left; (focus (go_simp; with_reducible rfl)); simp only [Act.put, List.setIfInBounds_toArray, List.set_cons_zero, List.set_cons_succ])
        refine wpT_one rfl rfl (fun K hK => ?_)
        go_simp
        refine hK _ _ (Fr.refl _ _) ?_
        clear hK K
        repeat (refine wpT_take (v := ?_) rfl rfl (fun x hx => ?_) ?_; rotate_left; (focus (go_simp; with_reducible rfl)); simp only [Act.put, List.setIfInBounds_toArray, List.set_cons_zero, List.set_cons_succ])
        refine wpT_one rfl rfl (fun K hK => ?_)
        go_simp
        refine hK _ _ (fr_cell y1.drew _ _ _) ?_
        clear hK K ka k0 k1 k2 k3 fz3
        have HO2 : OwnV (y1.setCell ⟨g9, j * 4 + 3, none⟩ (.bool (!ax))).drew (.slice (some ⟨g9, 0, none⟩) m cd) (modF E a2 (j + 1)) := by
          have h1 := OwnV.put HO1'.out Hml1.out (k := 3) (y := (a2, (f1, f2), !ax)) (u := .bool (!ax)) Hx1.out (by omega) rfl
          rw [List.set_set] at h1
          have h2 := modF_succ (t := a2) Hx.out
          rw [show modE a2 (s, (f1, f2), ax) = (a2, (f1, f2), !ax) from rfl] at h2
          rw [h2] at h1
          exact h1
        have F2 : Fr x3 (y1.setCell ⟨g9, j * 4 + 3, none⟩ (.bool (!ax))).drew (fun k => k = g9) := (F1'.out.trans (fr_cell y1 _ _ _) (fun _ _ h => h)).drew
        generalize (y1.setCell ⟨g9, j * 4 + 3, none⟩ (.bool (!ax))).drew = y2 at HO2 F2 ⊢
        have HO2' : Hid (OwnV y2 (.slice (some ⟨g9, 0, none⟩) m cd) (modF E a2 (j + 1))) := HO2
        have F2' : Hid (Fr x3 y2 (fun k => k = g9)) := F2
        clear HO2 F2
        unfold wpT
        go_wp2_with fail
        go_roundg (m - (j + 1))
        case rel => exact ⟨j + 1, rfl, by omega, by go_num, HO2'.out, F2'.out⟩
        case measure => rw [Hg.out]; omega
      · have hin : ¬ (j : Int) < (m : Int) := by omega
        have hin' : decide (j < m) = false := decide_eq_false hlt
        obtain rfl : j = m := by omega
        have Hrd : Hid (∀ z, Fr wr z (fun _ => False) → RdV z (.slice (some ⟨g9, 0, none⟩) j cd) (modF E a2 j)) := fun z hz => Hoj.out.rd.keep hz
        have Q9 : Hid (∀ z, Fr wr z (fun _ => False) → z.heap[p9]? = some (.cells #[.int .u64 (n : Int), .slice (some ⟨g9, 0, none⟩) j cd] 25 (0, 0))) := fun z hz => hz.kept H9r.out (fun h => h)
        have HmF : Hid (∀ x ∈ modF E a2 j, EvFit x) := mod_fit HEf.out Hz.out
        obtain ⟨y0, hy0⟩ : ∃ x, x = wr.drew := ⟨_, rfl⟩
        have Y9 : Hid (Fr wr y0 (fun _ => False)) := by show Fr _ _ _; rw [hy0]; exact (Fr.refl _ _).drew
        have Y0 : Hid (Fr w4 y0 (fun _ => False)) := H4r.out.none Y9.out
        go_wp2_with fail
        refine wp_region_tree (fun _ => False) (.take 0 (.take 1 (.one 2 (.take 3 (.take 4 (.take 5 (.take 6 (.take 7 (.take 8 (.take 9 (.take 10 (.one 11 (.take 12 (.take 13 (.take 14 (.take 15 (.take 16 (.take 18 (.one 17 (.one 19 (.take 20 (.take 21 (.take 22 .nil))))))))))))))))))))))) (by kernel_rfl) (by kernel_rfl) (by decide) (by kernel_rfl) ?_
        rw [← hy0]
        clear hy0 ka kb
        have kp7a : ∀ z, Fr y0 z (fun _ => False) → z.cell? ⟨p7, 0, none⟩ = some (.int .u64 (n : Int)) := fun z hz => two_cell0 (Q7.out z (H34.out.none (Y0.out.none hz)))
        have kp7b : ∀ z, Fr y0 z (fun _ => False) → z.cell? ⟨p7, 1, none⟩ = some (.slice a2' j c2') := fun z hz => two_cell1 (Q7.out z (H34.out.none (Y0.out.none hz)))
        have kp8a : ∀ z, Fr y0 z (fun _ => False) → z.cell? ⟨p8, 0, none⟩ = some (.int .u64 (n : Int)) := fun z hz => two_cell0 (Q8.out z (Y0.out.none hz))
        have kp8b : ∀ z, Fr y0 z (fun _ => False) → z.cell? ⟨p8, 1, none⟩ = some (.slice ac j cc) := fun z hz => two_cell1 (Q8.out z (Y0.out.none hz))
        have kp9a : ∀ z, Fr y0 z (fun _ => False) → z.cell? ⟨p9, 0, none⟩ = some (.int .u64 (n : Int)) := fun z hz => two_cell0 (Q9.out z (Y9.out.none hz))
        have kp9b : ∀ z, Fr y0 z (fun _ => False) → z.cell? ⟨p9, 1, none⟩ = some (.slice (some ⟨g9, 0, none⟩) j cd) := fun z hz => two_cell1 (Q9.out z (Y9.out.none hz))
        repeat (refine wpT_take (v := ?_) rfl rfl (fun x hx => ?_) ?_; rotate_left; (focus (go_simp; with_reducible rfl)); simp only [Act.put, List.setIfInBounds_toArray, List.set_cons_zero, List.set_cons_succ])
        refine wpT_one rfl rfl (fun K hK => ?_)
        go_simp
        refine (M.same n n _ _ E E _ (HrC.out _ Y0.out) (Hr3.out _ (H34.out.none Y0.out)) Hn.out.1 Hn.out.1 (by have := HEl.out; omega) (by have := HEl.out; omega) HEf.out HEf.out).mono ?_
        rw [show decide (n = n ∧ E = E) = true by simp]
        rintro r y4 ⟨rfl, g⟩
        refine hK _ _ g ?_
        clear hK K
        clear kp7a kp7b kp8a kp8b kp9a kp9b
        have Y4 : Hid (Fr w4 y4 (fun _ => False)) := Y0.out.none g
        have Y94 : Hid (Fr wr y4 (fun _ => False)) := Y9.out.none g
        clear g
        have kp7a : ∀ z, Fr y4 z (fun _ => False) → z.cell? ⟨p7, 0, none⟩ = some (.int .u64 (n : Int)) := fun z hz => two_cell0 (Q7.out z (H34.out.none (Y4.out.none hz)))
        have kp7b : ∀ z, Fr y4 z (fun _ => False) → z.cell? ⟨p7, 1, none⟩ = some (.slice a2' j c2') := fun z hz => two_cell1 (Q7.out z (H34.out.none (Y4.out.none hz)))
        have kp8a : ∀ z, Fr y4 z (fun _ => False) → z.cell? ⟨p8, 0, none⟩ = some (.int .u64 (n : Int)) := fun z hz => two_cell0 (Q8.out z (Y4.out.none hz))
        have kp8b : ∀ z, Fr y4 z (fun _ => False) → z.cell? ⟨p8, 1, none⟩ = some (.slice ac j cc) := fun z hz => two_cell1 (Q8.out z (Y4.out.none hz))
        have kp9a : ∀ z, Fr y4 z (fun _ => False) → z.cell? ⟨p9, 0, none⟩ = some (.int .u64 (n : Int)) := fun z hz => two_cell0 (Q9.out z (Y94.out.none hz))
        have kp9b : ∀ z, Fr y4 z (fun _ => False) → z.cell? ⟨p9, 1, none⟩ = some (.slice (some ⟨g9, 0, none⟩) j cd) := fun z hz => two_cell1 (Q9.out z (Y94.out.none hz))
        repeat (refine wpT_take (v := ?_) rfl rfl (fun x hx => ?_) ?_; rotate_left; (focus (go_simp; with_reducible rfl)); simp only [Act.put, List.setIfInBounds_toArray, List.set_cons_zero, List.set_cons_succ])
        refine wpT_one rfl rfl (fun K hK => ?_)
        go_simp
        refine (M.same n n _ _ E (modF E a2 j) _ (HrC.out _ Y4.out) (Hrd.out _ Y94.out) Hn.out.1 Hn.out.1 (by have := HEl.out; omega) (by rw [Hml.out]; omega) HEf.out HmF.out).mono ?_
        rw [show decide (n = n ∧ E = modF E a2 j) = false from decide_eq_false (fun h => Hne.out h.2)]
        rintro r y5 ⟨rfl, g⟩
        refine hK _ _ g ?_
        clear hK K
        clear kp7a kp7b kp8a kp8b kp9a kp9b
        have Y5 : Hid (Fr w4 y5 (fun _ => False)) := Y4.out.none g
        clear g
        have kp7a : ∀ z, Fr y5 z (fun _ => False) → z.cell? ⟨p7, 0, none⟩ = some (.int .u64 (n : Int)) := fun z hz => two_cell0 (Q7.out z (H34.out.none (Y5.out.none hz)))
        have kp7b : ∀ z, Fr y5 z (fun _ => False) → z.cell? ⟨p7, 1, none⟩ = some (.slice a2' j c2') := fun z hz => two_cell1 (Q7.out z (H34.out.none (Y5.out.none hz)))
        have kp8a : ∀ z, Fr y5 z (fun _ => False) → z.cell? ⟨p8, 0, none⟩ = some (.int .u64 (n : Int)) := fun z hz => two_cell0 (Q8.out z (Y5.out.none hz))
        have kp8b : ∀ z, Fr y5 z (fun _ => False) → z.cell? ⟨p8, 1, none⟩ = some (.slice ac j cc) := fun z hz => two_cell1 (Q8.out z (Y5.out.none hz))
        repeat (refine wpT_take (v := ?_) rfl rfl (fun x hx => ?_) ?_; rotate_left; (focus (go_simp; with_reducible rfl)); simp only [Act.put, List.setIfInBounds_toArray, List.set_cons_zero, List.set_cons_succ])
        clear kp7a kp7b kp8a kp8b
        refine wpT_one rfl rfl (fun K hK => ?_)
        go_simp
        refine (M.last n _ E _ (HrC.out _ Y5.out) Hn.out.1 (by have := HEl.out; omega) HEf.out).mono ?_
        rw [← HLF.out]
        rintro r y6 ⟨rfl, g⟩
        refine hK _ _ g ?_
        clear hK K
        have Y6 : Hid (Fr w4 y6 (fun _ => False)) := Y5.out.none g
        clear g
        refine wpT_one rfl rfl (fun K hK => ?_)
        go_simp
        refine (M.last n _ E _ (Hr3.out _ (H34.out.none Y6.out)) Hn.out.1 (by have := HEl.out; omega) HEf.out).mono ?_
        rw [← HLF.out]
        rintro r y7 ⟨rfl, g⟩
        refine hK _ _ g ?_
        clear hK K
        have Hfo : Hid (Fr w y7 (fun _ => False)) := Hw3.out.none (H34.out.none (Y6.out.none g))
        clear g
        repeat (refine wpT_take (v := ?_) rfl rfl (fun x hx => ?_) ?_; rotate_left; (focus (go_simp; with_reducible rfl)); simp only [Act.put, List.setIfInBounds_toArray, List.set_cons_zero, List.set_cons_succ])
        unfold wpT
        go_wp2_with fail
        go_ret
        exact ⟨rfl, ebelow Hfo.out⟩

end Go.Proofs.Ytojeaggnknnnoaa.historyCopies

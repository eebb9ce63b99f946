/-
  The walk of the law HistoryUpto, under the condition that the program's functions answer as their contracts say.
-/
import Derived.Test.YtojeaggnknnnoaaRows
import Derived.Test.YtojeaggnknnnoaaXHI
import Derived.Test.YtojeaggnknnnoaaXHist
import Derived.Test.YtojeaggnknnnoaaXTime
import Derived.Test.YtojeaggnknnnoaaXSame
import Derived.Test.YtojeaggnknnnoaaZRow
namespace Go.Proofs.Ytojeaggnknnnoaa.historyUpto
open Go.ChangeShapes Go.WideShapes Go.ChangeAt Go.RowKit

theorem eu8 (n : Int) (h : (Lit.int .u8 n).wf = true) : 0 ≤ n ∧ n < (256 : Nat) := by have := bounds_u8 h; omega
theorem ebelow {w w' : World} (h : Fr w w' (fun _ => False)) : Below w.heap.size w w' := h.below (Nat.le_refl _) (fun _ h => h.elim)
theorem upto_le (evs : List Ev) (t : Int) : uptoF evs t ≤ evs.length := by unfold uptoF; exact (List.takeWhile_sublist _).length_le
theorem take_here {p : Ev → Bool} : ∀ {l : List Ev} {j : Nat} {y : Ev}, j < (l.takeWhile p).length → l[j]? = some y → p y = true
  | [], _, _, h, _ => by simp at h
  | x :: l, j, y, h, hy => by
    rw [List.takeWhile_cons] at h
    split at h
    · rename_i hx
      cases j with
      | zero => simp at hy; rw [← hy]; exact hx
      | succ j => exact take_here (by simpa using h) (by simpa using hy)
    · simp at h
theorem take_end {p : Ev → Bool} : ∀ {l : List Ev} {y : Ev}, l[(l.takeWhile p).length]? = some y → p y = false
  | [], _, h => by simp at h
  | x :: l, y, h => by
    rw [List.takeWhile_cons] at h
    split at h
    · rename_i hx
      exact take_end (l := l) (by simpa using h)
    · rename_i hx
      simp at h
      rw [← h]
      simpa using hx
theorem upto_all {evs : List Ev} {t : Int} (h : ∀ x ∈ evs, x.1 ≤ t) : uptoF evs t = evs.length := by
  unfold uptoF
  exact takeWhile_len (Nat.le_refl _) (fun j x _ hx => decide_eq_true (h x (List.mem_of_getElem? hx))) (fun x hx => by rw [List.getElem?_eq_none (Nat.le_refl _)] at hx; cases hx)

theorem timeF_fit {E : List Ev} {k : Nat} {T : Int} (h : T = timeF E k) (hE : ∀ x ∈ E, 0 ≤ x.1 ∧ x.1 ≤ 4611686018427387903) : -9223372036854775808 ≤ T ∧ T ≤ 9223372036854775807 := by
  rw [h]
  unfold timeF
  split
  · have h6 : k % 6 = 0 ∨ k % 6 = 1 ∨ k % 6 = 2 ∨ k % 6 = 3 ∨ k % 6 = 4 ∨ k % 6 = 5 := by omega
    rcases h6 with h | h | h | h | h | h <;> rw [h] <;> decide
  · rename_i hn
    have hi : k / 3 % E.length < E.length := Nat.mod_lt _ (by omega)
    obtain ⟨a, ha⟩ : ∃ a, E[k / 3 % E.length]? = some a := ⟨_, List.getElem?_eq_getElem hi⟩
    have := hE a (List.mem_of_getElem? ha)
    rw [List.getD_eq_getElem?_getD, ha, Option.getD_some]
    omega

set_option maxRecDepth 4000 in
set_option maxHeartbeats 3200000 in
theorem walkM (M : HI) (a0 : Int) (a1 : Option Addr) (len1 cap1 : Nat) (z1 : List Int) (a2 : Int) (a3 : Int) (w : World) (w0 : (Lit.int .u8 a0).wf = true) (w1 : IsRow .u8 w a1 len1 cap1 z1) (w2 : (Lit.int .i64 a2).wf = true) (w3 : (Lit.int .u8 a3).wf = true) :
    Calls Try.prog 4 #[.int .u8 a0, .slice a1 len1 cap1, .int .i64 a2, .int .u8 a3] w fun e w' => e = .returned (.bool true) ∧ Below w.heap.size w w' := by
  obtain ⟨bs, hbl, hbb, hbr, -⟩ := reads_isRow eu8 (by decide) w1
  obtain ⟨k, rfl⟩ : ∃ k : Nat, a0 = (k : Int) := ⟨a0.toNat, by have := eu8 a0 w0; omega⟩
  obtain ⟨near, rfl⟩ : ∃ k : Nat, a3 = (k : Int) := ⟨a3.toNat, by have := eu8 a3 w3; omega⟩
  have hk := (eu8 _ w0).2
  have hne := (eu8 _ w3).2
  have Hk : Hid (k < 256 ∧ near < 256) := by constructor <;> omega
  have Ht : Hid (-9223372036854775808 ≤ a2 ∧ a2 ≤ 9223372036854775807) := by have := bounds_i64 w2; show _ ∧ _; omega
  have Hbs : Hid (Reads .u8 w (.slice a1 len1 cap1) bs) := hbr
  have Hbb : Hid (∀ x ∈ bs, x < 256) := fun x hx => by
    obtain ⟨i, hi⟩ := List.getElem?_of_mem hx
    have := hbb i
    rw [List.getD_eq_getElem?_getD, hi] at this
    exact this
  have Hbl : Hid _ := hbl
  clear hbl hbb hbr w0 w1 w2 w3 hk hne
  go_enter Try.func4, Try.ntmps4
  go_wp2_with fail
  refine (hknown_any M w).mono ?_
  rintro e w1 ⟨rfl, hf1⟩
  have Hf1 : Hid (Fr w w1 (fun _ => False)) := hf1
  clear hf1
  by_cases h60 : 60 < len1
  · have d1 : decide ((60 : Int) < (len1 : Int)) = true := decide_eq_true (by omega)
    have d1' : decide (60 < len1) = true := decide_eq_true h60
    go_wp2
    go_ret
    exact ⟨rfl, ebelow Hf1.out⟩
  have d1 : decide ((60 : Int) < (len1 : Int)) = false := decide_eq_false (by omega)
  have d1' : decide (60 < len1) = false := decide_eq_false h60
  have Hl60 : Hid (bs.length ≤ 60) := by have := Hbl.out; exact (by omega : bs.length ≤ 60)
  clear h60
  go_wp2_with fail
  refine (seatHistory_any k _ bs _ (Hbs.out.keep Hf1.out) Hbb.out (by have := Hl60.out; omega) Hk.out.1).mono ?_
  rintro r w2 ⟨⟨v2, rfl, hr2, -⟩, g⟩
  obtain ⟨n, hn⟩ : ∃ n, n = vertF k := ⟨_, rfl⟩
  obtain ⟨E, hE⟩ : ∃ E, E = histE k bs := ⟨_, rfl⟩
  have hnb := vertF_bounds k
  have hEl := hist_length k bs
  have hEo := hist_ok k bs
  have hEs := hist_sorted k bs
  rw [← hn] at hnb hEo ⊢
  rw [← hE] at hEl hEo hEs hr2
  have Hn : Hid (n < 18446744073709551616 ∧ n ≤ 4294967296) := by constructor <;> omega
  have HEl : Hid (E.length ≤ 40) := hEl
  have HEo : Hid (∀ x ∈ E, 0 ≤ x.1 ∧ x.1 ≤ 4611686018427387903) := fun x hx => by have h1 := hEo x hx; have h2 := Hl60.out; obtain ⟨h3, h4, -⟩ := h1; constructor <;> omega
  have HEf : Hid (∀ x ∈ E, EvFit x) := fun x hx => by
    have h1 := hEo x hx
    obtain ⟨h3, h4⟩ := HEo.out x hx
    obtain ⟨-, -, h5⟩ := h1
    unfold eRight at h5
    have h6 := of_decide_eq_true h5
    have h7 := Hn.out
    unfold EvFit
    omega
  have HEs : Hid (SortedT E) := sorted_times hEs
  obtain ⟨a2', c2', rfl, -⟩ := RdV.form hr2
  obtain ⟨m, hm⟩ : ∃ m, m = E.length := ⟨_, rfl⟩
  rw [← hm] at hr2 ⊢
  have Hm : Hid _ := hm
  have Hr2 : Hid (RdV w2 (.slice a2' m c2') E) := hr2
  have Hf2 : Hid (Fr w w2 (fun _ => False)) := Hf1.out.none g
  have hm40 : m ≤ 40 := by omega
  clear g hn hE hnb hEl hEo hEs hr2 hm
  unfold histV
  go_upto_region 6 with fail
  obtain ⟨p9, hp9⟩ : ∃ p, p = w2.heap.size := ⟨_, rfl⟩
  obtain ⟨w3, hw3⟩ : ∃ x, x = w2.alloc (.cells #[.int .u64 (n : Int), .slice a2' m c2'] 25) := ⟨_, rfl⟩
  rw [← hw3, ← hp9]
  have Q9 : Hid (∀ z, Fr w3 z (fun _ => False) → z.heap[p9]? = some (.cells #[.int .u64 (n : Int), .slice a2' m c2'] 25 (0, 0))) := fun z hz => hz.kept (by rw [hw3, hp9]; exact heap_alloc_new _ _) (fun h => h)
  have Hr3 : Hid (∀ z, Fr w3 z (fun _ => False) → RdV z (.slice a2' m c2') E) := fun z hz => Hr2.out.keep ((show Fr w2 w3 (fun _ => False) by rw [hw3]; exact (Fr.refl _ _).alloc _).none hz)
  have Hw3 : Hid (Fr w w3 (fun _ => False)) := by show Fr _ _ _; rw [hw3]; exact Hf2.out.alloc _
  clear hp9 hw3 Hf1 Hf2 Hr2 Hbs
  obtain ⟨T1, hT1⟩ : ∃ t, t = timeF E near := ⟨_, rfl⟩
  obtain ⟨T2, hT2⟩ : ∃ t, t = timeF E (near / 2) := ⟨_, rfl⟩
  have HT1 : Hid _ := hT1
  have HT2 : Hid _ := hT2
  obtain ⟨q, hq⟩ : ∃ q, q = near / 2 := ⟨_, rfl⟩
  rw [← hq] at HT2
  have Hq : Hid (q < 256) := by have := Hk.out; exact (by omega : q < 256)
  have wq1 : (near : Int) / 2 = (q : Int) := by omega
  have wq2 : (near : Int).tdiv 2 = (q : Int) := by rw [Int.tdiv_eq_ediv_of_nonneg (by omega)]; omega
  have wq3 : IntKind.u8.wrap (q : Int) = (q : Int) := by rw [IntKind.wrap_u8]; have := Hq.out; omega
  have wq4 : IntKind.u8.wrap ((near : Int) / 2) = (q : Int) := by rw [wq1]; exact wq3
  obtain ⟨x0, hx0⟩ : ∃ x, x = w3.drew := ⟨_, rfl⟩
  have G0 : Hid (Fr w3 x0 (fun _ => False)) := by show Fr _ _ _; rw [hx0]; exact (Fr.refl _ _).drew
  clear hq hT1 hT2
  go_wp2_with fail
  refine wp_region_tree (fun _ => False) (.take 0 (.take 1 (.take 2 (.take 4 (.take 5 (.take 6 (.take 10 (.one 3 (.one 7 (.one 8 (.take 9 .nil))))))))))) (by kernel_rfl) (by kernel_rfl) (by decide) (by kernel_rfl) ?_
  rw [← hx0]
  clear hx0
  have ka : ∀ z, Fr x0 z (fun _ => False) → z.cell? ⟨p9, 0, none⟩ = some (.int .u64 (n : Int)) := fun z hz => two_cell0 (Q9.out z (G0.out.none hz))
  have kb : ∀ z, Fr x0 z (fun _ => False) → z.cell? ⟨p9, 1, none⟩ = some (.slice a2' m c2') := fun z hz => two_cell1 (Q9.out z (G0.out.none hz))
  repeat (refine wpT_take (v := ?_) rfl rfl (fun x hx => ?_) ?_; rotate_left; (focus (go_simp; with_reducible rfl)); simp only [Act.put, List.setIfInBounds_toArray, List.set_cons_zero, List.set_cons_succ])
  clear ka kb wq1 wq2 wq3 wq4
  refine wpT_one rfl rfl (fun K hK => ?_)
  go_simp
  refine (seatTime_any n _ E near _ (Hr3.out _ G0.out) (by have := HEl.out; omega) HEo.out Hk.out.2).mono ?_
  rw [← HT1.out]
  rintro r x1 ⟨rfl, g⟩
  refine hK _ _ g ?_
  clear hK K
  have G1 : Hid (Fr w3 x1 (fun _ => False)) := G0.out.none g
  clear g
  refine wpT_one rfl rfl (fun K hK => ?_)
  go_simp
  refine (seatTime_any n _ E q _ (Hr3.out _ G1.out) (by have := HEl.out; omega) HEo.out Hq.out).mono ?_
  rw [← HT2.out]
  rintro r x2 ⟨rfl, g⟩
  refine hK _ _ g ?_
  clear hK K
  have G2 : Hid (Fr w3 x2 (fun _ => False)) := G1.out.none g
  clear g
  refine wpT_one rfl rfl (fun K hK => ?_)
  go_simp
  refine hK _ _ ((Fr.refl x2 _).alloc _) ?_
  clear hK K
  obtain ⟨pT, hpT⟩ : ∃ p, p = x2.heap.size := ⟨_, rfl⟩
  have Hlit : Hid (ReadsZ (x2.alloc (.cells #[.int .i64 a2, .int .i64 T1, .int .i64 T2] 2)) (.slice (some ⟨x2.heap.size, 0, none⟩) 3 3) [a2, T1, T2]) := holds_lit x2 2 (zrow [a2, T1, T2]) (by simp [zrow])
  have G3 : Hid (Fr w3 (x2.alloc (.cells #[.int .i64 a2, .int .i64 T1, .int .i64 T2] 2)) (fun _ => False)) := G2.out.alloc _
  rw [← hpT] at Hlit ⊢
  clear hpT
  generalize x2.alloc (.cells #[.int .i64 a2, .int .i64 T1, .int .i64 T2] 2) = x3 at Hlit G3 ⊢
  try simp only [Act.put, List.setIfInBounds_toArray, List.set_cons_zero, List.set_cons_succ]
  repeat (refine wpT_take (v := ?_) rfl rfl (fun x hx => ?_) ?_; rotate_left; (focus (go_simp; with_reducible rfl)); simp only [Act.put, List.setIfInBounds_toArray, List.set_cons_zero, List.set_cons_succ])
  have HT1b : Hid (-9223372036854775808 ≤ T1 ∧ T1 ≤ 9223372036854775807) := timeF_fit HT1.out HEo.out
  have HT2b : Hid (-9223372036854775808 ≤ T2 ∧ T2 ≤ 9223372036854775807) := timeF_fit HT2.out HEo.out
  unfold wpT
  go_wp2_with fail
  go_loopg [31] 3 (fun g I wr => ∃ i : Nat, g = 3 - i ∧ i ≤ 3 ∧ I = .int .i64 (i : Int) ∧ Fr x3 wr (fun _ => False))
  case atStart => exact ⟨0, by omega, by omega, rfl, Fr.refl _ _⟩
  case round =>
    obtain ⟨i, hg, hi, rfl, hf⟩ := hrel
    have Hg : Hid _ := hg
    have Hf : Hid (Fr w3 wr (fun _ => False)) := G3.out.none hf
    have Hf3 : Hid (Fr x3 wr (fun _ => False)) := hf
    clear hg hf
    by_cases hlt : i < 3
    · have hin : (i : Int) < 3 := by omega
      have hin' : decide (i < 3) = true := decide_eq_true hlt
      obtain ⟨x, hx⟩ : ∃ x, [a2, T1, T2][i]? = some x := ⟨_, List.getElem?_eq_getElem (by simpa using hlt)⟩
      have Hxb : Hid (-9223372036854775808 ≤ x ∧ x ≤ 9223372036854775807) := by
        have := List.mem_of_getElem? hx
        simp only [List.mem_cons, List.not_mem_nil, or_false] at this
        rcases this with rfl | rfl | rfl
        · exact Ht.out
        · exact HT1b.out
        · exact HT2b.out
      obtain ⟨b, off, c, e4, hc⟩ := (Hlit.out.keep Hf3.out).get i x hx
      simp only [List.length_cons, List.length_nil, Value.slice.injEq, Option.some.injEq, Addr.mk.injEq] at e4
      obtain ⟨⟨rfl, rfl, -⟩, -, -⟩ := e4
      rw [Nat.zero_add] at hc
      have hi0 : (0 : Int) ≤ (i : Int) := by omega
      obtain ⟨ka, kb⟩ : wr.cell? ⟨p9, 0, none⟩ = some (.int .u64 (n : Int)) ∧ wr.cell? ⟨p9, 1, none⟩ = some (.slice a2' m c2') := ⟨two_cell0 (Q9.out wr Hf.out), two_cell1 (Q9.out wr Hf.out)⟩
      clear hx
      go_wp2_with fail
      refine (M.upto n _ E x _ (Hr3.out _ Hf.out) HEs.out Hn.out.1 (by have := HEl.out; omega) HEf.out Hxb.out.1 Hxb.out.2).mono ?_
      obtain ⟨u, hu⟩ : ∃ u, u = uptoF E x := ⟨_, rfl⟩
      rw [← hu]
      have Hu : Hid _ := hu
      have hum : u ≤ m := by rw [hu, Hm.out]; exact upto_le E x
      rintro r x4 ⟨rfl, g⟩
      have G4 : Hid (Fr w3 x4 (fun _ => False)) := Hf.out.none g
      have Hg4 : Hid (Fr wr x4 (fun _ => False)) := g
      clear g ka kb hu hc
      obtain ⟨ka, kb⟩ : x4.cell? ⟨p9, 0, none⟩ = some (.int .u64 (n : Int)) ∧ x4.cell? ⟨p9, 1, none⟩ = some (.slice a2' m c2') := ⟨two_cell0 (Q9.out x4 G4.out), two_cell1 (Q9.out x4 G4.out)⟩
      go_wp2_with fail
      refine (refUpto_any n _ E x _ (Hr3.out _ G4.out) (by have := HEl.out; omega)).mono ?_
      rw [← Hu.out]
      rintro r x5 ⟨rfl, g⟩
      have G5 : Hid (Fr w3 x5 (fun _ => False)) := G4.out.none g
      have Hg5 : Hid (Fr x4 x5 (fun _ => False)) := g
      clear g ka kb
      obtain ⟨ka, kb⟩ : x5.cell? ⟨p9, 0, none⟩ = some (.int .u64 (n : Int)) ∧ x5.cell? ⟨p9, 1, none⟩ = some (.slice a2' m c2') := ⟨two_cell0 (Q9.out x5 G5.out), two_cell1 (Q9.out x5 G5.out)⟩
      have Hfx : Hid (Fr x3 x5 (fun _ => False)) := (Hf3.out.none Hg4.out).none Hg5.out
      have e1 : ((u : Int) != (u : Int)) = false := by simp
      have e1' : ((u : Int) == (u : Int)) = true := by simp
      have e2 : decide ((u : Int) < 0) = false := decide_eq_false (by omega)
      have e3 : decide ((m : Int) < (u : Int)) = false := decide_eq_false (by omega)
      have e3' : decide (m < u) = false := decide_eq_false (by omega)
      by_cases hu0 : u = 0
      · have d0 : decide ((0 : Int) < (u : Int)) = false := decide_eq_false (by omega)
        have d0' : decide (0 < u) = false := decide_eq_false (by omega)
        clear hu0
        by_cases hul : u < m
        · have f1 : decide ((u : Int) < (m : Int)) = true := decide_eq_true (by omega)
          have f1' : decide (u < m) = true := decide_eq_true hul
          have f2 : (u : Int) < (m : Int) := by omega
          have f3 : (0 : Int) ≤ (u : Int) := by omega
          obtain ⟨⟨s, ⟨f, g⟩, b⟩, hs⟩ : ∃ a, E[u]? = some a := ⟨_, List.getElem?_eq_getElem (by rw [← Hm.out]; omega)⟩
          have hs2 : decide (s ≤ x) = false := take_end (p := fun y => decide (y.1 ≤ x)) (y := (s, (f, g), b)) (by have h1 := Hu.out; unfold uptoF at h1; rw [← h1]; exact hs)
          obtain ⟨bk, off, cap, e5, -, hca⟩ := (Hr3.out x5 G5.out).get u _ hs
          simp only [Value.slice.injEq] at e5
          obtain ⟨rfl, -, rfl⟩ := e5
          have kc := (hca x5 (Fr.refl _ _)).1
          clear hca hs
          clear Hlit
          go_wp2_with fail
          go_roundg (3 - (i + 1))
          case rel => exact ⟨i + 1, rfl, by omega, by go_num, Hfx.out⟩
          case measure => rw [Hg.out]; omega
        · have f1 : decide ((u : Int) < (m : Int)) = false := decide_eq_false (by omega)
          have f1' : decide (u < m) = false := decide_eq_false hul
          clear Hlit
          go_wp2_with fail
          go_roundg (3 - (i + 1))
          case rel => exact ⟨i + 1, rfl, by omega, by go_num, Hfx.out⟩
          case measure => rw [Hg.out]; omega
      · have d0 : decide ((0 : Int) < (u : Int)) = true := decide_eq_true (by omega)
        have d0' : decide (0 < u) = true := decide_eq_true (by omega)
        obtain ⟨u1, hu1⟩ : ∃ j, u = j + 1 := ⟨u - 1, by omega⟩
        have hsub : IntKind.i64.wrap ((u : Int) - 1) = (u1 : Int) := by rw [IntWalk.i64_in _ (by omega)]; omega
        have hsub' : (u : Int) - 1 = (u1 : Int) := by omega
        have g2 : (u1 : Int) < (m : Int) := by omega
        have g3 : (0 : Int) ≤ (u1 : Int) := by omega
        obtain ⟨⟨s1, ⟨y1, y2⟩, yb⟩, hs1⟩ : ∃ a, E[u1]? = some a := ⟨_, List.getElem?_eq_getElem (by rw [← Hm.out]; omega)⟩
        have hs3 : decide (x < s1) = false := by
          have h1 := take_here (p := fun y => decide (y.1 ≤ x)) (l := E) (j := u1) (y := (s1, (y1, y2), yb)) (by have h1 := Hu.out; unfold uptoF at h1; rw [← h1]; omega) hs1
          have h2 := of_decide_eq_true h1
          exact decide_eq_false (by dsimp only at h2; omega)
        obtain ⟨bk1, off1, cap1, e6, -, hcb⟩ := (Hr3.out x5 G5.out).get u1 _ hs1
        simp only [Value.slice.injEq] at e6
        obtain ⟨rfl, -, rfl⟩ := e6
        have kd := (hcb x5 (Fr.refl _ _)).1
        clear hcb hs1 hu1 hu0 hsub'
        by_cases hul : u < m
        · have f1 : decide ((u : Int) < (m : Int)) = true := decide_eq_true (by omega)
          have f1' : decide (u < m) = true := decide_eq_true hul
          have f2 : (u : Int) < (m : Int) := by omega
          have f3 : (0 : Int) ≤ (u : Int) := by omega
          obtain ⟨⟨s, ⟨f, g⟩, b⟩, hs⟩ : ∃ a, E[u]? = some a := ⟨_, List.getElem?_eq_getElem (by rw [← Hm.out]; omega)⟩
          have hs2 : decide (s ≤ x) = false := take_end (p := fun y => decide (y.1 ≤ x)) (y := (s, (f, g), b)) (by have h1 := Hu.out; unfold uptoF at h1; rw [← h1]; exact hs)
          obtain ⟨bk, off, cap, e5, -, hca⟩ := (Hr3.out x5 G5.out).get u _ hs
          simp only [Value.slice.injEq] at e5
          simp only [Option.some.injEq, Addr.mk.injEq] at e5
          obtain ⟨⟨rfl, rfl, -⟩, -, -⟩ := e5
          have kc := (hca x5 (Fr.refl _ _)).1
          clear hca hs
          clear Hlit
          go_wp2_with fail
          go_roundg (3 - (i + 1))
          case rel => exact ⟨i + 1, rfl, by omega, by go_num, Hfx.out⟩
          case measure => rw [Hg.out]; omega
        · have f1 : decide ((u : Int) < (m : Int)) = false := decide_eq_false (by omega)
          have f1' : decide (u < m) = false := decide_eq_false hul
          clear Hlit
          go_wp2_with fail
          go_roundg (3 - (i + 1))
          case rel => exact ⟨i + 1, rfl, by omega, by go_num, Hfx.out⟩
          case measure => rw [Hg.out]; omega
    · have hin : ¬ (i : Int) < 3 := by omega
      have hin' : decide (i < 3) = false := decide_eq_false hlt
      obtain ⟨y0, hy0⟩ : ∃ x, x = wr.drew := ⟨_, rfl⟩
      have Y0 : Hid (Fr w3 y0 (fun _ => False)) := by show Fr _ _ _; rw [hy0]; exact Hf.out.drew
      go_wp2_with fail
      refine wp_region_tree (fun _ => False) (.take 0 (.take 2 (.take 3 (.take 4 (.one 1 (.take 5 (.take 6 .nil))))))) (by kernel_rfl) (by kernel_rfl) (by decide) (by kernel_rfl) ?_
      rw [← hy0]
      clear hy0
      have ka : ∀ z, Fr y0 z (fun _ => False) → z.cell? ⟨p9, 0, none⟩ = some (.int .u64 (n : Int)) := fun z hz => two_cell0 (Q9.out z (Y0.out.none hz))
      have kb : ∀ z, Fr y0 z (fun _ => False) → z.cell? ⟨p9, 1, none⟩ = some (.slice a2' m c2') := fun z hz => two_cell1 (Q9.out z (Y0.out.none hz))
      repeat (refine wpT_take (v := ?_) rfl rfl (fun x hx => ?_) ?_; rotate_left; (focus (go_simp; with_reducible rfl)); simp only [Act.put, List.setIfInBounds_toArray, List.set_cons_zero, List.set_cons_succ])
      clear ka kb
      refine wpT_one rfl rfl (fun K hK => ?_)
      go_simp
      refine (M.upto n _ E 4611686018427387903 _ (Hr3.out _ Y0.out) HEs.out Hn.out.1 (by have := HEl.out; omega) HEf.out (by decide) (by decide)).mono ?_
      rw [upto_all (fun x hx => (HEo.out x hx).2), ← Hm.out]
      rintro r x6 ⟨rfl, g⟩
      refine hK _ _ g ?_
      clear hK K
      have Hfo : Hid (Fr w x6 (fun _ => False)) := Hw3.out.none (Y0.out.none g)
      have e1 : ((m : Int) == (m : Int)) = true := by simp
      clear g
      repeat (refine wpT_take (v := ?_) rfl rfl (fun x hx => ?_) ?_; rotate_left; (focus (go_simp; with_reducible rfl)); simp only [Act.put, List.setIfInBounds_toArray, List.set_cons_zero, List.set_cons_succ])
      unfold wpT
      go_wp2_with fail
      go_ret
      exact ⟨rfl, ebelow Hfo.out⟩

end Go.Proofs.Ytojeaggnknnnoaa.historyUpto

/-
  The contracts of the reference's SameEvents, Same, SameEdges, Upto.
-/
import Derived.Test.YtojeaggnknnnoaaXRow
import Derived.Test.YtojeaggnknnnoaaTree
import Derived.Deep.LoopGhost
namespace Go.Proofs.Ytojeaggnknnnoaa
open Go.RowKit

theorem same_all {α : Type} {a b : List α} {n : Nat} (ha : a.length = n) (hb : b.length = n) (h : ∀ j, j < n → a[j]? = b[j]?) : a = b := by
  refine List.ext_getElem? fun j => ?_
  by_cases hj : j < n
  · exact h j hj
  · rw [List.getElem?_eq_none (by omega), List.getElem?_eq_none (by omega)]
theorem takeWhile_len {α : Type} {p : α → Bool} {l : List α} {k : Nat} (hk : k ≤ l.length) (h : ∀ j x, j < k → l[j]? = some x → p x = true) (h2 : ∀ x, l[k]? = some x → p x = false) : (l.takeWhile p).length = k := by
  induction l generalizing k with
  | nil => simp at hk; simp [hk]
  | cons y l ih =>
    cases k with
    | zero =>
      rw [List.takeWhile_cons, if_neg (by rw [h2 y rfl]; decide)]
      rfl
    | succ k =>
      rw [List.takeWhile_cons, if_pos (h 0 y (by omega) rfl)]
      rw [List.length_cons, ih (k := k) (by simpa using hk) (fun j x hj hx => h (j + 1) x (by omega) (by simpa using hx)) (fun x hx => h2 x (by simpa using hx))]

set_option maxRecDepth 4000 in
set_option maxHeartbeats 800000 in
theorem refSameEvents_any (v u : Value) (la lb : List Ev) (w : World) (h : RdV w v la) (hu : RdV w u lb) (hl : la.length ≤ 1000000) (hl2 : lb.length ≤ 1000000) : Calls Try.prog 31 #[v, u] w fun r w' => r = .returned (.bool (decide (la = lb))) ∧ Fr w w' (fun _ => False) := by
  obtain ⟨a0, c0, rfl, hc0⟩ := h.form
  obtain ⟨b0, d0, rfl, hd0⟩ := hu.form
  obtain ⟨n, hn⟩ : ∃ n, n = la.length := ⟨_, rfl⟩
  obtain ⟨m, hm⟩ : ∃ n, n = lb.length := ⟨_, rfl⟩
  rw [← hn] at h hl hc0 ⊢
  rw [← hm] at hu hl2 hd0 ⊢
  obtain ⟨B, hB⟩ : ∃ B, B = decide (la = lb) := ⟨_, rfl⟩
  rw [← hB]
  have Hr : Hid (RdV w (.slice a0 n c0) la) := h
  have Hu : Hid (RdV w (.slice b0 m d0) lb) := hu
  have Hn : Hid _ := hn
  have Hm : Hid _ := hm
  have HB : Hid _ := hB
  clear h hu hn hm hB
  by_cases hnm : n = m
  · subst hnm
    have d1 : ((n : Int) != (n : Int)) = false := by simp
    have d1' : ((n : Int) == (n : Int)) = true := by simp
    go_enter Try.func31, Try.ntmps31
    go_wp2_with fail
    go_loopg [5] n (fun g I wr => ∃ i : Nat, g = n - i ∧ i ≤ n ∧ I = .int .i64 (i : Int) ∧ (∀ j, j < i → la[j]? = lb[j]?) ∧ Fr w wr (fun _ => False))
    case atStart => exact ⟨0, by omega, by omega, rfl, fun j hj => by omega, Fr.refl _ _⟩
    case round =>
      obtain ⟨i, hg, hi, rfl, hle, hf⟩ := hrel
      have Hg : Hid _ := hg
      have Hle : Hid _ := hle
      have Hf : Hid (Fr w wr (fun _ => False)) := hf
      clear hg hle hf
      by_cases hlt : i < n
      · have hin : (i : Int) < (n : Int) := by omega
        have hin' : decide (i < n) = true := decide_eq_true hlt
        obtain ⟨⟨s, ⟨a1, a2⟩, ax⟩, ha⟩ : ∃ a, la[i]? = some a := ⟨_, List.getElem?_eq_getElem (by rw [← Hn.out]; omega)⟩
        obtain ⟨⟨t, ⟨f1, f2⟩, fx⟩, hb⟩ : ∃ a, lb[i]? = some a := ⟨_, List.getElem?_eq_getElem (by rw [← Hm.out]; omega)⟩
        obtain ⟨bk, off, cap, e3, hbk, hca⟩ := Hr.out.get i _ ha
        obtain ⟨bk', off', cap', e4, hbk', hcb⟩ := Hu.out.get i _ hb
        simp only [Value.slice.injEq] at e3 e4
        obtain ⟨rfl, -, rfl⟩ := e3
        obtain ⟨rfl, -, rfl⟩ := e4
        have Hab : Hid (la[i]? = some (s, (a1, a2), ax) ∧ lb[i]? = some (t, (f1, f2), fx)) := ⟨ha, hb⟩
        have ka0 : ∀ z, Fr wr.drew z (fun _ => False) → z.cell? ⟨bk, off + i * 4, none⟩ = some (.int .i64 s) := fun z hz => (hca z ((Hf.out.drew.none hz).mono (fun _ _ h => h.elim))).1
        have ka1 : ∀ z, Fr wr.drew z (fun _ => False) → z.cell? ⟨bk, off + i * 4 + 1, none⟩ = some (.int .u32 (a1 : Int)) := fun z hz => (hca z ((Hf.out.drew.none hz).mono (fun _ _ h => h.elim))).2.1
        have ka2 : ∀ z, Fr wr.drew z (fun _ => False) → z.cell? ⟨bk, off + i * 4 + 2, none⟩ = some (.int .u32 (a2 : Int)) := fun z hz => (hca z ((Hf.out.drew.none hz).mono (fun _ _ h => h.elim))).2.2.1
        have ka3 : ∀ z, Fr wr.drew z (fun _ => False) → z.cell? ⟨bk, off + i * 4 + 3, none⟩ = some (.bool ax) := fun z hz => (hca z ((Hf.out.drew.none hz).mono (fun _ _ h => h.elim))).2.2.2
        have kb0 : ∀ z, Fr wr.drew z (fun _ => False) → z.cell? ⟨bk', off' + i * 4, none⟩ = some (.int .i64 t) := fun z hz => (hcb z ((Hf.out.drew.none hz).mono (fun _ _ h => h.elim))).1
        have kb1 : ∀ z, Fr wr.drew z (fun _ => False) → z.cell? ⟨bk', off' + i * 4 + 1, none⟩ = some (.int .u32 (f1 : Int)) := fun z hz => (hcb z ((Hf.out.drew.none hz).mono (fun _ _ h => h.elim))).2.1
        have kb2 : ∀ z, Fr wr.drew z (fun _ => False) → z.cell? ⟨bk', off' + i * 4 + 2, none⟩ = some (.int .u32 (f2 : Int)) := fun z hz => (hcb z ((Hf.out.drew.none hz).mono (fun _ _ h => h.elim))).2.2.1
        have kb3 : ∀ z, Fr wr.drew z (fun _ => False) → z.cell? ⟨bk', off' + i * 4 + 3, none⟩ = some (.bool fx) := fun z hz => (hcb z ((Hf.out.drew.none hz).mono (fun _ _ h => h.elim))).2.2.2
        have hi0 : (0 : Int) ≤ (i : Int) := by omega
        obtain ⟨D, hD⟩ : ∃ D, D = decide ((s, (a1, a2), ax) = (t, (f1, f2), fx)) := ⟨_, rfl⟩
        have HD : Hid _ := hD
        clear hca hcb ha hb hbk hbk' hD
        go_wp2_with fail
        refine wp_region_tree (fun _ => False) (.take 0 (.take 1 (.take 2 (.take 3 (.take 4 (.take 5 (.take 6 (.take 7 (.take 8 .nil))))))))) (by kernel_rfl) (by kernel_rfl) (by decide) (by kernel_rfl) ?_
        iterate 8 (refine wpT_take (v := ?_) rfl rfl (fun x hx => ?_) ?_; rotate_left; (focus (go_simp; with_reducible rfl)); simp only [Act.put, List.setIfInBounds_toArray, List.set_cons_zero, List.set_cons_succ])
        refine wpT_take (v := .bool (!D)) rfl rfl (fun x hx => ?_) ?_
        · rw [HD.out]
          go_simp
          by_cases h1 : s = t <;> by_cases h2 : a1 = f1 <;> by_cases h3 : a2 = f2 <;> cases ax <;> cases fx <;> simp [h1, h2, h3, Int.ofNat_inj]
        simp only [Act.put, List.setIfInBounds_toArray, List.set_cons_zero, List.set_cons_succ]
        clear ka0 ka1 ka2 ka3 kb0 kb1 kb2 kb3
        have Hf3 : Hid (Fr w wr.drew (fun _ => False)) := Hf.out.drew
        unfold wpT
        cases D with
        | false =>
          have Hres : Hid (B = false) := by
            show _ = _
            rw [HB.out]
            refine decide_eq_false fun h => of_decide_eq_false HD.out.symm ?_
            have h1 := Hab.out.1
            rw [h, Hab.out.2] at h1
            simp only [Option.some.injEq] at h1
            exact h1.symm
          obtain rfl := Hres.out
          go_wp2
          go_ret
          exact ⟨rfl, Hf3.out⟩
        | true =>
          have Hle2 : Hid (∀ j, j < i + 1 → la[j]? = lb[j]?) := fun j hj => by
            by_cases h : j < i
            · exact Hle.out j h
            · have e : j = i := by omega
              subst e
              rw [Hab.out.1, Hab.out.2, of_decide_eq_true HD.out.symm]
          go_wp2_with fail
          go_roundg (n - (i + 1))
          case rel => exact ⟨i + 1, rfl, by omega, by go_num, Hle2.out, Hf3.out⟩
          case measure => rw [Hg.out]; omega
      · have hin : ¬ (i : Int) < (n : Int) := by omega
        have hin' : decide (i < n) = false := decide_eq_false hlt
        have Hres : Hid (B = true) := by
          show _ = _
          rw [HB.out]
          exact decide_eq_true (same_all Hn.out.symm Hm.out.symm (fun j hj => Hle.out j (by omega)))
        obtain rfl := Hres.out
        go_wp2
        go_ret
        exact ⟨rfl, Hf.out⟩
  · have d1 : ((n : Int) != (m : Int)) = true := by rw [bne_iff_ne]; omega
    have d1' : ((n : Int) == (m : Int)) = false := by rw [beq_eq_false_iff_ne]; omega
    have d2 : (n == m) = false := by rw [beq_eq_false_iff_ne]; exact hnm
    have Hres : Hid (B = false) := by
      show _ = _
      rw [HB.out]
      exact decide_eq_false (fun h => hnm (by rw [Hn.out, Hm.out, h]))
    obtain rfl := Hres.out
    go_enter Try.func31, Try.ntmps31
    go_wp2
    go_ret
    exact ⟨rfl, Fr.refl w _⟩

set_option maxRecDepth 4000 in
set_option maxHeartbeats 400000 in
theorem refSame_any (n m : Nat) (v u : Value) (la lb : List Ev) (w : World) (h : RdV w v la) (hu : RdV w u lb) (hl : la.length ≤ 1000000) (hl2 : lb.length ≤ 1000000) : Calls Try.prog 14 #[histV n v, histV m u] w fun r w' => r = .returned (.bool (decide (n = m ∧ la = lb))) ∧ Fr w w' (fun _ => False) := by
  obtain ⟨a0, c0, rfl, hc0⟩ := h.form
  obtain ⟨b0, d0, rfl, hd0⟩ := hu.form
  have Hr : Hid (RdV w (.slice a0 la.length c0) la) := h
  have Hu : Hid (RdV w (.slice b0 lb.length d0) lb) := hu
  obtain ⟨D, hD⟩ : ∃ D, D = decide (la = lb) := ⟨_, rfl⟩
  have HD : Hid _ := hD
  clear h hu hD
  unfold histV
  by_cases hnm : n = m
  · have d1 : ((n : Int) == (m : Int)) = true := by simp [hnm]
    have d1' : (n == m) = true := by simp [hnm]
    have Hres : Hid (decide (n = m ∧ la = lb) = D) := by show _ = _; rw [HD.out]; simp [hnm]
    rw [Hres.out]
    clear hnm
    go_enter Try.func14, Try.ntmps14
    go_wp2_with fail
    refine (refSameEvents_any _ _ la lb _ (Hr.out.keep (((Fr.refl _ _).alloc _).alloc _)) (Hu.out.keep (((Fr.refl _ _).alloc _).alloc _)) hl hl2).mono ?_
    rw [← HD.out]
    rintro r w1 ⟨rfl, hf1⟩
    have Hf1 : Hid (Fr w w1 (fun _ => False)) := (((Fr.refl w (fun _ => False)).alloc _).alloc _).none hf1
    clear hf1
    go_wp2
    go_ret
    exact ⟨rfl, Hf1.out⟩
  · have d1 : ((n : Int) == (m : Int)) = false := by rw [beq_eq_false_iff_ne]; omega
    have d1' : (n == m) = false := by rw [beq_eq_false_iff_ne]; exact hnm
    have Hres : Hid (decide (n = m ∧ la = lb) = false) := decide_eq_false (fun h => hnm h.1)
    rw [Hres.out]
    go_enter Try.func14, Try.ntmps14
    go_wp2
    go_ret
    exact ⟨rfl, ((Fr.refl w _).alloc _).alloc _⟩

set_option maxRecDepth 4000 in
set_option maxHeartbeats 800000 in
theorem refUpto_any (n : Nat) (v : Value) (evs : List Ev) (t : Int) (w : World) (h : RdV w v evs) (hl : evs.length ≤ 1000000) : Calls Try.prog 19 #[histV n v, .int .i64 t] w fun r w' => r = .returned (.int .i64 ((uptoF evs t : Nat) : Int)) ∧ Fr w w' (fun _ => False) := by
  obtain ⟨a0, c0, rfl, hc0⟩ := h.form
  obtain ⟨m, hm⟩ : ∃ m, m = evs.length := ⟨_, rfl⟩
  rw [← hm] at h hl hc0 ⊢
  obtain ⟨R, hR⟩ : ∃ R, R = uptoF evs t := ⟨_, rfl⟩
  rw [← hR]
  have HR : Hid _ := hR
  have Hr : Hid (RdV w (.slice a0 m c0) evs) := h
  have Hm : Hid _ := hm
  clear h hm hR
  unfold histV
  go_enter Try.func19, Try.ntmps19
  go_wp2_with fail
  obtain ⟨p, hp⟩ : ∃ p, p = w.heap.size := ⟨_, rfl⟩
  obtain ⟨wa, hwa⟩ : ∃ wa, wa = w.alloc (.cells #[.int .u64 (n : Int), .slice a0 m c0] 25) := ⟨_, rfl⟩
  rw [← hwa, ← hp]
  have hb1 : wa.cell? ⟨p, 1, none⟩ = some (.slice a0 m c0) := two_cell1 (by rw [hwa, hp]; exact heap_alloc_new _ _)
  have Hwa : Hid (Fr w wa (fun _ => False)) := by show Fr _ _ _; rw [hwa]; exact (Fr.refl _ _).alloc _
  clear hp hwa
  go_loopg [5] m (fun g I wr => ∃ i : Nat, g = m - i ∧ i ≤ m ∧ I = .int .i64 (i : Int) ∧ (∀ j x, j < i → evs[j]? = some x → decide (x.1 ≤ t) = true) ∧ wr = wa)
  case atStart => exact ⟨0, by omega, by omega, rfl, fun j x hj => by omega, rfl⟩
  case round =>
    obtain ⟨i, hg, hi, rfl, hle, rfl⟩ := hrel
    have Hg : Hid _ := hg
    have Hle : Hid _ := hle
    clear hg hle
    by_cases hlt : i < m
    · have hin : (i : Int) < (m : Int) := by omega
      have hin' : decide (i < m) = true := decide_eq_true hlt
      obtain ⟨⟨s, ⟨e1, e2⟩, ad⟩, ha⟩ : ∃ a, evs[i]? = some a := ⟨_, List.getElem?_eq_getElem (by rw [← Hm.out]; omega)⟩
      have Ha : Hid _ := ha
      obtain ⟨bk, off, cap, e3, hbk, hca⟩ := Hr.out.get i _ ha
      simp only [Value.slice.injEq] at e3
      obtain ⟨rfl, -, rfl⟩ := e3
      have k0 := (hca wr (Hwa.out.mono (fun _ _ h => h.elim))).1
      have hi0 : (0 : Int) ≤ (i : Int) := by omega
      clear hca hbk ha
      by_cases hst : s ≤ t
      · have d1 : decide (s ≤ t) = true := decide_eq_true hst
        have Hle2 : Hid (∀ j x, j < i + 1 → evs[j]? = some x → decide (x.1 ≤ t) = true) := fun j x hj hx => by
          by_cases h : j < i
          · exact Hle.out j x h hx
          · have e : j = i := by omega
            subst e
            rw [Ha.out] at hx
            simp only [Option.some.injEq] at hx
            rw [← hx]
            exact d1
        go_wp2_with fail
        go_roundg (m - (i + 1))
        case rel => exact ⟨i + 1, rfl, by omega, by go_num, Hle2.out, rfl⟩
        case measure => rw [Hg.out]; omega
      · have d1 : decide (s ≤ t) = false := decide_eq_false hst
        have Hres : Hid (R = i) := by
          show _ = _
          rw [HR.out]
          refine takeWhile_len (by rw [← Hm.out]; omega) Hle.out (fun x hx => ?_)
          rw [Ha.out] at hx
          simp only [Option.some.injEq] at hx
          rw [← hx]
          exact d1
        obtain rfl := Hres.out
        go_wp2
        go_ret
        exact ⟨rfl, Hwa.out⟩
    · have hin : ¬ (i : Int) < (m : Int) := by omega
      have hin' : decide (i < m) = false := decide_eq_false hlt
      have Hres : Hid (R = i) := by
        show _ = _
        rw [HR.out]
        exact takeWhile_len (by rw [← Hm.out]; omega) Hle.out (fun x hx => by rw [List.getElem?_eq_none (by rw [← Hm.out]; omega)] at hx; cases hx)
      obtain rfl := Hres.out
      go_wp2
      go_ret
      exact ⟨rfl, Hwa.out⟩

end Go.Proofs.Ytojeaggnknnnoaa

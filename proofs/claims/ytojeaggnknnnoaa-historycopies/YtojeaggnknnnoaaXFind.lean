/-
  The contracts of the reference's Find and Has.
-/
import Derived.Test.YtojeaggnknnnoaaXRow
import Derived.Test.YtojeaggnknnnoaaTree
import Derived.Deep.LoopGhost
namespace Go.Proofs.Ytojeaggnknnnoaa
open Go.RowKit

/-- Where an edge stands first; -1: nowhere. -/
def findF (l : List Eg) (e : Eg) : Int := if e ∈ l then (l.idxOf e : Int) else -1
theorem idxOf_first : ∀ {l : List Eg} {e : Eg} {i : Nat}, l[i]? = some e → (∀ j x, j < i → l[j]? = some x → x ≠ e) → l.idxOf e = i
  | [], _, _, h, _ => by simp at h
  | x :: l, e, 0, h, _ => by
    simp at h
    subst h
    simp
  | x :: l, e, i + 1, h, hn => by
    have hx : x ≠ e := hn 0 x (by omega) rfl
    rw [List.idxOf_cons, show (x == e) = false by simpa using hx, cond_false, idxOf_first (i := i) (by simpa using h) (fun j y hj hy => hn (j + 1) y (by omega) (by simpa using hy))]
theorem find_at {l : List Eg} {e : Eg} {i : Nat} (h : l[i]? = some e) (hn : ∀ j x, j < i → l[j]? = some x → x ≠ e) : findF l e = (i : Int) := by
  unfold findF
  rw [if_pos (List.mem_of_getElem? h), idxOf_first h hn]
theorem find_no {l : List Eg} {e : Eg} (hn : ∀ j x, j < l.length → l[j]? = some x → x ≠ e) : findF l e = -1 := by
  unfold findF
  refine if_neg fun h => ?_
  obtain ⟨i, hi⟩ := List.getElem?_of_mem h
  exact hn i e (List.getElem?_eq_some_iff.1 hi).1 hi rfl

set_option maxRecDepth 4000 in
set_option maxHeartbeats 400000 in
theorem refFind_any (v : Value) (es : List Eg) (e : Eg) (w : World) (h : RdE w v es) (hl : es.length ≤ 1000000) : Calls Try.prog 34 #[v, edgeV e] w fun r w' => r = .returned (.int .i64 (findF es e)) ∧ Fr w w' (fun _ => False) := by
  obtain ⟨a0, c0, rfl, hc0⟩ := h.form
  obtain ⟨n, hn⟩ : ∃ n, n = es.length := ⟨_, rfl⟩
  obtain ⟨e1, e2⟩ := e
  rw [← hn] at h hl hc0 ⊢
  have Hr : Hid (RdE w (.slice a0 n c0) es) := h
  have Hn : Hid _ := hn
  clear h hn
  unfold edgeV
  dsimp only
  go_enter Try.func34, Try.ntmps34
  go_wp2_with fail
  obtain ⟨p, hp⟩ : ∃ p, p = w.heap.size := ⟨_, rfl⟩
  obtain ⟨wa, hwa⟩ : ∃ wa, wa = w.alloc (.cells #[.int .u32 (e1 : Int), .int .u32 (e2 : Int)] 40) := ⟨_, rfl⟩
  rw [← hwa, ← hp]
  have Hpb : Hid (∀ z, Fr wa z (fun _ => False) → z.heap[p]? = some (.cells #[.int .u32 (e1 : Int), .int .u32 (e2 : Int)] 40 (0, 0))) := fun z hz => hz.kept (by rw [hwa, hp]; exact heap_alloc_new _ _) (fun h => h)
  have Hwa : Hid (Fr w wa (fun _ => False)) := by show Fr _ _ _; rw [hwa]; exact (Fr.refl _ _).alloc _
  clear hp hwa
  go_loopg [5] n (fun g I wr => ∃ i : Nat, g = n - i ∧ i ≤ n ∧ I = .int .i64 (i : Int) ∧ (∀ j x, j < i → es[j]? = some x → x ≠ (e1, e2)) ∧ Fr wa wr (fun _ => False))
  case atStart => exact ⟨0, by omega, by omega, rfl, fun j x hj => by omega, Fr.refl _ _⟩
  case round =>
    obtain ⟨i, hg, hi, rfl, hle, hf⟩ := hrel
    have Hg : Hid _ := hg
    have Hle : Hid _ := hle
    have Hf : Hid (Fr wa wr (fun _ => False)) := hf
    clear hg hle hf
    by_cases hlt : i < n
    · have hin : (i : Int) < (n : Int) := by omega
      have hin' : decide (i < n) = true := decide_eq_true hlt
      obtain ⟨⟨a, b⟩, ha⟩ : ∃ a, es[i]? = some a := ⟨_, List.getElem?_eq_getElem (by rw [← Hn.out]; omega)⟩
      obtain ⟨bk, off, cap, e3, hbk, hca⟩ := (Hr.out.keep Hwa.out).get i _ ha
      simp only [Value.slice.injEq] at e3
      obtain ⟨rfl, -, rfl⟩ := e3
      have Ha : Hid _ := ha
      have ka : ∀ z, Fr wr.drew z (fun _ => False) → z.cell? ⟨bk, off + i * 2, none⟩ = some (.int .u32 (a : Int)) := fun z hz => (hca z (Hf.out.drew.none hz)).1
      have kb : ∀ z, Fr wr.drew z (fun _ => False) → z.cell? ⟨bk, off + i * 2 + 1, none⟩ = some (.int .u32 (b : Int)) := fun z hz => (hca z (Hf.out.drew.none hz)).2
      have kc : ∀ z, Fr wr.drew z (fun _ => False) → z.cell? ⟨p, 0, none⟩ = some (.int .u32 (e1 : Int)) := fun z hz => two_cell0 (Hpb.out z (Hf.out.drew.none hz))
      have kd : ∀ z, Fr wr.drew z (fun _ => False) → z.cell? ⟨p, 1, none⟩ = some (.int .u32 (e2 : Int)) := fun z hz => two_cell1 (Hpb.out z (Hf.out.drew.none hz))
      have hi0 : (0 : Int) ≤ (i : Int) := by omega
      clear hca ha hbk
      go_wp2_with fail
      refine wp_region_tree (fun _ => False) (.take 0 (.take 1 (.take 2 (.take 3 (.take 4 (.take 5 .nil)))))) (by kernel_rfl) (by kernel_rfl) (by decide) (by kernel_rfl) ?_
      repeat (refine wpT_take (v := ?_) rfl rfl (fun x hx => ?_) ?_; rotate_left; (focus (go_simp; with_reducible rfl)); simp only [Act.put, List.setIfInBounds_toArray, List.set_cons_zero, List.set_cons_succ])
      obtain ⟨D, hD⟩ : ∃ D, D = decide ((a, b) = (e1, e2)) := ⟨_, rfl⟩
      refine wpT_take (v := .bool D) rfl rfl (fun x hx => ?_) ?_
      · rw [hD]
        go_simp
        by_cases h1 : a = e1 <;> by_cases h2 : b = e2 <;> simp [h1, h2, Int.ofNat_inj]
      simp only [Act.put, List.setIfInBounds_toArray, List.set_cons_zero, List.set_cons_succ]
      clear ka kb kc kd
      have Hf2 : Hid (Fr w wr.drew (fun _ => False)) := Hwa.out.none Hf.out.drew
      have Hf3 : Hid (Fr wa wr.drew (fun _ => False)) := Hf.out.drew
      unfold wpT
      cases D with
      | true =>
        have Hres : Hid (findF es (e1, e2) = (i : Int)) := find_at (by rw [Ha.out, of_decide_eq_true hD.symm]) Hle.out
        clear hD
        go_wp2
        go_ret
        exact ⟨by rw [Hres.out]; rfl, Hf2.out⟩
      | false =>
        have Hle2 : Hid (∀ j x, j < i + 1 → es[j]? = some x → x ≠ (e1, e2)) := fun j x hj hx => by
          by_cases h : j < i
          · exact Hle.out j x h hx
          · have e : j = i := by omega
            subst e
            rw [Ha.out] at hx
            simp only [Option.some.injEq] at hx
            rw [← hx]
            exact of_decide_eq_false hD.symm
        clear hD
        go_wp2_with fail
        go_roundg (n - (i + 1))
        case rel => exact ⟨i + 1, rfl, by omega, by go_num, Hle2.out, Hf3.out⟩
        case measure => rw [Hg.out]; omega
    · have hin : ¬ (i : Int) < (n : Int) := by omega
      have hin' : decide (i < n) = false := decide_eq_false hlt
      have Hres : Hid (findF es (e1, e2) = -1) := find_no (fun j x hj hx => Hle.out j x (by rw [← Hn.out] at hj; omega) hx)
      have Hf2 : Hid (Fr w wr (fun _ => False)) := Hwa.out.none Hf.out
      go_wp2_with fail
      go_ret
      exact ⟨by rw [Hres.out]; rfl, Hf2.out⟩

theorem findF_has (l : List Eg) (e : Eg) : decide ((0 : Int) ≤ findF l e) = decide (e ∈ l) := by
  unfold findF
  by_cases h : e ∈ l
  · rw [if_pos h, decide_eq_true h]
    exact decide_eq_true (by omega)
  · rw [if_neg h, decide_eq_false h]
    rfl

set_option maxRecDepth 4000 in
set_option maxHeartbeats 400000 in
theorem refHas_any (v : Value) (es : List Eg) (e : Eg) (w : World) (h : RdE w v es) (hl : es.length ≤ 1000000) : Calls Try.prog 23 #[v, edgeV e] w fun r w' => r = .returned (.bool (decide (e ∈ es))) ∧ Fr w w' (fun _ => False) := by
  obtain ⟨a0, c0, rfl, hc0⟩ := h.form
  obtain ⟨e1, e2⟩ := e
  have Hr : Hid (RdE w (.slice a0 es.length c0) es) := h
  obtain ⟨F, hF⟩ : ∃ F, F = findF es (e1, e2) := ⟨_, rfl⟩
  have hd : decide ((0 : Int) ≤ F) = decide ((e1, e2) ∈ es) := by rw [hF]; exact findF_has es (e1, e2)
  obtain ⟨D, hD⟩ : ∃ D, D = decide ((e1, e2) ∈ es) := ⟨_, rfl⟩
  rw [← hD] at hd
  rw [← hD]
  have HF : Hid _ := hF
  clear h hD hF
  unfold edgeV
  dsimp only
  go_enter Try.func23, Try.ntmps23
  go_wp2_with fail
  refine (refFind_any _ es (e1, e2) _ (Hr.out.keep ((Fr.refl _ _).alloc _)) hl).mono ?_
  rw [← HF.out]
  rintro r w1 ⟨rfl, hf1⟩
  have Hf1 : Hid (Fr w w1 (fun _ => False)) := ((Fr.refl w (fun _ => False)).alloc _).none hf1
  clear hf1
  go_wp2
  go_ret
  exact ⟨by first | rfl | rw [hd], Hf1.out⟩

end Go.Proofs.Ytojeaggnknnnoaa

/-
  The contracts of slices.Index and slices.Contains over edges, and of snap's Has.
-/
import Derived.Test.YthdlhdeaeaahoaaJ2
import Derived.Deep.CutRange
namespace Go.Proofs.Ythdlhdeaeaahoaa
open Go.RowKit

set_option maxRecDepth 4000 in
set_option maxHeartbeats 1600000 in
theorem index_any (v : Value) (es : List Eg) (e : Eg) (w : World) (h : RdE w v es) (hl : es.length ≤ 1000000) : Calls Try.prog 50 #[v, edgeV e] w fun r w' => r = .returned (.int .i64 (findF es e)) ∧ Fr w w' (fun _ => False) := by
  obtain ⟨a0, c0, rfl, hc0⟩ := h.form
  obtain ⟨n, hn⟩ : ∃ n, n = es.length := ⟨_, rfl⟩
  obtain ⟨R, hR⟩ : ∃ R, R = findF es e := ⟨_, rfl⟩
  rw [← hn] at h hl hc0 ⊢
  rw [← hR]
  have HR : Hid _ := hR
  have Hr : Hid (RdE w (.slice a0 n c0) es) := h
  have Hn : Hid _ := hn
  obtain ⟨e1, e2⟩ := e
  clear h hn hR
  unfold edgeV
  dsimp only
  go_enter Try.func50, Try.ntmps50
  go_upto_region 1 with fail
  obtain ⟨p, hp⟩ : ∃ p, p = w.heap.size := ⟨_, rfl⟩
  obtain ⟨w1, hw1⟩ : ∃ x, x = w.alloc (.cells #[.int .u32 (e1 : Int), .int .u32 (e2 : Int)] 48) := ⟨_, rfl⟩
  rw [← hw1, ← hp]
  have Hp : Hid (∀ z, Fr w1 z (fun _ => False) → z.heap[p]? = some (.cells #[.int .u32 (e1 : Int), .int .u32 (e2 : Int)] 48 (0, 0))) := fun z hz => hz.kept (by rw [hw1, hp]; exact heap_alloc_new _ _) (fun h => h)
  have Hw1 : Hid (Fr w w1 (fun _ => False)) := by show Fr _ _ _; rw [hw1]; exact (Fr.refl _ _).alloc _
  clear hp hw1
  go_wp2_with fail
  go_loopg [5, 8] n (fun g I J wr => ∃ i : Nat, g = n - i ∧ i ≤ n ∧ J = .int .i64 (i : Int) ∧ (∀ j x, j < i → es[j]? = some x → x ≠ (e1, e2)) ∧ Fr w1 wr (fun _ => False))
  case atStart => exact ⟨0, by omega, by omega, rfl, fun j x hj => by omega, Fr.refl _ _⟩
  case round =>
    obtain ⟨i, hg, hi, rfl, hle, hf⟩ := hrel
    have Hg : Hid _ := hg
    have Hle : Hid _ := hle
    have Hf : Hid (Fr w1 wr (fun _ => False)) := hf
    clear hg hle hf
    by_cases hlt : i < n
    · have hin : (i : Int) < (n : Int) := by omega
      have hin' : decide (i < n) = true := decide_eq_true hlt
      obtain ⟨⟨a, b⟩, ha⟩ : ∃ a, es[i]? = some a := ⟨_, List.getElem?_eq_getElem (by rw [← Hn.out]; omega)⟩
      obtain ⟨bk, off, cap, e3, hbk, hca⟩ := Hr.out.get i _ ha
      rw [← Hn.out] at e3
      simp only [Value.slice.injEq] at e3
      obtain ⟨rfl, -, rfl⟩ := e3
      have Hfd : Hid (Fr w1 wr.drew (fun _ => False)) := Hf.out.drew
      have p0 : ∀ z, Fr wr.drew z (fun _ => False) → z.cell? ⟨p, 0, none⟩ = some (.int .u32 (e1 : Int)) := fun z hz => two_cell0 (Hp.out z (Hfd.out.none hz))
      have p1 : ∀ z, Fr wr.drew z (fun _ => False) → z.cell? ⟨p, 1, none⟩ = some (.int .u32 (e2 : Int)) := fun z hz => two_cell1 (Hp.out z (Hfd.out.none hz))
      have k0 : ∀ z, Fr wr.drew z (fun _ => False) → z.cell? ⟨bk, off + i * 2, none⟩ = some (.int .u32 (a : Int)) := fun z hz => (hca z (Hw1.out.none (Hfd.out.none hz))).1
      have k1 : ∀ z, Fr wr.drew z (fun _ => False) → z.cell? ⟨bk, off + i * 2 + 1, none⟩ = some (.int .u32 (b : Int)) := fun z hz => (hca z (Hw1.out.none (Hfd.out.none hz))).2
      have hi0 : (0 : Int) ≤ (i : Int) := by omega
      have Ha : Hid _ := ha
      clear hca ha hbk
      go_wp2_with fail
      refine wp_region_tree (fun _ => False) (.take 0 (.take 1 (.take 2 (.take 3 (.take 4 (.take 5 .nil)))))) (by kernel_rfl) (by kernel_rfl) (by decide) (by kernel_rfl) ?_
      iterate 5 (refine wpT_take (v := ?_) rfl rfl (fun x hx => ?_) ?_; rotate_left; (focus (go_simp; with_reducible rfl)); simp only [Act.put, List.setIfInBounds_toArray, List.set_cons_zero, List.set_cons_succ])
      obtain ⟨D, hD⟩ : ∃ D, D = decide ((a, b) = (e1, e2)) := ⟨_, rfl⟩
      refine wpT_take (v := .bool D) rfl rfl (fun x hx => ?_) ?_
      · rw [hD]
        go_simp
        by_cases h1 : e1 = a <;> by_cases h2 : e2 = b <;> simp [h1, h2, Int.ofNat_inj] <;> omega
      simp only [Act.put, List.setIfInBounds_toArray, List.set_cons_zero, List.set_cons_succ]
      clear k0 k1 p0 p1
      have Hf2 : Hid (Fr w wr.drew (fun _ => False)) := Hw1.out.none Hfd.out
      unfold wpT
      cases D with
      | true =>
        have Hres : Hid (findF es (e1, e2) = (i : Int)) := find_at (by rw [Ha.out, of_decide_eq_true hD.symm]) Hle.out
        have Hres2 : Hid (R = (i : Int)) := by show _ = _; rw [HR.out, Hres.out]
        clear hD
        go_wp2
        go_ret
        exact ⟨by rw [Hres2.out]; rfl, Hf2.out⟩
      | false =>
        have Hle2 : Hid (∀ j x, j < i + 1 → es[j]? = some x → x ≠ (e1, e2)) := fun j x hj hx => by
          by_cases h : j < i
          · exact Hle.out j x h hx
          · have e : j = i := by omega
            subst e
            rw [Ha.out] at hx
            simp only [Option.some.injEq] at hx
            rw [← hx]
            exact of_decide_eq_false hD.symm
        clear hD
        go_wp2_with fail
        go_roundg (n - (i + 1))
        case rel => exact ⟨i + 1, rfl, by omega, by go_num, Hle2.out, Hfd.out⟩
        case measure => rw [Hg.out]; omega
    · have hin : ¬ (i : Int) < (n : Int) := by omega
      have hin' : decide (i < n) = false := decide_eq_false hlt
      have Hres : Hid (R = -1) := by show _ = _; rw [HR.out]; exact find_no (fun j x hj hx => Hle.out j x (by rw [← Hn.out] at hj; omega) hx)
      have Hf2 : Hid (Fr w wr (fun _ => False)) := Hw1.out.none Hf.out
      go_wp2_with fail
      go_ret
      exact ⟨by rw [Hres.out]; rfl, Hf2.out⟩

set_option maxRecDepth 4000 in
set_option maxHeartbeats 400000 in
theorem contains_any (v : Value) (es : List Eg) (e : Eg) (w : World) (h : RdE w v es) (hl : es.length ≤ 1000000) : Calls Try.prog 42 #[v, edgeV e] w fun r w' => r = .returned (.bool (decide (e ∈ es))) ∧ Fr w w' (fun _ => False) := by
  have hi := fun z hz => index_any v es e z hz hl
  obtain ⟨B, hB⟩ : ∃ B, B = decide (e ∈ es) := ⟨_, rfl⟩
  rw [← hB]
  have HB : Hid (decide ((0 : Int) ≤ findF es e) = B) := by show _ = _; rw [hB]; exact findF_has es e
  obtain ⟨R, hR⟩ : ∃ R, R = findF es e := ⟨_, rfl⟩
  rw [← hR] at hi HB
  obtain ⟨a0, c0, rfl, hc0⟩ := h.form
  obtain ⟨n, hn⟩ : ∃ n, n = es.length := ⟨_, rfl⟩
  rw [← hn] at h hi hc0 hl ⊢
  obtain ⟨e1, e2⟩ := e
  unfold edgeV at hi ⊢
  dsimp only at hi ⊢
  have Hr : Hid (RdE w (.slice a0 n c0) es) := h
  clear h hn hR hB
  go_enter Try.func42, Try.ntmps42
  go_upto_region 1 with fail
  obtain ⟨p, hp⟩ : ∃ p, p = w.heap.size := ⟨_, rfl⟩
  obtain ⟨w1, hw1⟩ : ∃ x, x = w.alloc (.cells #[.int .u32 (e1 : Int), .int .u32 (e2 : Int)] 48) := ⟨_, rfl⟩
  rw [← hw1, ← hp]
  have hb : w1.heap[p]? = some (.cells #[.int .u32 (e1 : Int), .int .u32 (e2 : Int)] 48 (0, 0)) := by rw [hw1, hp]; exact heap_alloc_new _ _
  have p0 := two_cell0 hb
  have p1 := two_cell1 hb
  have Hw1 : Hid (Fr w w1 (fun _ => False)) := by show Fr _ _ _; rw [hw1]; exact (Fr.refl _ _).alloc _
  clear hp hw1 hb
  have hi1 := hi w1 (Hr.out.keep Hw1.out)
  clear hi
  go_wp2_with fail
  refine hi1.mono ?_
  rintro r x1 ⟨rfl, g⟩
  have Hx1 : Hid (Fr w x1 (fun _ => False)) := Hw1.out.none g
  clear g hi1 p0 p1
  go_wp2_with fail
  go_ret
  exact ⟨by rw [← HB.out]; rfl, Hx1.out⟩

set_option maxRecDepth 4000 in
set_option maxHeartbeats 400000 in
theorem has_any (v : Value) (es : List Eg) (e : Eg) (w : World) (h : RdE w v es) (hl : es.length ≤ 1000000) : Calls Try.prog 20 #[v, edgeV e] w fun r w' => r = .returned (.bool (decide (e ∈ es))) ∧ Fr w w' (fun _ => False) := by
  have hi := fun z hz => contains_any v es e z hz hl
  obtain ⟨B, hB⟩ : ∃ B, B = decide (e ∈ es) := ⟨_, rfl⟩
  rw [← hB] at hi ⊢
  obtain ⟨a0, c0, rfl, hc0⟩ := h.form
  obtain ⟨n, hn⟩ : ∃ n, n = es.length := ⟨_, rfl⟩
  rw [← hn] at h hi hc0 hl ⊢
  obtain ⟨e1, e2⟩ := e
  unfold edgeV at hi ⊢
  dsimp only at hi ⊢
  have Hr : Hid (RdE w (.slice a0 n c0) es) := h
  clear h hn hB
  go_enter Try.func20, Try.ntmps20
  go_upto_region 1 with fail
  obtain ⟨p, hp⟩ : ∃ p, p = w.heap.size := ⟨_, rfl⟩
  obtain ⟨w1, hw1⟩ : ∃ x, x = w.alloc (.cells #[.int .u32 (e1 : Int), .int .u32 (e2 : Int)] 48) := ⟨_, rfl⟩
  rw [← hw1, ← hp]
  have hb : w1.heap[p]? = some (.cells #[.int .u32 (e1 : Int), .int .u32 (e2 : Int)] 48 (0, 0)) := by rw [hw1, hp]; exact heap_alloc_new _ _
  have p0 := two_cell0 hb
  have p1 := two_cell1 hb
  have Hw1 : Hid (Fr w w1 (fun _ => False)) := by show Fr _ _ _; rw [hw1]; exact (Fr.refl _ _).alloc _
  clear hp hw1 hb
  have hi1 := hi w1 (Hr.out.keep Hw1.out)
  clear hi
  go_wp2_with fail
  refine hi1.mono ?_
  rintro r x1 ⟨rfl, g⟩
  have Hx1 : Hid (Fr w x1 (fun _ => False)) := Hw1.out.none g
  clear g hi1 p0 p1
  go_wp2_with fail
  go_ret
  exact ⟨rfl, Hx1.out⟩

end Go.Proofs.Ythdlhdeaeaahoaa

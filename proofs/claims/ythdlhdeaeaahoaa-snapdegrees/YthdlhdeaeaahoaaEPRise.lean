/-
  The contracts of edge's Rising.
-/
import Derived.Test.YthdlhdeaeaahoaaJ2
import Derived.Test.YthdlhdeaeaahoaaEPLess
namespace Go.Proofs.Ythdlhdeaeaahoaa
open Go.RowKit

set_option maxRecDepth 4000 in
set_option maxHeartbeats 800000 in
theorem rising_any (v : Value) (es : List (Nat × Nat)) (w : World) (h : RdE w v es) (hl : es.length ≤ 1000000) : Calls Try.prog 35 #[v] w fun e w' => e = .returned (.bool (eRising es)) ∧ Fr w w' (fun _ => False) := by
  obtain ⟨a0, c0, rfl, hc0⟩ := h.form
  obtain ⟨n, hn⟩ : ∃ n, n = es.length := ⟨_, rfl⟩
  rw [← hn] at h hl hc0 ⊢
  have Hr : Hid (RdE w (.slice a0 n c0) es) := h
  have Hn : Hid _ := hn
  clear h hn
  go_enter Try.func35, Try.ntmps35
  go_wp2_with fail
  go_loopg [3] (n - 1) (fun g I wr => ∃ i : Nat, g = n - i ∧ 1 ≤ i ∧ (i ≤ n ∨ i = 1) ∧ I = .int .i64 (i : Int) ∧ (∀ j a b, j + 1 < i → es[j]? = some a → es[j + 1]? = some b → eLess a b = true) ∧ Fr w wr (fun _ => False))
  case atStart => exact ⟨1, by omega, by omega, .inr rfl, rfl, fun j a b hj => by omega, Fr.refl _ _⟩
  case round =>
    obtain ⟨i, hg, hi1, hi, rfl, hle, hf⟩ := hrel
    have Hg : Hid _ := hg
    have Hle : Hid _ := hle
    have Hf : Hid (Fr w wr (fun _ => False)) := hf
    clear hg hle hf
    by_cases hlt : i < n
    · have hin : (i : Int) < (n : Int) := by omega
      obtain ⟨i1, hi1e⟩ : ∃ k, i = k + 1 := ⟨i - 1, by omega⟩
      have hsub : (i : Int) - 1 = (i1 : Int) := by omega
      have hi1n : (i1 : Int) < (n : Int) := by omega
      have wsub : IntKind.i64.wrap (i1 : Int) = (i1 : Int) := IntWalk.i64_in _ (by omega)
      obtain ⟨a, ha⟩ : ∃ a, es[i1]? = some a := ⟨_, List.getElem?_eq_getElem (by rw [← Hn.out]; omega)⟩
      obtain ⟨b, hb⟩ : ∃ b, es[i]? = some b := ⟨_, List.getElem?_eq_getElem (by rw [← Hn.out]; omega)⟩
      obtain ⟨bk, off, cap, e1, hbk, hca⟩ := Hr.out.get i1 a ha
      obtain ⟨bk', off', cap', e2, -, hcb⟩ := Hr.out.get i b hb
      rw [e1] at e2
      simp only [Value.slice.injEq, Option.some.injEq, Addr.mk.injEq] at e1 e2
      obtain ⟨⟨rfl, rfl, -⟩, -, rfl⟩ := e2
      obtain ⟨rfl, -, rfl⟩ := e1
      have ka : ∀ z, Fr wr.drew z (fun _ => False) → z.cell? ⟨bk, off + i1 * 2, none⟩ = some (.int .u32 (a.1 : Int)) := fun z hz => (hca z (Hf.out.drew.none hz)).1
      have ka2 : ∀ z, Fr wr.drew z (fun _ => False) → z.cell? ⟨bk, off + i1 * 2 + 1, none⟩ = some (.int .u32 (a.2 : Int)) := fun z hz => (hca z (Hf.out.drew.none hz)).2
      have kb : ∀ z, Fr wr.drew z (fun _ => False) → z.cell? ⟨bk, off + i * 2, none⟩ = some (.int .u32 (b.1 : Int)) := fun z hz => (hcb z (Hf.out.drew.none hz)).1
      have kb2 : ∀ z, Fr wr.drew z (fun _ => False) → z.cell? ⟨bk, off + i * 2 + 1, none⟩ = some (.int .u32 (b.2 : Int)) := fun z hz => (hcb z (Hf.out.drew.none hz)).2
      have Hab : Hid (es[i1]? = some a ∧ es[i1 + 1]? = some b) := ⟨ha, by rw [← hi1e]; exact hb⟩
      have Hi1 : Hid _ := hi1e
      have hi0 : (0 : Int) ≤ (i1 : Int) := by omega
      clear hca hcb ha hb hi1e hbk
      go_wp2_with fail
      refine wp_region_tree (fun _ => False) (.take 0 (.take 1 (.take 2 (.take 3 (.take 4 (.take 5 (.take 6 (.take 7 (.take 8 (.one 9 (.take 10 .nil))))))))))) (by kernel_rfl) (by kernel_rfl) (by decide) (by kernel_rfl) ?_
      repeat (refine wpT_take (v := ?_) rfl rfl (fun x hx => ?_) ?_; rotate_left; (focus (go_simp; with_reducible rfl)); simp only [Act.put, List.setIfInBounds_toArray, List.set_cons_zero, List.set_cons_succ])
      refine wpT_one rfl rfl (fun K hK => ?_)
      go_simp
      refine (less_any a b wr.drew).mono ?_
      rintro e w1 ⟨rfl, hf1⟩
      refine hK _ _ hf1 ?_
      clear hK K ka ka2 kb kb2
      have Hf1 : Hid (Fr w w1 (fun _ => False)) := Hf.out.drew.none hf1
      cases hL : eLess a b with
      | false =>
        have Hres : Hid (eRising es = false) := eRising_false Hab.out.1 Hab.out.2 hL
        clear hL hf1
        repeat (refine wpT_take (v := ?_) rfl rfl (fun x hx => ?_) ?_; rotate_left; (focus (go_simp; with_reducible rfl)); simp only [Act.put, List.setIfInBounds_toArray, List.set_cons_zero, List.set_cons_succ])
        unfold wpT
        go_wp2_with fail
        go_ret
        exact ⟨by rw [Hres.out]; rfl, Hf1.out⟩
      | true =>
        have Hle2 : Hid (∀ j a b, j + 1 < i + 1 → es[j]? = some a → es[j + 1]? = some b → eLess a b = true) := fun j x y hj hx hy => by
          by_cases h : j + 1 < i
          · exact Hle.out j x y h hx hy
          · have e : j = i1 := by have := Hi1.out; omega
            subst e
            rw [Hab.out.1] at hx
            rw [Hab.out.2] at hy
            simp only [Option.some.injEq] at hx hy
            rw [← hx, ← hy]
            exact hL
        clear hL hf1
        repeat (refine wpT_take (v := ?_) rfl rfl (fun x hx => ?_) ?_; rotate_left; (focus (go_simp; with_reducible rfl)); simp only [Act.put, List.setIfInBounds_toArray, List.set_cons_zero, List.set_cons_succ])
        unfold wpT
        go_wp2_with fail
        go_roundg (n - (i + 1))
        case rel => exact ⟨i + 1, rfl, by omega, .inl (by omega), by go_num, Hle2.out, Hf1.out⟩
        case measure => rw [Hg.out]; omega
    · have hin : ¬ (i : Int) < (n : Int) := by omega
      have Hres : Hid (eRising es = true) := eRising_true (fun j a b ha hb => Hle.out j a b (by
        have := (List.getElem?_eq_some_iff.1 hb).1
        rw [← Hn.out] at this
        omega) ha hb)
      go_wp2_with fail
      go_ret
      exact ⟨by rw [Hres.out]; rfl, Hf.out⟩
end Go.Proofs.Ythdlhdeaeaahoaa

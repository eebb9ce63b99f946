/-
  Tables of package code in memory; the contract of Put.
-/
import Derived.Test.YtclfbdfgmeliaaaTCodes
import Derived.Test.YtclfbdfgmeliaaaRPutC
import Derived.Test.YtclfbdfgmeliaaaRTakeC
namespace Go.Proofs.Ytclfbdfgmeliaaa
open Go.RowKit

/-- What a table of lengths holds. -/
structure TabOk (l : List Nat) (f : Nat → Nat) : Prop where
  len : ∀ s, s < 256 → f s = ln l s
  code : ∀ s, s < 256 → f (256 + s) = codeOf l s
  ord : ∀ s, 0 < ln l s → f (512 + rk l s) = s
  cnt : ∀ n, n < 16 → f (768 + n) = cntOf l n
  fst : ∀ n, n < 16 → f (784 + n) = firstF (cntOf l) n
/-- A table in memory. -/
def Tab (w : World) (p : Nat) (zs : List Int) (F : Nat → Prop) : Prop := F = (fun k => k = p) ∧ ∃ f, Blk w p 107 800 f ∧ TabOk (nats zs) f
theorem Tab.lt {w : World} {p : Nat} {zs : List Int} {F : Nat → Prop} (h : Tab w p zs F) : ∀ k, F k → k < w.heap.size := by
  obtain ⟨rfl, f, hb, -⟩ := h
  rintro k rfl
  exact hb.lt
theorem Tab.frame {w w' : World} {p : Nat} {zs : List Int} {F S : Nat → Prop} (h : Tab w p zs F) (hf : Fr w w' S) (hs : ∀ k, F k → ¬ S k) : Tab w' p zs F := by
  obtain ⟨rfl, f, hb, hk⟩ := h
  exact ⟨rfl, f, hb.frame hf (hs p rfl), hk⟩

set_option maxRecDepth 4000 in
set_option maxHeartbeats 800000 in
theorem putC_any (p q : Nat) (sv : Value) (bl : List Bool) (zs : List Int) (F : Nat → Prop) (s : Int) (w : World) (ht : Tab w p zs F) (hr : rightB zs = true) (hw : Wr w q sv bl) (hn : bl.length ≤ 100000000) (hap : ∀ k, F k → ¬ foot q sv k) :
    Calls Try.prog 40 #[.pointer (some ⟨p, 0, none⟩), .pointer (some ⟨q, 0, none⟩), .int .i64 s] w fun e w' => e = .returned (.bool (hasCode (nats zs) s)) ∧
      ∃ sv', Wr w' q sv' (bl ++ codeBits (nats zs) s) ∧ Fr w w' (foot q sv) ∧ Moved w sv sv' := by
  obtain ⟨rfl, f, hb, hok⟩ := ht
  have hpq : ¬ foot q sv p := hap p rfl
  have hR := right_nats hr
  obtain ⟨l, hl⟩ : ∃ l, l = nats zs := ⟨_, rfl⟩
  rw [← hl] at hR hok ⊢
  have HR : Hid _ := hR
  have Hok : Hid _ := hok
  have Hb : Hid (Blk w p 107 800 f) := hb
  have Hw : Hid (Wr w q sv bl) := hw
  clear hR hok hb hw hl hr hap
  have hno : hasCode l s = false → Hid (∃ sv', Wr w q sv' (bl ++ codeBits l s) ∧ Fr w w (foot q sv) ∧ Moved w sv sv') := fun e => ⟨sv, by unfold codeBits; rw [e]; simpa using Hw.out, Fr.refl _ _, Moved.refl _ _⟩
  go_enter Try.func40, Try.ntmps40
  by_cases hs0 : s < 0
  · have he : hasCode l s = false := decide_eq_false (by omega)
    have Hno := hno he
    have Hhc : Hid _ := he
    have hd : decide (s < 0) = true := decide_eq_true hs0
    clear hno he
    go_wp2_with fail
    go_ret
    exact ⟨by rw [Hhc.out]; rfl, Hno.out⟩
  · obtain ⟨t, rfl⟩ := Int.eq_ofNat_of_zero_le (by omega : 0 ≤ s)
    have hd : decide ((t : Int) < 0) = false := decide_eq_false (by omega)
    by_cases ht : 256 ≤ t
    · have hl0 : ln l t = 0 := by
        rcases Nat.eq_zero_or_pos (ln l t) with h | h
        · exact h
        · have := ln_lt h; have := HR.out.most; omega
      have he : hasCode l (t : Int) = false := decide_eq_false (by rw [show ((t : Int)).toNat = t by omega, hl0]; omega)
      have Hno := hno he
      have Hhc : Hid _ := he
      have hd2 : decide ((256 : Int) ≤ (t : Int)) = true := decide_eq_true (by omega)
      clear hno he hl0
      go_wp2_with fail
      go_ret
      exact ⟨by rw [Hhc.out]; rfl, Hno.out⟩
    · have hd2 : decide ((256 : Int) ≤ (t : Int)) = false := decide_eq_false (by omega)
      have ht1 : (t : Int) < 256 := by omega
      have cx := Hb.out.cell t (by omega)
      have cc := Hb.out.cell (256 + t) (by omega)
      rw [Hok.out.len t (by omega)] at cx
      rw [Hok.out.code t (by omega)] at cc
      obtain ⟨y, hy⟩ : ∃ y, y = ln l t := ⟨_, rfl⟩
      rw [← hy] at cx
      have Hy : Hid _ := hy
      by_cases hy0 : y = 0
      · have he : hasCode l (t : Int) = false := decide_eq_false (by rw [show ((t : Int)).toNat = t by omega, ← hy]; omega)
        have Hno := hno he
        have Hhc : Hid _ := he
        subst hy0
        clear hno he hy
        go_wp2_with fail
        go_ret
        exact ⟨by rw [Hhc.out]; rfl, Hno.out⟩
      · have Hhc : Hid (hasCode l (t : Int) = true) := decide_eq_true (by rw [show ((t : Int)).toNat = t by omega, ← hy]; omega)
        have hy1 : ((y : Int) == 0) = false := by rw [beq_eq_false_iff_ne]; omega
        have hlt := code_lt HR.out.ln HR.out.kraft (s := t) (by rw [← Hy.out]; omega)
        have hcb : codeOf l t < 32768 := Nat.lt_of_lt_of_le hlt (Nat.le_trans (Nat.pow_le_pow_right (by omega) (HR.out.ln t)) (by decide))
        have hy15 : y ≤ 15 := by rw [Hy.out]; exact HR.out.ln t
        have Hbits : Hid (codeBits l (t : Int) = putBits (codeOf l t) (wide (y : Int))) := by
          show _ = _
          unfold codeBits
          rw [if_pos Hhc.out, show ((t : Int)).toNat = t by omega, ← Hy.out]
          congr 1
          unfold wide
          omega
        clear hno hy
        have kx : ∀ x, Fr w.drew x (foot q sv) → x.cell? ⟨p, t, none⟩ = some (.int .i64 (y : Int)) := fun x hx => by
          rw [World.cell?_of_block (w := w) (hx.block p Hb.out.lt hpq)]
          exact cx
        have kc : ∀ x, Fr w.drew x (foot q sv) → x.cell? ⟨p, 256 + t, none⟩ = some (.int .i64 ((codeOf l t : Nat) : Int)) := fun x hx => by
          rw [World.cell?_of_block (w := w) (hx.block p Hb.out.lt hpq)]
          exact cc
        generalize codeOf l t = C at hlt hcb Hbits kc cc
        have hcw : IntKind.u64.wrap (C : Int) = (C : Int) := by rw [IntKind.wrap_u64]; omega
        clear cc hlt
        go_wp2
        refine wp_region_tree (foot q sv) (.take 0 (.take 1 (.take 2 (.take 3 (.take 4 (.take 5 (.take 6 (.take 7 (.take 8 (.take 9 (.take 10 (.take 11 (.take 12 (.take 13 (.one 14 .nil))))))))))))))) (by kernel_rfl) (by kernel_rfl) (by decide) (by kernel_rfl) ?_
        repeat (refine wpT_take (v := ?_) rfl rfl (fun x hx => ?_) ?_; rotate_left; (focus (go_simp; with_reducible rfl)); simp only [Act.put, List.setIfInBounds_toArray, List.set_cons_zero, List.set_cons_succ])
        refine wpT_one rfl rfl (fun K hK => ?_)
        go_simp
        refine (put_any q sv bl C (y : Int) w.drew (Hw.out.frame (Fr.refl w (fun _ => False)).drew (fun _ _ h => h)) (by omega) (by omega)).mono ?_
        rintro e w2 ⟨rfl, sv2, hwr2, hf2, hm2⟩
        refine hK _ _ hf2 ?_
        clear hK K
        unfold wpT
        go_wp2
        go_ret
        refine ⟨by rw [Hhc.out]; rfl, sv2, by rw [Hbits.out]; exact hwr2, ?_, hm2⟩
        exact ((Fr.refl w (foot q sv)).drew).trans hf2 (fun _ _ h => h)

end Go.Proofs.Ytclfbdfgmeliaaa

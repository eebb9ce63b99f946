/-
  The contract of the reference's PutCode.
-/
import Derived.Test.YtdbbngppdcpcgaaRCodes
import Derived.Test.YtdbbngppdcpcgaaBRefPut
import Derived.Test.YtdbbngppdcpcgaaTree
namespace Go.Proofs.Ytdbbngppdcpcgaa
open Go.RowKit

/-- Has a code. -/
def hasCode (l : List Nat) (s : Int) : Bool := decide (0 ≤ s ∧ 0 < ln l s.toNat)
/-- The bits of a symbol; none of one without a code. -/
def codeBits (l : List Nat) (s : Int) : List Bool := if hasCode l s = true then putBits (codeOf l s.toNat) (ln l s.toNat) else []

set_option maxHeartbeats 800000 in
theorem refPutCode_any (q : Nat) (sv : Value) (bl : List Bool) (v : Value) (zs : List Int) (s : Int) (w : World) (h : RefWr w q sv bl) (hn : bl.length ≤ 100000000) (hz : ReadsZ w v zs) (hr : rightB zs = true) (hap : ∀ k, v.ownBlock = some k → ¬ foot q sv k) :
    Calls Try.prog 19 #[.pointer (some ⟨q, 0, none⟩), v, .int .i64 s] w fun e w' => e = .returned (.bool (hasCode (nats zs) s)) ∧
      ∃ sv', RefWr w' q sv' (bl ++ codeBits (nats zs) s) ∧ Fr w w' (foot q sv) ∧ Moved w sv sv' := by
  obtain ⟨a0, c0, rfl, hc0⟩ := hz.form
  have Hz : Hid (ReadsZ w (.slice a0 zs.length c0) zs) := hz
  obtain ⟨n, hnn⟩ : ∃ n, n = zs.length := ⟨_, rfl⟩
  rw [← hnn] at Hz hc0 hap ⊢
  have Hn : Hid _ := hnn
  have hR := right_nats hr
  have hback := nats_back (rightB_in hr)
  obtain ⟨l, hl⟩ : ∃ l, l = nats zs := ⟨_, rfl⟩
  rw [← hl] at hR hback ⊢
  have hln : l.length = n := by rw [hl, nats_length, ← hnn]
  have Hln : Hid _ := hln
  have HR : Hid _ := hR
  have Hl : Hid _ := hl
  have Hrt : Hid _ := hr
  have Hget : Hid (∀ s, s < n → zs[s]? = some ((ln l s : Nat) : Int)) := fun s hs => by
    rw [← hback, List.getElem?_map]
    unfold ln
    rw [List.getD_eq_getElem?_getD, List.getElem?_eq_getElem (by omega)]
    rfl
  have Hap : Hid _ := hap
  have Hw : Hid (RefWr w q sv bl) := h
  clear h hz hnn hR hback hl hln hr hap
  go_enter Try.func19, Try.ntmps19
  have hno : hasCode l s = false → Hid (∃ sv', RefWr w q sv' (bl ++ codeBits l s) ∧ Fr w w (foot q sv) ∧ Moved w sv sv') := fun e => ⟨sv, by unfold codeBits; rw [e]; simpa using Hw.out, Fr.refl _ _, Moved.refl _ _⟩
  by_cases hs0 : s < 0
  · have he : hasCode l s = false := decide_eq_false (by omega)
    have Hno := hno he
    have Hhc : Hid _ := he
    have hd : decide (s < 0) = true := decide_eq_true hs0
    clear hno he
    go_wp2_with fail
    go_ret
    exact ⟨by rw [Hhc.out]; rfl, Hno.out⟩
  · obtain ⟨t, rfl⟩ := Int.eq_ofNat_of_zero_le (by omega : 0 ≤ s)
    by_cases htn : n ≤ t
    · have hl0 : ln l t = 0 := by
        rcases Nat.eq_zero_or_pos (ln l t) with h | h
        · exact h
        · have := ln_lt h; have := Hln.out; omega
      have he : hasCode l (t : Int) = false := decide_eq_false (by rw [show ((t : Int)).toNat = t by omega, hl0]; omega)
      have Hno := hno he
      have Hhc : Hid _ := he
      have hd : decide ((t : Int) < 0) = false := decide_eq_false (by omega)
      have hd2 : decide ((n : Int) ≤ (t : Int)) = true := decide_eq_true (by omega)
      clear hno he hl0
      go_wp2_with fail
      go_ret
      exact ⟨by rw [Hhc.out]; rfl, Hno.out⟩
    · obtain ⟨b, off, cp, e, hb0, kx⟩ := Hz.out.get t _ (Hget.out t (by omega))
      simp only [Value.slice.injEq] at e
      obtain ⟨rfl, -, rfl⟩ := e
      have cx := kx _ (Fr.refl _ _)
      obtain ⟨y, hy⟩ : ∃ y, y = ln l t := ⟨_, rfl⟩
      rw [← hy] at cx kx
      have Hkx : Hid _ := kx
      have Hy : Hid _ := hy
      have hd : decide ((t : Int) < 0) = false := decide_eq_false (by omega)
      have hd2 : decide ((n : Int) ≤ (t : Int)) = false := decide_eq_false (by omega)
      have ht1 : (t : Int) < (n : Int) := by omega
      by_cases hy0 : y = 0
      · have he : hasCode l (t : Int) = false := decide_eq_false (by rw [show ((t : Int)).toNat = t by omega, ← hy]; omega)
        have Hno := hno he
        have Hhc : Hid _ := he
        subst hy0
        clear hno he hy kx
        go_wp2_with fail
        go_ret
        exact ⟨by rw [Hhc.out]; rfl, Hno.out⟩
      · have Hhc : Hid (hasCode l (t : Int) = true) := decide_eq_true (by rw [show ((t : Int)).toNat = t by omega, ← hy]; omega)
        have hy1 : ((y : Int) == 0) = false := by rw [beq_eq_false_iff_ne]; omega
        clear hno hy kx
        have hbq : ¬ foot q sv b := Hap.out b rfl
        have kl : ∀ x, Fr w.drew x (foot q sv) → x.cell? ⟨b, off + t, none⟩ = some (.int .i64 (y : Int)) := fun x hx => by
          rw [World.cell?_of_block (w := w) (hx.block b hb0 hbq)]
          exact cx
        go_wp2
        refine wp_region_tree (foot q sv) (.take 0 (.take 1 (.take 3 (.take 7 (.take 8 (.take 9 (.take 10 (.one 2 (.take 4 (.take 5 (.take 6 (.one 11 .nil)))))))))))) (by kernel_rfl) (by kernel_rfl) (by decide) (by kernel_rfl) ?_
        repeat (refine wpT_take (v := ?_) rfl rfl (fun x hx => ?_) ?_; rotate_left; (focus (go_simp; with_reducible rfl)); simp only [Act.put, List.setIfInBounds_toArray, List.set_cons_zero, List.set_cons_succ])
        refine wpT_one rfl rfl (fun K hK => ?_)
        go_simp
        refine (refCodes_any _ zs _ (Hz.out.keep (Fr.refl w _).drew)).mono ?_
        rintro e w1 ⟨sc, rfl, hrc, hf1, hnw1⟩
        refine hK _ _ (hf1.mono (fun _ _ h => h.elim)) ?_
        clear hK K
        have hcz : codesZ zs = fnRow n (codeOf l) := by unfold codesZ; rw [if_pos Hrt.out, ← Hl.out, ← Hn.out]; rfl
        rw [hcz] at hrc
        obtain ⟨ac, cc, hsc, hcc, hcl⟩ := hrc
        rw [length_row, fnRow_length] at hsc hcc hcl
        subst hsc
        obtain ⟨bc, oc, rfl, hcell⟩ := hcl (by omega)
        have hcc1 := hcell t _ (row_get .i64 (fnRow n (codeOf l)) t (by rw [fnRow_length]; omega))
        have hgd : (fnRow n (codeOf l)).getD t 0 = codeOf l t := by rw [List.getD_eq_getElem?_getD, fnRow_get n _ t (by omega)]; rfl
        rw [hgd] at hcc1
        have hbcl : bc < w1.heap.size := World.block_lt_of_cell? _ _ hcc1
        have hbcn : w.heap.size ≤ bc := hnw1 bc rfl
        have hlt := code_lt HR.out.ln HR.out.kraft (s := t) (by rw [← Hy.out]; omega)
        have hcb : codeOf l t < 32768 := Nat.lt_of_lt_of_le hlt (Nat.le_trans (Nat.pow_le_pow_right (by omega) (HR.out.ln t)) (by decide))
        have hy15 : y ≤ 15 := by rw [Hy.out]; exact HR.out.ln t
        have Hbits : Hid (codeBits l (t : Int) = putBits (codeOf l t) (wide (y : Int))) := by
          show _ = _
          unfold codeBits
          rw [if_pos Hhc.out, show ((t : Int)).toNat = t by omega, ← Hy.out]
          congr 1
          unfold wide
          omega
        have hftq : ∀ k, foot q sv k → k < w.heap.size := Hw.out.lt
        have kc : ∀ x, Fr w1 x (foot q sv) → x.cell? ⟨bc, oc + t, none⟩ = some (.int .i64 ((codeOf l t : Nat) : Int)) := fun x hx => by
          rw [World.cell?_of_block (w := w1) (hx.block bc hbcl (fun h => by have := hftq bc h; omega))]
          exact hcc1
        have hw1 : RefWr w1 q sv bl := Hw.out.frame ((Fr.refl w (fun _ => False)).drew.none hf1) (fun _ _ h => h)
        have hfw : Fr w w1 (fun _ => False) := (Fr.refl w (fun _ => False)).drew.none hf1
        generalize codeOf l t = C at hcc1 hlt hcb Hbits kc
        have hcw : IntKind.u64.wrap (C : Int) = (C : Int) := by rw [IntKind.wrap_u64]; omega
        have hkt : (t : Int) < (n : Int) := ht1
        repeat (refine wpT_take (v := ?_) rfl rfl (fun x hx => ?_) ?_; rotate_left; (focus (go_simp; with_reducible rfl)); simp only [Act.put, List.setIfInBounds_toArray, List.set_cons_zero, List.set_cons_succ])
        refine wpT_one rfl rfl (fun K hK => ?_)
        go_simp
        refine (refPut_any q sv bl C (y : Int) w1 hw1 (by omega) (by omega)).mono ?_
        rintro e w2 ⟨rfl, sv2, hwr2, hf2, hm2⟩
        refine hK _ _ hf2 ?_
        clear hK K
        unfold wpT
        go_wp2
        go_ret
        refine ⟨by rw [Hhc.out]; rfl, sv2, by rw [Hbits.out]; exact hwr2, ?_, hm2.mono' hfw.size⟩
        exact (hfw.mono (fun _ _ h => h.elim)).trans hf2 (fun _ _ h => h)

end Go.Proofs.Ytdbbngppdcpcgaa

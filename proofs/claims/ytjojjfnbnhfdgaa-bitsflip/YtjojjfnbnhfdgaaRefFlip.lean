/-
  The contract of the reference's Flip: a slice in which the bits that the mask names are turned; at most 10^11 bytes.
-/
import Derived.Test.YtjojjfnbnhfdgaaStr
namespace Go.Proofs.Ytjojjfnbnhfdgaa
open Go.RowKit

theorem run_append_copy (w : World) (ao : Option Addr) (cap : Nat) (bs : List Nat) (h : Reads w (.slice ao bs.length cap) bs) (hb : bs.length ≤ 100000000000) :
    ∃ v' w', (Builtin.append_ #[35, 35] 35 #[.slice none 0 0, .slice ao bs.length cap]).run Try.prog w = .ok v' w' ∧ w'.ownsRow 0 5 1 v' bs.length (row bs) ∧ Fr w w' (fun _ => False) ∧ (∀ k, v'.ownBlock = some k → w.heap.size ≤ k) := by
  obtain ⟨i0, hi, hz0, hz1, hz2⟩ := info_parts Try.info5
  obtain ⟨ao', cap', e, hc⟩ := h
  simp only [Value.slice.injEq, true_and] at e
  obtain ⟨rfl, rfl⟩ := e
  by_cases h0 : 0 < bs.length
  · obtain ⟨b, off, rfl, hcell⟩ := hc h0
    obtain ⟨v', w', hr, ho, hg, _, hat⟩ := run_append_own_at (P := Try.prog) w 0 35 35 5 i0 (.int .u8 0) 1 1 Try.underlying35 hi hz0 hz1 hz2 rfl (by decide) (.slice none 0 0) 0 [] (World.ownsRow_nil _ _ _ _) ⟨b, off, none⟩ bs.length cap (row bs)
      (by rw [length_row]; omega) (fun j u hj => by rw [add_none]; exact hcell j u hj) (row_one bs) (by unfold maxLen; omega) (by omega) (Nat.zero_le _)
    rw [Nat.zero_add, List.nil_append] at ho
    refine ⟨v', w', hr, ho, (Fr.refl w _).grown hg (fun k hk => by cases hk), fun k hk => ?_⟩
    rcases hat with hat | hat
    · rw [hat] at hk; cases hk
    · rw [hat] at hk; simp at hk; omega
  · have e : bs = [] := List.eq_nil_of_length_eq_zero (by omega)
    subst e
    refine ⟨.slice none 0 0, w, ?_, World.ownsRow_nil _ _ _ _, Fr.refl _ _, fun k hk => by cases hk⟩
    cases ao with
    | none => exact run_append_owned_none (P := Try.prog) w 0 35 35 5 i0 1 Try.underlying35 hi (.slice none 0 0) 0 [] (World.ownsRow_nil _ _ _ _)
    | some a => simp [Builtin.append_, run_underlying Try.underlying35, sizeOf, typeInfo, hi, Builtin.lenOf, Builtin.firstCells, loadCells, loadCellsFrom]

theorem wpList_append_run {P : Program} {w : World} {ops : Array Oper} {rest : List Oper} {o : Oper} {a : Act} {Q : Exit → Act → World → Prop} (hgd : o.guard = none) (s x : Operand) (t : TypeId)
    (ho : o.op = .call { callee := .builtin .append, args := #[s, x], argTypes := #[t, t] }) {u v v' : Value} {w' : World} (hs : a.eval s = u) (hx : a.eval x = v)
    (hrun : (Builtin.append_ #[t, t] o.type #[u, v]).run P w = .ok v' w') (h : wpList P ops Q rest (a.put o.dst v') w') : wpList P ops Q (o :: rest) a w := by
  refine wpList_plain hgd fun K hK => ?_
  unfold Oper.wp execOp
  simp only [ho, resolve, invoke, builtin, Sem.run_bind, Sem.run_pure, Result.andThen_ok, List.map_toArray, List.map_cons, List.map_nil, hs, hx, hrun]
  exact hK _ _ h

set_option maxHeartbeats 1600000 in
theorem refFlip_any (v : Value) (bs : List Nat) (f : Int) (mask : Nat) (w : World) (hv : Reads w v bs) (hb : bs.length ≤ 100000000000) (hs : ∀ j, bs.getD j 0 < 256)
    (hf0 : -9223372036854775808 ≤ f) (hf1 : f ≤ 9223372036854775807) (hm : mask < 4294967296) :
    Calls Try.prog 22 #[v, .int .i64 f, .int .u32 (mask : Int)] w fun e w' => ∃ v', e = .returned v' ∧
      w'.ownsRow 0 5 1 v' bs.length (row (flips bs f mask 32)) ∧ Fr w w' (fun _ => False) := by
  obtain ⟨ao, cap, rfl, hc⟩ := id hv
  obtain ⟨out, w1, hrun, h1, h2, h3⟩ := run_append_copy w ao cap bs hv hb
  obtain ⟨n, hn⟩ : ∃ n, n = bs.length := ⟨_, rfl⟩
  rw [← hn] at hb h1 hrun ⊢
  have Hn : Hid _ := hn
  have Hs : Hid _ := hs
  have H1 : Hid (w1.ownsRow 0 5 1 out n (row bs)) := h1
  have H3 : Hid _ := h3
  clear hv hn hs h1 hc h3
  go_enter Try.func22, Try.ntmps22
  go_wp2_with (at_builtin; refine wpList_append_run rfl (.const (.slice none 0 0)) (.tmp 9) 35 rfl rfl rfl hrun ?_)
  go_loopw [8] (fun c wr => ∃ k : Nat, k ≤ 32 ∧ c = .int .i64 (k : Int) ∧ wr.ownsRow 0 5 1 out n (row (flips bs f mask k)) ∧ Fr w wr (fun _ => False))
    (fun c _ => 32 - (intOf c).toNat)
  case atStart => exact ⟨0, Nat.zero_le _, rfl, H1.out, h2⟩
  case round =>
    clear hrun
    obtain ⟨k, hk, rfl, ho, hfr⟩ := hrel
    by_cases hlt : k < 32
    · obtain ⟨cs, hcs⟩ : ∃ cs, cs = flips bs f mask k := ⟨_, rfl⟩
      have hcl : cs.length = n := by rw [hcs, length_flips, Hn.out]
      have hcsm : ∀ j, cs.getD j 0 < 256 := by rw [hcs]; exact small_flips _ _ _ _ Hs.out
      rw [← hcs] at ho
      have Hcs : Hid _ := hcs
      have Hcl : Hid _ := hcl
      have Hsm : Hid _ := hcsm
      have Ho : Hid (wr.ownsRow 0 5 1 out n (row cs)) := ho
      clear hcs hcl hcsm ho
      have hmv := mask_val mask k hm
      have hd32 : decide ((k : Int) < 32) = true := by simp; omega
      cases hmb : mask.testBit k
      · rw [hmb] at hmv
        have hst : flips bs f mask (k + 1) = cs := by
          rw [flips, ← Hcs.out]; unfold flipStep; rw [if_neg (by rw [hmb]; simp)]
        have Hst : Hid _ := hst
        clear hst hmb
        go_wp2
        go_roundw
        case rel => exact ⟨k + 1, by omega, by go_num, by rw [Hst.out]; exact Ho.out, hfr⟩
        case measure => simp [intOf]; omega
      · rw [hmb] at hmv
        have Hmb : Hid _ := hmb
        clear hmb
        by_cases hin : -(k : Int) ≤ f ∧ f < 8 * (n : Int) - k
        · obtain ⟨hin1, hin2⟩ := hin
          obtain ⟨g, cp, rfl, _, _⟩ := own_form Ho.out (by omega)
          obtain ⟨j, hj⟩ := Int.eq_ofNat_of_zero_le (show 0 ≤ f + (k : Int) by omega)
          obtain ⟨q, hq⟩ : ∃ q, q = j / 8 := ⟨_, rfl⟩
          have hqn : q < n := by omega
          have cg : wr.cell? ⟨g, q, none⟩ = some (.int .u8 ((cs.getD q 0 : Nat) : Int)) := by
            have := World.ownsRow.cellAt Ho.out q (by omega)
            rw [this]; exact row_get _ _ (by rw [Hcl.out]; exact hqn)
          have fg : wr.frozen? ⟨g, q, none⟩ = false := World.ownsRow.frozenAt Ho.out q
          obtain ⟨x, hx⟩ : ∃ x, x = cs.getD q 0 := ⟨_, rfl⟩
          rw [← hx] at cg
          have hx2 : x < 256 := by rw [hx]; exact Hsm.out _
          have hadd : IntKind.i64.wrap (f + (k : Int)) = (j : Int) := by rw [IntWalk.i64_in _ (by omega)]; exact hj
          have hqw : IntKind.i64.wrap ((j : Int) / 8) = (q : Int) := by rw [IntWalk.i64_in _ (by omega)]; omega
          have i1 : (q : Int) < (n : Int) := by omega
          have hjb : (j : Int) ≤ 1000000000000 := by omega
          have hrem : (j : Int).tmod 8 = ((j % 8 : Nat) : Int) := by rw [Int.tmod_eq_emod_of_nonneg (by omega)]; omega
          have Hj : Hid _ := hj
          have Hq : Hid _ := hq
          have Hx : Hid _ := hx
          clear hj hq hx
          go_wp2
          go_still_tail 14, (by kernel_rfl)
          go_wp2
          go_roundw
          case rel =>
            have e : flips bs f mask (k + 1) = cs.set q (x ^^^ 2 ^ (j % 8)) := by
              rw [flips, ← Hcs.out]; unfold flipStep
              rw [if_pos ⟨⟨hin1, by rw [Hcl.out]; exact hin2⟩, Hmb.out⟩, show (f + (k : Int)).toNat = j by rw [Hj.out]; rfl, ← Hq.out, ← Hx.out]
            obtain ⟨ho3, hg3⟩ := World.ownsRow.stored Ho.out q (.int .u8 ((x ^^^ 2 ^ (j % 8) : Nat) : Int))
            rw [xor_val x j hx2]
            refine ⟨k + 1, by omega, by go_num, ?_, Fr.drew (hfr.grown hg3 ?_)⟩
            · rw [e, row_set]; exact ho3
            · intro k' hk' hlt'
              simp at hk'
              have := H3.out g rfl
              omega
          case measure => simp [intOf]; omega
        · have hst : flips bs f mask (k + 1) = cs := by
            rw [flips, ← Hcs.out]; unfold flipStep; rw [if_neg (by rw [Hcl.out]; intro h; exact hin h.1)]
          have Hst : Hid _ := hst
          clear hst
          by_cases hin1 : -(k : Int) ≤ f
          · have hin2 : ¬ f < 8 * (n : Int) - k := fun h => hin ⟨hin1, h⟩
            have hd2 : decide (f < 8 * (n : Int) - k) = false := by simpa using hin2
            clear hin
            go_wp2
            go_roundw
            case rel => exact ⟨k + 1, by omega, by go_num, by rw [Hst.out]; exact Ho.out, hfr⟩
            case measure => simp [intOf]; omega
          · have hd1 : decide (-(k : Int) ≤ f) = false := by simpa using hin1
            clear hin
            go_wp2
            go_roundw
            case rel => exact ⟨k + 1, by omega, by go_num, by rw [Hst.out]; exact Ho.out, hfr⟩
            case measure => simp [intOf]; omega
    · have Hk : Hid (k = 32) := by show k = 32; omega
      have Ho : Hid (wr.ownsRow 0 5 1 out n (row (flips bs f mask k))) := ho
      clear ho
      go_wp2
      go_ret
      exact ⟨_, rfl, by rw [← Hk.out]; exact Ho.out, hfr⟩
end Go.Proofs.Ytjojjfnbnhfdgaa

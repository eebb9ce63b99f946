/-
  The walk of the law VarintMany: called with whatever arguments, it returns true and touches nothing that was there. No condition.
-/
import Derived.Test.YtimegheijfnkaaaKnown
import Derived.Deep.LoopGhost
namespace Go.Proofs.Ytimegheijfnkaaa.varintMany
open Go.ChangeShapes Go.WideShapes Go.ChangeAt Go.RowKit

/-- A slice of numbers that the call owns. -/
def OwnU (w : World) (v : Value) (us : List Nat) : Prop := w.ownsRow 0 24 1 v us.length (row .u64 us)
theorem OwnU.nil (w : World) : OwnU w (.slice none 0 0) [] := World.ownsRow_nil _ _ _ _
theorem OwnU.reads {w : World} {v : Value} {us : List Nat} (h : OwnU w v us) : Reads .u64 w v us := holds_own h
/-- append of one number that is written out. -/
theorem app_num (w : World) (v : Value) (us : List Nat) (x : Nat) (z : Int) (hz : z = (x : Int)) (h : OwnU w v us) (hb : us.length ≤ 10000000000) :
    ∃ v' w', (Builtin.append_ #[22, 22] 22 #[v, .slice (some ⟨w.heap.size, 0, none⟩) 1 1]).run Try.prog (w.alloc (.cells #[.int .u64 z] 24)) = .ok v' w' ∧ OwnU w' v' (us ++ [x]) ∧ Fr w w' (fun k => v.ownBlock = some k) ∧ Moved w v v' := by
  subst hz
  obtain ⟨i0, hi, hz0, hz1, hz2⟩ := info_parts Try.info24
  obtain ⟨v', w', h1, h2, h3, h4, -, -⟩ := run_append_holds (P := Try.prog) (w.alloc (.cells #[.int .u64 (x : Int)] 24)) 22 22 24 i0 (.int .u64 0) 8 Try.underlying22 hi hz0 hz1 hz2 rfl (by decide) v _ _ (World.ownsRow.alloc h _) _ _ (holds_lit w 24 [.int .u64 (x : Int)] (by simp)) (row1_one _ _) (by simp; omega)
  refine ⟨v', w', h1, ?_, ((Fr.refl w _).alloc _).trans h3 (fun _ _ h => h), h4.mono' (by simp)⟩
  unfold OwnU
  rw [List.length_append, row_append]
  exact h2

/-- What b[n:] is. -/
theorem reads_drop {w : World} {ao : Option Addr} {len cap : Nat} {bs : List Nat} (h : Reads .u8 w (.slice ao len cap) bs) (n : Nat) (hn : n ≤ len) :
    Reads .u8 w (.slice (if cap = n then ao else Option.map (fun x => x.add n) ao) (len - n) (cap - n)) (bs.drop n) := by
  obtain ⟨ao', cap', e, hlc, hc⟩ := id h
  simp only [Value.slice.injEq] at e
  obtain ⟨rfl, hl, rfl⟩ := e
  rw [length_row] at hl hlc hc
  by_cases h0 : 0 < bs.length - n
  · obtain ⟨b, off, rfl, -⟩ := hc (by omega)
    rw [if_neg (by omega)]
    simp only [Option.map_some, add_none]
    have := Holds.drop h n hn (cap - n) (by omega)
    rwa [← row_drop] at this
  · refine ⟨if cap = n then ao else Option.map (fun x => x.add n) ao, cap - n, ?_, ?_, fun hp => ?_⟩
    · rw [length_row, List.length_drop, hl]
    · rw [length_row, List.length_drop]; omega
    · rw [length_row, List.length_drop] at hp; omega

set_option maxRecDepth 4000 in
set_option maxHeartbeats 1600000 in
theorem walk (a0 : Option Addr) (len0 cap0 : Nat) (z0 : List Int) (a1 : Int) (w : World) (w0 : IsRow .u64 w a0 len0 cap0 z0) (w1 : (Lit.int .u8 a1).wf = true) :
    Calls Try.prog 5 #[.slice a0 len0 cap0, .int .u8 a1] w fun e w' => e = .returned (.bool true) ∧ Below w.heap.size w w' := by
  obtain ⟨hb1, hb1'⟩ := bounds_u8 w1
  obtain ⟨ls, hll, hls, hrl, -⟩ := reads_isRow small_u64 (by decide) w0
  obtain ⟨s, rfl⟩ := Int.eq_ofNat_of_zero_le hb1
  clear hb1 w0 w1
  have Hrl : Hid (Reads .u64 w (.slice a0 len0 cap0) ls) := hrl
  have Hll : Hid _ := hll
  have Hls : Hid _ := hls
  clear hll hls hrl
  go_enter Try.func5, Try.ntmps5
  go_wp2_with fail
  refine (known_any w).mono ?_
  rintro e wa ⟨rfl, hf1⟩
  by_cases hlen : 20 < len0
  · go_wp2
    go_ret
    exact ⟨rfl, hf1.below (Nat.le_refl _) (fun _ h => h.elim)⟩
  · have hd20 : decide (20 < (len0 : Int)) = false := by simp; omega
    go_wp2_with fail
    go_loopg [5, 6] len0 (fun g S I wr => ∃ (i : Nat) (xs : List Nat), i ≤ len0 ∧ g = len0 - i ∧ I = .int .i64 (i : Int) ∧ xs.length = i ∧ (∀ x ∈ xs, x < 18446744073709551616) ∧ OwnU wr S xs ∧ Fr w wr (fun _ => False) ∧ (∀ k, S.ownBlock = some k → w.heap.size ≤ k))
    case atStart => exact ⟨0, [], by omega, by omega, rfl, rfl, by simp, OwnU.nil _, hf1, fun k hk => by simp [Value.ownBlock] at hk⟩
    case round =>
      clear hf1
      obtain ⟨i, xs, hi, hgk, rfl, hxl, hxs, ho, hf, hb⟩ := hrel
      have Hgk : Hid _ := hgk
      have Hxl : Hid _ := hxl
      have Hxs : Hid _ := hxs
      clear hgk hxs hxl
      by_cases hlt : i < len0
      · obtain ⟨ao', cap', e, -, hcl⟩ := Hrl.out.keep hf
        obtain ⟨b, off, rfl, hcell⟩ := hcl (by rw [length_row, Hll.out]; omega)
        simp only [Value.slice.injEq] at e
        obtain ⟨rfl, -, rfl⟩ := e
        have cg := hcell i _ (row_get .u64 ls i (by rw [Hll.out]; exact hlt))
        have hu := Hls.out i
        generalize ls.getD i 0 = u at cg hu
        clear hcl hcell
        obtain ⟨X, hX, hX2⟩ : ∃ X : Nat, (u : Int) / 2 ^ ((s + 9 * i) % 64) = (X : Int) ∧ X < 18446744073709551616 := by
          refine ⟨u / 2 ^ ((s + 9 * i) % 64), by simp, Nat.lt_of_le_of_lt (Nat.div_le_self _ _) (by omega)⟩
        obtain ⟨S', w1, hrun, ho1, hf1, hm1⟩ := app_num wr u5 xs X _ rfl ho (by rw [Hxl.out]; omega)
        have hb' : ∀ k, S'.ownBlock = some k → w.heap.size ≤ k := fun k hk => by
          rcases hm1 k hk with h2 | h2
          · exact hb k h2
          · have := hf.size; omega
        have hfn := hf.newer hf1 (fun k hk => hb k hk)
        have Hxs' : Hid (∀ x ∈ xs ++ [X], x < 18446744073709551616) := fun x hx => by
          rcases List.mem_append.1 hx with h | h
          · exact Hxs.out x h
          · simp at h; omega
        clear hb hf1 hm1 ho
        go_wp2_with (at_builtin; refine wpList_append_run rfl (.tmp 24) (.tmp 36) 22 rfl rfl rfl hrun ?_)
        go_roundg (len0 - (i + 1))
        case rel => exact ⟨i + 1, xs ++ [X], by omega, rfl, by go_num, by rw [List.length_append, Hxl.out]; rfl, Hxs'.out, ho1, hfn, hb'⟩
        case measure => rw [Hgk.out]; omega
      · have hil : i = len0 := by omega
        have hxr := ho.reads
        clear ho hb
        obtain ⟨ao, cap, rfl, hlc, hc⟩ := id hxr
        rw [length_row, Hxl.out, hil] at hxr hlc ⊢
        have Hil : Hid _ := hil
        have Hxr : Hid (Reads .u64 wr (.slice ao len0 cap) xs) := hxr
        have hel := encs_le xs Hxs.out
        rw [Hxl.out] at hel
        have Hc : Hid _ := hc
        clear hc hil hxr
        go_wp2_with fail
        refine (puts_any _ xs wr Hxr.out Hxs.out (by rw [Hxl.out]; omega)).mono ?_
        rintro e wb ⟨sv, rfl, hoB, hfB, -⟩
        have hrB := hoB.reads
        have hxB := Hxr.out.keep hfB
        have hf2 := hf.none hfB
        clear hoB hfB hf
        go_wp2_with fail
        go_loopg [7, 8, 9] len0 (fun g B Z I wr => ∃ (j : Nat), j ≤ len0 ∧ g = len0 - j ∧ I = .int .i64 (j : Int) ∧ Reads .u8 wr B (encs (xs.drop j)) ∧ Z = .int .i64 ((encs (xs.take j)).length : Int) ∧ wr = wb)
        case atStart => exact ⟨0, by omega, by omega, rfl, hrB, rfl, rfl⟩
        case round =>
          clear hrB
          obtain ⟨j, hj, hgj, rfl, hrB, rfl, rfl⟩ := hrel
          have Hgj : Hid _ := hgj
          clear hgj
          by_cases hjl : j < len0
          · have hxj : j < xs.length := by rw [Hxl.out, Hil.out]; exact hjl
            obtain ⟨aox, capx, e, -, hcl⟩ := id hxB
            obtain ⟨b, off, rfl, hcell⟩ := hcl (by rw [length_row]; omega)
            simp only [Value.slice.injEq] at e
            obtain ⟨rfl, -, rfl⟩ := e
            have cg := hcell j _ (row_get .u64 xs j hxj)
            have hU := Hxs.out _ (getD_mem hxj)
            have hdr : encs (xs.drop j) = enc (xs.getD j 0) ++ encs (xs.drop (j + 1)) := by rw [drop_step hxj, encs_cons]
            have htk : encs (xs.take (j + 1)) = encs (xs.take j) ++ enc (xs.getD j 0) := by rw [take_step hxj, encs_snoc]
            have hR := encs_le (xs.drop (j + 1)) (fun u hu => Hxs.out u (List.mem_of_mem_drop hu))
            have hQ := encs_le (xs.take j) (fun u hu => Hxs.out u (List.mem_of_mem_take hu))
            rw [List.length_drop, Hxl.out] at hR
            rw [List.length_take, Hxl.out] at hQ
            have hRb := encs_bytes (xs.drop (j + 1))
            rw [hdr] at hrB
            generalize xs.getD j 0 = U at cg hU hdr htk hrB
            generalize hRR : encs (xs.drop (j + 1)) = R at hR hRb hrB hdr
            have HRR : Hid _ := hRR
            clear hRR
            have htk' : (encs (xs.take (j + 1))).length = (encs (xs.take j)).length + (enc U).length := by rw [htk, List.length_append]
            generalize (encs (xs.take j)).length = Q at hQ htk'
            obtain ⟨L, hL⟩ : ∃ L, L = (enc U).length := ⟨_, rfl⟩
            have hL1 := enc_pos U
            have hL2 := enc_le U hU
            rw [← hL] at hL1 hL2 htk'
            have Ht : Hid (took (enc U ++ R) 18446744073709551615 = (U, L, 0)) := by show _ = _; rw [hL]; exact took_enc U _ R hU (by omega)
            have Hb : Hid (∀ x ∈ enc U ++ R, x < 256) := fun x hx => by
              rcases List.mem_append.1 hx with h | h
              · exact enc_bytes U x h
              · exact hRb x h
            have HrB : Hid (Reads .u8 wr u7 (enc U ++ R)) := hrB
            obtain ⟨aB, capB, rfl, hlcB, -⟩ := hrB
            rw [length_row, List.length_append, ← hL] at HrB hlcB ⊢
            obtain ⟨M, hM⟩ : ∃ M, M = R.length := ⟨_, rfl⟩
            have hdrop := reads_drop HrB.out L (by omega)
            rw [hL, List.drop_left, ← hL] at hdrop
            rw [← hM] at HrB hlcB hR hdrop ⊢
            have HL : Hid _ := hL
            have Htk : Hid _ := htk'
            have Hdrop : Hid (Reads .u8 wr _ R) := hdrop
            have HM : Hid _ := hM
            clear hcl hcell hdr htk htk' hRb hL hM hdrop
            go_wp2_with fail
            refine (take_any _ _ 18446744073709551615 wr HrB.out Hb.out (by rw [List.length_append, ← HL.out, ← HM.out]; omega) (by omega)).mono ?_
            rw [Ht.out]
            rintro e w' ⟨rfl, rfl⟩
            go_wp2_with fail
            refine (size_any U w' hU).mono ?_
            rw [← HL.out]
            rintro e w' ⟨rfl, rfl⟩
            go_wp2
            all_goals
              go_roundg (len0 - (j + 1))
              case rel =>
                refine ⟨j + 1, by omega, rfl, by go_num, ?_, by rw [Htk.out]; simp, rfl⟩
                rw [HRR.out]
                have := Hdrop.out
                rw [Nat.add_sub_cancel_left] at this
                first
                  | (rw [if_neg (by assumption)] at this; exact this)
                  | (rw [if_pos (by assumption), show capB - L = 0 by omega] at this; exact this)
              case measure => rw [Hgj.out]; omega
          · have e1 : xs.drop j = [] := List.drop_eq_nil_of_le (by rw [Hxl.out, Hil.out]; omega)
            have e2 : xs.take j = xs := List.take_of_length_le (by rw [Hxl.out, Hil.out]; omega)
            rw [e1, encs_nil] at hrB
            rw [e2]
            obtain ⟨aB, capB, rfl, -, -⟩ := hrB
            rw [length_row]
            have hQ := hel
            generalize hQQ : (encs xs).length = Q at hQ
            have HQQ : Hid _ := hQQ
            clear e1 e2 hQQ hel
            go_wp2_with fail
            refine (puts_any _ xs wr hxB Hxs.out (by rw [Hxl.out]; omega)).mono ?_
            rintro e wz ⟨svz, rfl, hoz, hfz, -⟩
            obtain ⟨aZ, capZ, rfl, -, -⟩ := hoz.reads
            rw [length_row, HQQ.out]
            have hfe := hf2.none hfz
            clear hoz hfz
            go_wp2
            go_ret
            exact ⟨rfl, hfe.below (Nat.le_refl _) (fun _ h => h.elim)⟩

end Go.Proofs.Ytimegheijfnkaaa.varintMany

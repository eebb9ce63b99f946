/-
  The walk of the law HuffCounts, under the condition that the program's functions answer as their contracts say.
-/
import Derived.Test.YtclfbdfgmeliaaaRows
import Derived.Test.YtclfbdfgmeliaaaJ8
import Derived.Test.YtclfbdfgmeliaaaJ2
namespace Go.Proofs.Ytclfbdfgmeliaaa.huffCounts
open Go.ChangeShapes Go.WideShapes Go.ChangeAt Go.RowKit

theorem turn_perm (T : List Nat) (i : Nat) : List.Perm (T.drop i ++ T.take i) T := by
  refine List.perm_append_comm.trans ?_
  rw [List.take_append_drop]
theorem sum_take_le (l : List Nat) (i : Nat) : (l.take i).sum ≤ l.sum := by
  conv => rhs; rw [← List.take_append_drop i l, List.sum_append]
  omega

set_option maxRecDepth 4000 in
set_option maxHeartbeats 3200000 in
theorem walkM (M : HC) (a0 : Option Addr) (len0 cap0 : Nat) (z0 : List Int) (a1 : Int) (a2 : Int) (w : World) (w0 : IsRow .u8 w a0 len0 cap0 z0) (w1 : (Lit.int .u8 a1).wf = true) (w2 : (Lit.int .u8 a2).wf = true) :
    Calls Try.prog 6 #[.slice a0 len0 cap0, .int .u8 a1, .int .u8 a2] w fun e w' => e = .returned (.bool true) ∧ Below w.heap.size w w' := by
  obtain ⟨ls, hll, hlx, hrl, -⟩ := reads_isRow hu8 (by decide) w0
  obtain ⟨k, rfl⟩ : ∃ k : Nat, a1 = (k : Int) := ⟨a1.toNat, by have := hu8 a1 w1; omega⟩
  obtain ⟨c, rfl⟩ : ∃ k : Nat, a2 = (k : Int) := ⟨a2.toNat, by have := hu8 a2 w2; omega⟩
  have hk := (hu8 _ w1).2
  have hc := (hu8 _ w2).2
  have Hrl : Hid (Reads .u8 w (.slice a0 len0 cap0) ls) := hrl
  have Hlx : Hid (∀ x ∈ ls, x < 256) := mem_of_getD hlx
  have Hll : Hid (ls.length = len0) := by first | exact hll | exact hll.symm
  have hkb : k < 256 := by omega
  have hcb : c < 256 := by omega
  clear w0 w1 w2 hrl hlx hll hk hc
  go_enter Try.func6, Try.ntmps6
  go_wp2_with fail
  refine (known_any M w).mono ?_
  rintro e w1 ⟨rfl, hf1⟩
  by_cases hbig : 40 < len0
  · have hd : decide ((40 : Int) < (len0 : Int)) = true := decide_eq_true (by omega)
    have hd2 : decide (40 < len0) = true := decide_eq_true hbig
    go_wp2
    go_ret
    exact ⟨rfl, below_of hf1⟩
  · have hd : decide ((40 : Int) < (len0 : Int)) = false := decide_eq_false (by omega)
    have hd2 : decide (40 < len0) = false := decide_eq_false hbig
    go_wp2_with fail
    refine (text_any _ ls k w1 (Hrl.out.keep hf1) Hlx.out hkb (by rw [Hll.out]; omega)).mono ?_
    rintro e w2 ⟨sb, rfl, hob, hf2, -⟩
    have Hf2 : Hid (Fr w w2 (fun _ => False)) := hf1.none hf2
    have hTl := text_len ls k
    rw [Hll.out] at hTl
    have hTb := text_lt ls k Hlx.out
    obtain ⟨T, hT⟩ : ∃ T, T = textOf ls k := ⟨_, rfl⟩
    rw [← hT] at hob hTl hTb
    obtain ⟨nT, hnT⟩ : ∃ n, n = T.length := ⟨_, rfl⟩
    rw [← hnT] at hTl
    have hrb := hob.reads
    obtain ⟨ab, cb, hsb, hcb2, -⟩ := id hrb
    rw [length_row, ← hnT] at hsb hcb2
    subst hsb
    have Hrb2 : Hid (Reads .u8 w2 (.slice ab nT cb) T) := hrb
    have HTb : Hid (∀ x ∈ T, x < 256) := hTb
    have HnT : Hid _ := hnT
    have hT320 : nT ≤ 320 := by omega
    obtain ⟨v3, w3, hrun3, ho3, hf3, hm3, -⟩ := app_bytes w2 (.slice none 0 0) (.slice ab nT cb) [] T (Own.nil w2) Hrb2.out (by rw [← hnT]; simp; omega)
    rw [List.nil_append] at ho3
    have hf3' : Fr w2 w3 (fun _ => False) := hf3.mono (fun k _ h => by simp [Value.ownBlock] at h)
    have hr3 := ho3.reads
    obtain ⟨ac, cc, hsc, hcc, -⟩ := id hr3
    rw [length_row, ← hnT] at hsc hcc
    subst hsc
    have Hr3 : Hid (Reads .u8 w3 (.slice ac nT cc) T) := hr3
    have Hf3 : Hid (Fr w w3 (fun _ => False)) := Hf2.out.none hf3'
    have Hrb3 : Hid (Reads .u8 w3 (.slice ab nT cb) T) := Hrb2.out.keep hf3'
    clear hf1 hf2 hob hTl hTb hT hnT hrb ho3 hf3 hf3' hm3 hr3 hcc
    by_cases h0 : nT = 0
    · have hg1 : decide ((0 : Int) < (nT : Int)) = false := decide_eq_false (by omega)
      have hg2 : decide (0 < nT) = false := decide_eq_false (by omega)
      clear h0
      go_wp2_with (at_builtin; refine wpList_append_run rfl (.const (.slice none 0 0)) (.tmp 22) 22 rfl rfl rfl hrun3 ?_)
      clear hrun3
      obtain ⟨C, hC⟩ : ∃ C, C = T := ⟨_, rfl⟩
      have Hrc4 : Hid (Reads .u8 w3 (.slice ac nT cc) C) := by rw [hC]; exact Hr3.out
      have HCp2 : Hid (List.Perm C T) := by rw [hC]; exact List.Perm.refl T
      have Hrb4 : Hid (Reads .u8 w3 (.slice ab nT cb) T) := Hrb3.out
      have Hf4 : Hid (Fr w w3 (fun _ => False)) := Hf3.out
      clear hC
      have HCl : Hid (C.length = nT) := by show _ = _; rw [HCp2.out.length_eq, ← HnT.out]
      have HCb : Hid (∀ x ∈ C, x < 256) := fun x hx => HTb.out x (HCp2.out.mem_iff.1 hx)
      refine (M.cnt _ T w3 Hrb4.out HTb.out (by rw [← HnT.out]; omega)).mono ?_
      rintro e w6 ⟨sx, rfl, hrx, hf6⟩
      obtain ⟨ax, cx, hsx, -, -⟩ := id hrx
      rw [length_row, cntB_len] at hsx
      subst hsx
      have Hrx6 : Hid (Reads .i64 w6 (.slice ax 256 cx) (cntB T)) := hrx
      have Hrb6 : Hid (Reads .u8 w6 (.slice ab nT cb) T) := Hrb4.out.keep hf6
      have Hrc6 : Hid (Reads .u8 w6 (.slice ac nT cc) C) := Hrc4.out.keep hf6
      have Hf6 : Hid (Fr w w6 (fun _ => False)) := Hf4.out.none hf6
      clear hrx hf6 Hrb4 Hrc4 Hf4
      go_wp2_with fail
      refine (M.cnt _ C w6 Hrc6.out HCb.out (by rw [HCl.out]; omega)).mono ?_
      rintro e w7 ⟨sy, rfl, hry, hf7⟩
      rw [cntB_perm HCp2.out] at hry
      obtain ⟨ay, cy, hsy, -, -⟩ := id hry
      rw [length_row, cntB_len] at hsy
      subst hsy
      have Hry7 : Hid (Reads .i64 w7 (.slice ay 256 cy) (cntB T)) := hry
      have Hrx7 : Hid (Reads .i64 w7 (.slice ax 256 cx) (cntB T)) := Hrx6.out.keep hf7
      have Hrb7 : Hid (Reads .u8 w7 (.slice ab nT cb) T) := Hrb6.out.keep hf7
      have Hrc7 : Hid (Reads .u8 w7 (.slice ac nT cc) C) := Hrc6.out.keep hf7
      have Hf7 : Hid (Fr w w7 (fun _ => False)) := Hf6.out.none hf7
      have HpL : Hid ((hput C).length = (hput T).length) := hput_perm HCp2.out
      clear hry hf7 Hrb6 Hrc6 Hf6 Hrx6
      have hsum := sum_cntB T HTb.out
      have hcl := cntB_len T
      obtain ⟨cs, hcs⟩ : ∃ cs, cs = cntB T := ⟨_, rfl⟩
      rw [← hcs] at Hry7 Hrx7 hsum hcl
      rw [← HnT.out] at hsum
      have Hsum : Hid (cs.sum = nT) := hsum
      have Hcl : Hid (cs.length = 256) := hcl
      clear hcs hsum hcl
      go_wp2_with fail
      go_loopg [12, 13] 256 (fun g S I wr => ∃ i : Nat, g = 256 - i ∧ i ≤ 256 ∧ I = .int .i64 (i : Int) ∧ S = .int .i64 (((cs.take i).sum : Nat) : Int) ∧ wr = w7)
      case atStart => exact ⟨0, rfl, by omega, rfl, by simp, rfl⟩
      case round =>
        obtain ⟨j, hg, hj, rfl, rfl, hwr⟩ := hrel
        subst hwr
        have Hg : Hid _ := hg
        clear hg
        have hsl := sum_take_le cs j
        rw [Hsum.out] at hsl
        by_cases hlt : j < 256
        · have hj1 : (j : Int) < 256 := by omega
          obtain ⟨bx, ox, rfl, -, cxj⟩ := Hrx7.out.at Hcl.out.symm j hlt
          have Hst : Hid ((cs.take (j + 1)).sum = (cs.take j).sum + cs.getD j 0) := by
            show _ = _
            rw [take_step (by rw [Hcl.out]; exact hlt), List.sum_append]
            simp
          have hsl2 := sum_take_le cs (j + 1)
          rw [Hsum.out, Hst.out] at hsl2
          generalize cs.getD j 0 = y at cxj Hst hsl2
          generalize (cs.take j).sum = s at Hst hsl hsl2 ⊢
          obtain ⟨s2, hs2⟩ : ∃ z, z = s + y := ⟨_, rfl⟩
          rw [← hs2] at Hst hsl2
          have hsy : (s : Int) + (y : Int) = (s2 : Int) := by omega
          clear hs2
          go_wp2_with fail
          go_roundg (256 - (j + 1))
          case rel => exact ⟨j + 1, rfl, by omega, by go_num, by rw [Hst.out], rfl⟩
          case measure => rw [Hg.out]; omega
        · have hj1 : ¬ (j : Int) < 256 := by omega
          have htk : (cs.take j).sum = nT := by rw [List.take_of_length_le (by rw [Hcl.out]; omega)]; exact Hsum.out
          rw [htk]
          clear htk hsl
          go_wp2_with fail
          refine (ints_any _ _ _ _ _ Hrx7.out.z Hry7.out.z (by rw [List.length_map, Hcl.out]; decide)).mono ?_
          rw [decide_eq_true rfl]
          rintro e w8 ⟨rfl, hf8⟩
          have Hrb8 : Hid (Reads .u8 w8 (.slice ab nT cb) T) := Hrb7.out.keep hf8
          have Hrc8 : Hid (Reads .u8 w8 (.slice ac nT cc) C) := Hrc7.out.keep hf8
          have Hf8 : Hid (Fr w w8 (fun _ => False)) := Hf7.out.none hf8
          clear hf8
          go_wp2_with fail
          refine (M.put _ T w8 Hrb8.out HTb.out (by rw [← HnT.out]; omega)).mono ?_
          rintro e w9 ⟨s9, rfl, hr9, hf9⟩
          have Hrc9 : Hid (Reads .u8 w9 (.slice ac nT cc) C) := Hrc8.out.keep hf9
          have Hf9 : Hid (Fr w w9 (fun _ => False)) := Hf8.out.none hf9
          have hpl := hput_le T (by rw [← HnT.out]; omega)
          obtain ⟨a9, c9, hs9, -, -⟩ := id hr9
          rw [length_row] at hs9
          have HpL2 : Hid ((hput C).length = (hput T).length) := HpL.out
          generalize (hput T).length = L9 at hs9 HpL2 hpl
          subst hs9
          clear hr9 hf9
          go_wp2_with fail
          refine (M.put _ C w9 Hrc9.out HCb.out (by rw [HCl.out]; omega)).mono ?_
          rintro e w10 ⟨s10, rfl, hr10, hf10⟩
          have Hf10 : Hid (Fr w w10 (fun _ => False)) := Hf9.out.none hf10
          obtain ⟨a10, c10, hs10, -, -⟩ := id hr10
          rw [length_row, HpL2.out] at hs10
          subst hs10
          clear hr10 hf10
          go_wp2
          go_ret
          exact ⟨rfl, below_of Hf10.out⟩
    · have hg1 : decide ((0 : Int) < (nT : Int)) = true := decide_eq_true (by omega)
      have hg2 : decide (0 < nT) = true := decide_eq_true (by omega)
      obtain ⟨i, hi⟩ : ∃ m, m = c % nT := ⟨_, rfl⟩
      have hin : i < nT := by rw [hi]; exact Nat.mod_lt _ (by omega)
      have r1 : (c : Int).tmod (nT : Int) = (i : Int) := by rw [Int.tmod_eq_emod_of_nonneg (by omega), hi]; simp
      have r1b : (c : Int) % (nT : Int) = (i : Int) := by rw [hi]; simp
      have wc : IntKind.i64.wrap (c : Int) = (c : Int) := IntWalk.i64_in _ (by omega)
      have hn0 : ((nT : Int) == 0) = false := by rw [beq_eq_false_iff_ne]; omega
      have hi1 : (i : Int) ≤ (nT : Int) := by omega
      have hi2 : (i : Int) ≤ (cb : Int) := by omega
      have hi3 : i ≤ cb := by omega
      obtain ⟨A1, hA1⟩ : ∃ A, (if cb = i then ab else Option.map (fun x => x.add i) ab) = A := ⟨_, rfl⟩
      have hdr := reads_drop Hrb3.out i (by omega)
      rw [hA1] at hdr
      have htk : Reads .u8 w3 (.slice ab i cb) (T.take i) := by
        have := Holds.take Hrb3.out i (by omega) cb (by omega)
        rw [← row_take] at this
        exact this
      obtain ⟨v4, w4, hrun4, ho4, hf4, hm4, -⟩ := app_bytes w3.drew (.slice none 0 0) (.slice A1 (nT - i) (cb - i)) [] (T.drop i) (Own.nil _) (hdr.keep (Fr.refl w3 _).drew) (by rw [List.length_drop, ← HnT.out]; simp; omega)
      rw [List.nil_append] at ho4
      have hf4' : Fr w3 w4 (fun _ => False) := (Fr.refl w3 (fun _ => False)).drew.none (hf4.mono (fun k _ h => by simp [Value.ownBlock] at h))
      obtain ⟨v5, w5, hrun5, ho5, hf5, hm5, -⟩ := app_bytes w4 v4 (.slice ab i cb) (T.drop i) (T.take i) ho4 (htk.keep hf4') (by rw [List.length_drop, List.length_take, ← HnT.out]; omega)
      have hn4 : ∀ k, v4.ownBlock = some k → w3.heap.size ≤ k := fun k hk => by
        rcases hm4 k hk with h | h
        · simp [Value.ownBlock] at h
        · exact h
      have hf35 : Fr w3 w5 (fun _ => False) := hf4'.newer hf5 hn4
      have HfA : Hid (Fr w3.drew w4 (fun _ => False)) := hf4.mono (fun k _ h => by simp [Value.ownBlock] at h)
      have HfA2 : Hid (Fr w3.drew w4 (fun k => w3.heap.size ≤ k)) := HfA.out.mono (fun _ _ h => h.elim)
      have HfB : Hid (Fr w4 w5 (fun k => w3.heap.size ≤ k)) := hf5.mono (fun k _ h => hn4 k h)
      obtain ⟨C, hC⟩ : ∃ C, C = T.drop i ++ T.take i := ⟨_, rfl⟩
      have HCp2 : Hid (List.Perm C T) := by rw [hC]; exact turn_perm T i
      have hrc := ho5.reads
      rw [← hC] at hrc
      have hCl : C.length = nT := by rw [HCp2.out.length_eq, ← HnT.out]
      obtain ⟨ad, cd, hsd, hcd, -⟩ := id hrc
      rw [length_row, hCl] at hsd
      subst hsd
      have Hrc4 : Hid (Reads .u8 w5 (.slice ad nT cd) C) := hrc
      have Hrb4 : Hid (Reads .u8 w5 (.slice ab nT cb) T) := Hrb3.out.keep hf35
      have Hf4 : Hid (Fr w w5 (fun _ => False)) := Hf3.out.none hf35
      clear hi hdr htk ho4 hf4 hm4 hf4' ho5 hf5 hm5 hn4 hf35 hC hrc hcd hCl
      go_wp2_with (at_builtin; refine wpList_append_run rfl (.const (.slice none 0 0)) (.tmp 22) 22 rfl rfl rfl hrun3 ?_)
      clear hrun3
      refine wp_region_tree (fun k => w3.heap.size ≤ k) (.take 0 (.take 1 (.take 2 (.take 4 (.take 5 (.take 6 (.one 3 (.one 7 (.take 8 .nil))))))))) (by kernel_rfl) (by kernel_rfl) (by decide) (by kernel_rfl) ?_
      repeat (refine wpT_take (v := ?_) rfl rfl (fun x hx => ?_) ?_; rotate_left; (focus (go_simp; with_reducible rfl)); simp only [Act.put, List.setIfInBounds_toArray, List.set_cons_zero, List.set_cons_succ])
      refine wpT_one rfl rfl (fun K hK => ?_)
      refine op_append_run (.const (.slice none 0 0)) (.tmp 34) 22 rfl rfl rfl hrun4 ?_
      refine hK _ _ HfA2.out ?_
      clear hK K hrun4
      simp only [Act.put, List.setIfInBounds_toArray, List.set_cons_zero, List.set_cons_succ]
      refine wpT_one rfl rfl (fun K hK => ?_)
      refine op_append_run (.tmp 35) (.tmp 38) 22 rfl rfl rfl hrun5 ?_
      refine hK _ _ HfB.out ?_
      clear hK K hrun5
      simp only [Act.put, List.setIfInBounds_toArray, List.set_cons_zero, List.set_cons_succ]
      repeat (refine wpT_take (v := ?_) rfl rfl (fun x hx => ?_) ?_; rotate_left; (focus (go_simp; with_reducible rfl)); simp only [Act.put, List.setIfInBounds_toArray, List.set_cons_zero, List.set_cons_succ])
      unfold wpT
      clear hA1
      go_wp2_with fail
      have HCl : Hid (C.length = nT) := by show _ = _; rw [HCp2.out.length_eq, ← HnT.out]
      have HCb : Hid (∀ x ∈ C, x < 256) := fun x hx => HTb.out x (HCp2.out.mem_iff.1 hx)
      refine (M.cnt _ T w5 Hrb4.out HTb.out (by rw [← HnT.out]; omega)).mono ?_
      rintro e w6 ⟨sx, rfl, hrx, hf6⟩
      obtain ⟨ax, cx, hsx, -, -⟩ := id hrx
      rw [length_row, cntB_len] at hsx
      subst hsx
      have Hrx6 : Hid (Reads .i64 w6 (.slice ax 256 cx) (cntB T)) := hrx
      have Hrb6 : Hid (Reads .u8 w6 (.slice ab nT cb) T) := Hrb4.out.keep hf6
      have Hrc6 : Hid (Reads .u8 w6 (.slice ad nT cd) C) := Hrc4.out.keep hf6
      have Hf6 : Hid (Fr w w6 (fun _ => False)) := Hf4.out.none hf6
      clear hrx hf6 Hrb4 Hrc4 Hf4
      go_wp2_with fail
      refine (M.cnt _ C w6 Hrc6.out HCb.out (by rw [HCl.out]; omega)).mono ?_
      rintro e w7 ⟨sy, rfl, hry, hf7⟩
      rw [cntB_perm HCp2.out] at hry
      obtain ⟨ay, cy, hsy, -, -⟩ := id hry
      rw [length_row, cntB_len] at hsy
      subst hsy
      have Hry7 : Hid (Reads .i64 w7 (.slice ay 256 cy) (cntB T)) := hry
      have Hrx7 : Hid (Reads .i64 w7 (.slice ax 256 cx) (cntB T)) := Hrx6.out.keep hf7
      have Hrb7 : Hid (Reads .u8 w7 (.slice ab nT cb) T) := Hrb6.out.keep hf7
      have Hrc7 : Hid (Reads .u8 w7 (.slice ad nT cd) C) := Hrc6.out.keep hf7
      have Hf7 : Hid (Fr w w7 (fun _ => False)) := Hf6.out.none hf7
      have HpL : Hid ((hput C).length = (hput T).length) := hput_perm HCp2.out
      clear hry hf7 Hrb6 Hrc6 Hf6 Hrx6
      have hsum := sum_cntB T HTb.out
      have hcl := cntB_len T
      obtain ⟨cs, hcs⟩ : ∃ cs, cs = cntB T := ⟨_, rfl⟩
      rw [← hcs] at Hry7 Hrx7 hsum hcl
      rw [← HnT.out] at hsum
      have Hsum : Hid (cs.sum = nT) := hsum
      have Hcl : Hid (cs.length = 256) := hcl
      clear hcs hsum hcl
      go_wp2_with fail
      go_loopg [12, 13] 256 (fun g S I wr => ∃ i : Nat, g = 256 - i ∧ i ≤ 256 ∧ I = .int .i64 (i : Int) ∧ S = .int .i64 (((cs.take i).sum : Nat) : Int) ∧ wr = w7)
      case atStart => exact ⟨0, rfl, by omega, rfl, by simp, rfl⟩
      case round =>
        obtain ⟨j, hg, hj, rfl, rfl, hwr⟩ := hrel
        subst hwr
        have Hg : Hid _ := hg
        clear hg
        have hsl := sum_take_le cs j
        rw [Hsum.out] at hsl
        by_cases hlt : j < 256
        · have hj1 : (j : Int) < 256 := by omega
          obtain ⟨bx, ox, rfl, -, cxj⟩ := Hrx7.out.at Hcl.out.symm j hlt
          have Hst : Hid ((cs.take (j + 1)).sum = (cs.take j).sum + cs.getD j 0) := by
            show _ = _
            rw [take_step (by rw [Hcl.out]; exact hlt), List.sum_append]
            simp
          have hsl2 := sum_take_le cs (j + 1)
          rw [Hsum.out, Hst.out] at hsl2
          generalize cs.getD j 0 = y at cxj Hst hsl2
          generalize (cs.take j).sum = s at Hst hsl hsl2 ⊢
          obtain ⟨s2, hs2⟩ : ∃ z, z = s + y := ⟨_, rfl⟩
          rw [← hs2] at Hst hsl2
          have hsy : (s : Int) + (y : Int) = (s2 : Int) := by omega
          clear hs2
          go_wp2_with fail
          go_roundg (256 - (j + 1))
          case rel => exact ⟨j + 1, rfl, by omega, by go_num, by rw [Hst.out], rfl⟩
          case measure => rw [Hg.out]; omega
        · have hj1 : ¬ (j : Int) < 256 := by omega
          have htk : (cs.take j).sum = nT := by rw [List.take_of_length_le (by rw [Hcl.out]; omega)]; exact Hsum.out
          rw [htk]
          clear htk hsl
          go_wp2_with fail
          refine (ints_any _ _ _ _ _ Hrx7.out.z Hry7.out.z (by rw [List.length_map, Hcl.out]; decide)).mono ?_
          rw [decide_eq_true rfl]
          rintro e w8 ⟨rfl, hf8⟩
          have Hrb8 : Hid (Reads .u8 w8 (.slice ab nT cb) T) := Hrb7.out.keep hf8
          have Hrc8 : Hid (Reads .u8 w8 (.slice ad nT cd) C) := Hrc7.out.keep hf8
          have Hf8 : Hid (Fr w w8 (fun _ => False)) := Hf7.out.none hf8
          clear hf8
          go_wp2_with fail
          refine (M.put _ T w8 Hrb8.out HTb.out (by rw [← HnT.out]; omega)).mono ?_
          rintro e w9 ⟨s9, rfl, hr9, hf9⟩
          have Hrc9 : Hid (Reads .u8 w9 (.slice ad nT cd) C) := Hrc8.out.keep hf9
          have Hf9 : Hid (Fr w w9 (fun _ => False)) := Hf8.out.none hf9
          have hpl := hput_le T (by rw [← HnT.out]; omega)
          obtain ⟨a9, c9, hs9, -, -⟩ := id hr9
          rw [length_row] at hs9
          have HpL2 : Hid ((hput C).length = (hput T).length) := HpL.out
          generalize (hput T).length = L9 at hs9 HpL2 hpl
          subst hs9
          clear hr9 hf9
          go_wp2_with fail
          refine (M.put _ C w9 Hrc9.out HCb.out (by rw [HCl.out]; omega)).mono ?_
          rintro e w10 ⟨s10, rfl, hr10, hf10⟩
          have Hf10 : Hid (Fr w w10 (fun _ => False)) := Hf9.out.none hf10
          obtain ⟨a10, c10, hs10, -, -⟩ := id hr10
          rw [length_row, HpL2.out] at hs10
          subst hs10
          clear hr10 hf10
          go_wp2
          go_ret
          exact ⟨rfl, below_of Hf10.out⟩

end Go.Proofs.Ytclfbdfgmeliaaa.huffCounts

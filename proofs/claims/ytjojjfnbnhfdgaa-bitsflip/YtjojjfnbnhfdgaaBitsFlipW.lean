/-
  The walk of the law BitsFlip: called with whatever arguments, it returns true and touches nothing that was there. No condition.
-/
import Derived.Test.YtjojjfnbnhfdgaaRows
import Derived.Test.YtjojjfnbnhfdgaaArgs
import Derived.Test.YtjojjfnbnhfdgaaRefFlip
import Derived.Test.YtjojjfnbnhfdgaaLex
namespace Go.Proofs.Ytjojjfnbnhfdgaa.bitsFlip
open Go.ChangeShapes Go.WideShapes Go.ChangeAt Go.RowKit

set_option maxHeartbeats 3200000 in
theorem walk (a0 : Option Addr) (len0 cap0 : Nat) (z0 : List Int) (a1 : Int) (a2 : Int) (a3 : Int) (w : World) (w0 : IsRow .u8 w a0 len0 cap0 z0) (w1 : (Lit.int .i64 a1).wf = true) (w2 : (Lit.int .u16 a2).wf = true) (w3 : (Lit.int .u32 a3).wf = true) :
    Calls Try.prog 6 #[.slice a0 len0 cap0, .int .i64 a1, .int .u16 a2, .int .u32 a3] w fun e w' => e = .returned (.bool true) ∧ Below w.heap.size w w' := by
  obtain ⟨bs, hbl, hbs, hr, hblk⟩ := reads_isRow w0
  have hb1 := bounds_i64 w1
  have hb2 := bounds_u16 w2
  have hm := bounds_u32 w3
  obtain ⟨mask, rfl⟩ := Int.eq_ofNat_of_zero_le hm.1
  have hm2 : mask < 4294967296 := by omega
  clear hm w1 w2 w3
  go_enter Try.func6, Try.ntmps6
  go_wp2_with fail
  refine (known_any w).mono ?_
  rintro e wa ⟨rfl, hf1⟩
  by_cases hlen : 60 < len0
  · go_wp2
    go_ret
    exact ⟨rfl, hf1.below (Nat.le_refl _) (fun _ h => h.elim)⟩
  · have hd60 : decide (60 < (len0 : Int)) = false := by simp; omega
    have Hr : Hid (Reads w (.slice a0 len0 cap0) bs) := hr
    have Hbl : Hid _ := hbl
    have Hbs : Hid _ := hbs
    clear hr hbl hbs
    go_wp2_with fail
    obtain ⟨f2, hf2, hb3, hb4⟩ : ∃ f2, wrap64 (a2 % (8 * (len0 : Int) + 40) - 35) = f2 ∧ -9223372036854775808 ≤ f2 ∧ f2 ≤ 9223372036854775807 := ⟨_, rfl, by unfold wrap64; omega, by unfold wrap64; omega⟩
    rw [hf2]
    clear hf2 hb2
    have hB0 := heap_alloc_new wa (.cells #[.int .i64 a1, .int .i64 f2] 3)
    have hfB := hf1.alloc (.cells #[.int .i64 a1, .int .i64 f2] 3)
    generalize wa.alloc (.cells #[.int .i64 a1, .int .i64 f2] 3) = wb at *
    generalize wa.heap.size = B at *
    clear hf1
    go_loopw [28] (fun c wr => ∃ k : Nat, k ≤ 2 ∧ c = .int .i64 (k : Int) ∧ wr.heap[B]? = some (.cells #[.int .i64 a1, .int .i64 f2] 3 (0, 0)) ∧ Fr w wr (fun _ => False)) (fun c _ => 2 - (intOf c).toNat)
    case atStart => exact ⟨0, by omega, rfl, hB0, hfB⟩
    case round =>
      clear hB0 hfB
      obtain ⟨k, hk, rfl, hB, hfr⟩ := hrel
      have hk3 : k = 0 ∨ k = 1 ∨ k = 2 := by omega
      have c0 := two_cell0 hB
      have c1 := two_cell1 hB
      have HB : Hid (wr.heap[B]? = some (.cells #[.int .i64 a1, .int .i64 f2] 3 (0, 0))) := hB
      clear hB
      rcases hk3 with rfl | rfl | rfl
      case inr.inr =>
        go_wp2
        go_ret
        exact ⟨rfl, hfr.below (Nat.le_refl _) (fun _ h => h.elim)⟩
      all_goals
        go_wp2_with fail
        refine (flip_any _ bs _ mask wr (Hr.out.frame hfr (fun _ _ h => h)) (by rw [Hbl.out]; omega) Hbs.out (by omega) (by omega) hm2).mono ?_
        rintro e wc ⟨rfl, hoc, hfc⟩
        generalize hff : flips bs _ mask 32 = cs at hoc
        have hcl : cs.length = bs.length := by rw [← hff, length_flips]
        have hcs : ∀ j, cs.getD j 0 < 256 := by rw [← hff]; exact small_flips _ _ _ _ Hbs.out
        have hrc : Reads wc (.slice (some ⟨wr.heap.size, 0, none⟩) bs.length bs.length) cs := by rw [← hcl] at hoc ⊢; exact reads_own hoc
        generalize Value.slice (some ⟨wr.heap.size, 0, none⟩) bs.length bs.length = vx at hrc ⊢
        have HB' := hfc.kept HB.out (fun h => h)
        replace hfc := hfr.none hfc
        have Hff : Hid _ := hff
        have Hcl : Hid _ := hcl
        have Hcs : Hid _ := hcs
        have Hrc : Hid (Reads wc.drew vx cs) := hrc
        clear hoc hff hcl hcs hrc hfr HB c0 c1
        go_wp2
        refine wp_region_lex (fun _ => False) [5, 12] [0, 1, 2, 3, 4, 5, 6, 7, 8, 9, 10, 11, 14, 15, 12, 13, 16, 17] (by kernel_rfl) (by kernel_rfl) rfl (by kernel_rfl) ?_
        have hcx : ∀ x, Fr wc.drew x (fun _ => False) → (convert 35 9 vx).run Try.prog x = .ok (.string (strOf cs)) x := fun x hx => conv_reads (Hrc.out.frame hx (fun _ _ h => h))
        repeat (refine wpLex_take (v := ?_) rfl rfl rfl (fun x hx => ?_) ?_; rotate_left; (focus (go_simp; with_reducible rfl)); simp only [Act.put, List.setIfInBounds_toArray, List.set_cons_zero, List.set_cons_succ])
        clear hcx
        refine wpLex_step rfl rfl rfl (fun K hK => ?_)
        go_simp
        refine (refFlip_any _ bs _ mask _ (Hr.out.frame hfc.drew (fun _ _ h => h)) (by rw [Hbl.out]; omega) Hbs.out (by omega) (by omega) hm2).mono ?_
        rw [Hff.out]
        rintro e wd ⟨vd, rfl, hod, hfd⟩
        have Hrx : Hid (Reads wd vx cs) := Hrc.out.frame hfd (fun _ _ h => h)
        have hcd : ∀ x, Fr wd x (fun _ => False) → (convert 35 9 vd).run Try.prog x = .ok (.string (strOf cs)) x := fun x hx => by
          rw [← Hcl.out] at hod
          exact conv_reads ((reads_own hod).frame hx (fun _ _ h => h))
        have hcb : ∀ x, Fr wd x (fun _ => False) → (convert 35 9 (.slice a0 len0 cap0)).run Try.prog x = .ok (.string (strOf bs)) x := fun x hx => conv_reads (((Hr.out.frame hfc.drew (fun _ _ h => h)).frame hfd (fun _ _ h => h)).frame hx (fun _ _ h => h))
        refine hK _ _ hfd ?_
        clear hK K hod
        repeat (refine wpLex_take (v := ?_) rfl rfl rfl (fun x hx => ?_) ?_; rotate_left; (focus (go_simp; with_reducible rfl)); simp only [Act.put, List.setIfInBounds_toArray, List.set_cons_zero, List.set_cons_succ])
        clear hcd hcb
        refine wpLex_step rfl rfl rfl (fun K hK => ?_)
        go_simp
        refine (flip_any vx cs _ mask _ Hrx.out (by rw [Hcl.out, Hbl.out]; omega) Hcs.out (by omega) (by omega) hm2).mono ?_
        rw [← Hff.out, flips_flips _ _ _ _ Hbs.out, length_flips]
        rintro e we ⟨rfl, hoe, hfe⟩
        have hre := reads_own hoe
        generalize Value.slice (some ⟨wd.heap.size, 0, none⟩) bs.length bs.length = ve at hre ⊢
        have hce : ∀ x, Fr we x (fun _ => False) → (convert 35 9 ve).run Try.prog x = .ok (.string (strOf bs)) x := fun x hx => conv_reads (hre.frame hx (fun _ _ h => h))
        refine hK _ _ hfe ?_
        clear hK K hoe hre
        repeat (refine wpLex_take (v := ?_) rfl rfl rfl (fun x hx => ?_) ?_; rotate_left; (focus (go_simp; with_reducible rfl)); simp only [Act.put, List.setIfInBounds_toArray, List.set_cons_zero, List.set_cons_succ])
        refine wpLex_nil ?_
        have hend := (hfc.drew.none hfd).none hfe
        have HBe := hfe.kept (hfd.kept (w := wc.drew) HB' (fun h => h)) (fun h => h)
        clear hce hfd hfe hfc HB'
        go_wp2
        go_roundw
        case rel => exact ⟨_, by decide, rfl, HBe, hend⟩
        case measure => simp [intOf]

end Go.Proofs.Ytjojjfnbnhfdgaa.bitsFlip

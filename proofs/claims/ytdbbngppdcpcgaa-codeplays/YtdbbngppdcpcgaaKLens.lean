/-
  The contract of the law's own lengths: of a code, or nearly.
-/
import Derived.Test.YtdbbngppdcpcgaaRLens
namespace Go.Proofs.Ytdbbngppdcpcgaa
open Go.RowKit

def cOf (x : Nat) : Nat := x % 50 * (x % 3)
/-- The lengths that the law makes. -/
def lawBase (xs : List Nat) : List Nat := pmLens (xs.map cOf) 15
def lawLens (xs : List Nat) (at_ by_ : Nat) : List Int :=
  if 0 < (lawBase xs).length ∧ by_ % 4 = 0 then ((lawBase xs).map fun (n : Nat) => (n : Int)).set (at_ % (lawBase xs).length) (((lawBase xs).getD (at_ % (lawBase xs).length) 0 : Nat) + (by_ % 8 / 4 * 2 : Nat) - 1)
  else (lawBase xs).map fun (n : Nat) => (n : Int)
theorem cOf_le (x : Nat) : cOf x ≤ 98 := by
  unfold cOf
  have h1 : x % 50 ≤ 49 := by omega
  have h2 : x % 3 ≤ 2 := by omega
  exact Nat.mul_le_mul h1 h2
theorem lawBase_is (xs : List Nat) : pmLens (((xs.map cOf).map fun (n : Nat) => (n : Int)).map clampN) (clampM 15) = lawBase xs := by
  unfold lawBase
  rw [show clampM 15 = 15 by decide]
  congr 1
  rw [List.map_map]
  conv => rhs; rw [← List.map_id (xs.map cOf)]
  apply List.map_congr_left
  intro c hc
  obtain ⟨x, _, rfl⟩ := List.mem_map.1 hc
  have := cOf_le x
  simp only [Function.comp, clampN, id]
  omega

theorem lawLens_eq (xs : List Nat) (a b : Nat) (B : List Nat) (h : lawBase xs = B) : lawLens xs a b = if 0 < B.length ∧ b % 4 = 0 then (B.map fun (n : Nat) => (n : Int)).set (a % B.length) ((B.getD (a % B.length) 0 : Nat) + (b % 8 / 4 * 2 : Nat) - 1) else B.map fun (n : Nat) => (n : Int) := by
  subst h
  rfl
theorem lawBase_le (xs : List Nat) : ∀ n ∈ lawBase xs, n ≤ 1000 := by
  unfold lawBase pmLens
  intro n hn
  split at hn
  · cases hn
  · rename_i h
    obtain ⟨s, _, rfl⟩ := List.mem_map.1 hn
    have := (pmLen_pos (counts := xs.map cOf) (L := 15) (by omega) (by omega) s).2
    omega

set_option maxRecDepth 4000 in
set_option maxHeartbeats 800000 in
theorem lawLens_any (v : Value) (xs : List Nat) (a b : Nat) (w : World) (h : Reads .u16 w v xs) (hx : ∀ x ∈ xs, x < 65536) (ha : a < 256) (hb : b < 256) (hl : xs.length ≤ 1000) :
    Calls Try.prog 9 #[v, .int .u8 (a : Int), .int .u8 (b : Int)] w fun e w' => ∃ sv, e = .returned sv ∧ ReadsZ w' sv (lawLens xs a b) ∧ Fr w w' (fun _ => False) ∧ (∀ k, sv.ownBlock = some k → w.heap.size ≤ k) := by
  obtain ⟨ao, cap, rfl, hlc, hc⟩ := id h
  rw [length_row] at h hlc hc ⊢
  obtain ⟨n, hnn⟩ : ∃ n, n = xs.length := ⟨_, rfl⟩
  rw [← hnn] at h hlc hc hl ⊢
  have Hn : Hid _ := hnn
  have Hr : Hid (Reads .u16 w (.slice ao n cap) xs) := h
  have Hx : Hid _ := hx
  clear hnn h hx hc
  go_enter Try.func9, Try.ntmps9
  go_wp2_with fail
  go_loopg [7, 8] n (fun g S I wr => ∃ i : Nat, g = n - i ∧ i ≤ n ∧ I = .int .i64 (i : Int) ∧ OwnN wr S ((xs.take i).map cOf) ∧ Fr w wr (fun _ => False) ∧ (∀ k, S.ownBlock = some k → w.heap.size ≤ k))
  case atStart => exact ⟨0, rfl, by omega, rfl, OwnN.nil _, Fr.refl _ _, fun k hk => by simp [Value.ownBlock] at hk⟩
  case round =>
    obtain ⟨i, hg, hi, rfl, ho, hf, hnw⟩ := hrel
    have Hg : Hid _ := hg
    have Ho : Hid (OwnN wr u7 ((xs.take i).map cOf)) := ho
    have Hnw : Hid _ := hnw
    clear hg ho hnw
    by_cases hlt : i < n
    · obtain ⟨ao', cap', e, -, hcl⟩ := Hr.out.keep hf
      obtain ⟨bb, off, rfl, hcell⟩ := hcl (by rw [length_row, ← Hn.out]; omega)
      simp only [Value.slice.injEq] at e
      obtain ⟨rfl, -, rfl⟩ := e
      have cg := hcell i _ (row_get .u16 xs i (by rw [← Hn.out]; exact hlt))
      have hel := getD_lt (by decide) Hx.out i
      have Hst : Hid ((xs.take (i + 1)).map cOf = (xs.take i).map cOf ++ [cOf (xs.getD i 0)]) := by
        show _ = _
        rw [take_step (by rw [← Hn.out]; exact hlt), List.map_append]; rfl
      generalize xs.getD i 0 = x at cg hel Hst
      have hbs : bb < wr.heap.size := World.block_lt_of_cell? _ _ cg
      have hbS : ∀ j, u7.ownBlock = some j → j ≠ bb := fun j hj e => by
        have h1 := Hnw.out j hj
        obtain ⟨a2, c2, e2, -, hc2⟩ := Hr.out
        obtain ⟨b2, o2, e3, hc3⟩ := hc2 (by rw [length_row, ← Hn.out]; omega)
        simp only [Value.slice.injEq] at e2
        obtain ⟨e4, -, -⟩ := e2
        rw [e3] at e4
        simp only [Option.some.injEq, Addr.mk.injEq, and_true] at e4
        have h5 := World.block_lt_of_cell? _ _ (hc3 0 _ (row_get .u16 xs 0 (by rw [← Hn.out]; omega)))
        simp at h5
        omega
      have kx : ∀ z, Fr wr.drew z (fun j => u7.ownBlock = some j) → z.cell? ⟨bb, off + i, none⟩ = some (.int .u16 (x : Int)) := fun z hz => by
        rw [World.cell?_of_block (w := wr) (hz.block bb hbs (fun h => hbS bb h rfl))]
        exact cg
      have hi1 : (i : Int) < (n : Int) := by omega
      obtain ⟨r50, h50⟩ : ∃ r, r = x % 50 := ⟨_, rfl⟩
      obtain ⟨r3, h3⟩ : ∃ r, r = x % 3 := ⟨_, rfl⟩
      obtain ⟨y, hy⟩ : ∃ y, y = r50 * r3 := ⟨_, rfl⟩
      have hyc : y = cOf x := by rw [hy, h50, h3]; rfl
      have hyb : y ≤ 98 := by rw [hyc]; exact cOf_le x
      have t50 : (x : Int).tmod 50 = (r50 : Int) := by rw [Int.tmod_eq_emod_of_nonneg (by omega)]; omega
      have t3 : (x : Int).tmod 3 = (r3 : Int) := by rw [Int.tmod_eq_emod_of_nonneg (by omega)]; omega
      have w50 : IntKind.i64.wrap (r50 : Int) = (r50 : Int) := IntWalk.i64_in _ (by omega)
      have w3 : IntKind.i64.wrap (r3 : Int) = (r3 : Int) := IntWalk.i64_in _ (by omega)
      have hye : (r50 : Int) * (r3 : Int) = (y : Int) := by rw [hy]; simp
      have wy : IntKind.i64.wrap ((r50 : Int) * (r3 : Int)) = (y : Int) := by rw [hye]; exact IntWalk.i64_in _ (by omega)
      rw [← hyc] at Hst
      clear hcl hcell cg h50 h3 hy hyc hye hbS
      go_wp2
      refine wp_region_tree (fun j => u7.ownBlock = some j) (.take 0 (.take 1 (.take 2 (.take 3 (.take 4 (.take 5 (.take 6 (.take 7 (.take 8 (.take 9 (.take 10 (.take 11 (.take 12 (.take 13 (.one 14 (.one 15 (.take 16 .nil))))))))))))))))) (by kernel_rfl) (by kernel_rfl) (by decide) (by kernel_rfl) ?_
      repeat (refine wpT_take (v := ?_) rfl rfl (fun x hx => ?_) ?_; rotate_left; (focus (go_simp; with_reducible rfl)); simp only [Act.put, List.setIfInBounds_toArray, List.set_cons_zero, List.set_cons_succ])
      clear kx t50 t3 w50 w3 wy
      refine wpT_one rfl rfl (fun K hK => ?_)
      go_simp
      refine hK _ _ (((Fr.refl wr.drew (fun _ => False)).alloc _).mono (fun _ _ h => h.elim)) ?_
      clear hK K
      have hf2 : Fr wr wr.drew (fun _ => False) := (Fr.refl wr (fun _ => False)).drew
      obtain ⟨v5, w5, hrun5, ho5, hf5, hm5, -⟩ := app_ints (wr.drew.alloc (.cells #[.int .i64 (y : Int)] 3)) u7 (.slice (some ⟨wr.heap.size, 0, none⟩) 1 1) _ [y] ((Ho.out.frame hf2 (fun _ _ h => h)).alloc _) (holds_lit wr.drew 3 [.int .i64 (y : Int)] (by simp)) (by rw [List.length_map, List.length_take]; simp; omega)
      refine wpT_one rfl rfl (fun K hK => ?_)
      refine op_append_run (.tmp 16) (.tmp 30) 22 rfl rfl rfl hrun5 ?_
      refine hK _ _ hf5 ?_
      clear hK K
      simp only [Act.put, List.setIfInBounds_toArray, List.set_cons_zero, List.set_cons_succ]
      repeat (refine wpT_take (v := ?_) rfl rfl (fun x hx => ?_) ?_; rotate_left; (focus (go_simp; with_reducible rfl)); simp only [Act.put, List.setIfInBounds_toArray, List.set_cons_zero, List.set_cons_succ])
      have hf6 : Fr w w5 (fun _ => False) := (hf.none (hf2.alloc _)).newer hf5 (fun j hj => Hnw.out j hj)
      unfold wpT
      go_wp2
      go_roundg (n - (i + 1))
      case rel =>
        refine ⟨i + 1, rfl, by omega, by go_num, ?_, hf6, fun j hj => ?_⟩
        · rw [Hst.out]; exact ho5
        · rcases hm5 j hj with h | h
          · exact Hnw.out j h
          · have := (hf.none (hf2.alloc (.cells #[.int .i64 (y : Int)] 3))).size
            omega
      case measure => rw [Hg.out]; omega
    · obtain rfl : i = n := by omega
      have hi1 : ¬ (i : Int) < (i : Int) := by omega
      have htl : xs.take i = xs := List.take_of_length_le (by rw [← Hn.out]; exact Nat.le_refl _)
      have Hrc : Hid (ReadsZ wr u7 ((xs.map cOf).map fun (n : Nat) => (n : Int))) := by have := Ho.out.reads; rw [htl] at this; exact this.z
      clear htl
      go_wp2_with fail
      refine (refLens_own _ _ 15 _ Hrc.out (by omega) (by omega)).mono ?_
      rintro e w1 ⟨sv, rfl, ho1, hf1, hnw1⟩
      rw [lawBase_is] at ho1
      replace hf1 := hf.none hf1
      have Hf1 : Hid _ := hf1
      have Hnw1 : Hid (∀ k, sv.ownBlock = some k → w.heap.size ≤ k) := fun k hk => by have := hnw1 k hk; have := hf.size; omega
      have hBb : ∀ n ∈ lawBase xs, n ≤ 1000 := lawBase_le xs
      generalize hB : lawBase xs = B at ho1 hBb
      have Hlaw : Hid _ := lawLens_eq xs a b B hB
      clear hB
      have Ho1 : Hid (OwnN w1 sv B) := ho1
      have HBb : Hid _ := hBb
      obtain ⟨ab, cb, hsv, hcb, -⟩ := id ho1.reads
      rw [length_row] at hsv hcb
      subst hsv
      obtain ⟨nb, hnb⟩ : ∃ nb, nb = B.length := ⟨_, rfl⟩
      rw [← hnb] at Ho1 Hnw1 hcb Hlaw ⊢
      have Hnb : Hid _ := hnb
      clear hf1 hnw1 ho1 hBb hnb Hrc Ho Hnw hf hi1 hlt
      have Hreads : Hid (ReadsZ w1 (.slice ab nb cb) (B.map fun (n : Nat) => (n : Int))) := Ho1.out.reads.z
      obtain ⟨r4, hr4⟩ : ∃ r, r = b % 4 := ⟨_, rfl⟩
      have t4 : (b : Int).tmod 4 = (r4 : Int) := by rw [Int.tmod_eq_emod_of_nonneg (by omega)]; omega
      by_cases h0 : nb = 0
      · have He : Hid (lawLens xs a b = B.map fun (n : Nat) => (n : Int)) := by
          show _ = _
          rw [Hlaw.out, if_neg (by omega)]
        subst h0
        go_wp2_with fail
        go_ret
        exact ⟨_, rfl, by rw [He.out]; exact Hreads.out, Hf1.out, Hnw1.out⟩
      · have h0' : (0 : Int) < (nb : Int) := by omega
        by_cases h4 : r4 = 0
        · obtain ⟨p, hp⟩ : ∃ p, p = a % nb := ⟨_, rfl⟩
          have hpn : p < nb := by rw [hp]; exact Nat.mod_lt _ (by omega)
          have hpa : p ≤ a := by rw [hp]; exact Nat.mod_le _ _
          obtain ⟨r8, hr8⟩ : ∃ r, r = b % 8 := ⟨_, rfl⟩
          obtain ⟨q, hq⟩ : ∃ q, q = r8 / 4 := ⟨_, rfl⟩
          obtain ⟨y, hy⟩ : ∃ y, y = B.getD p 0 := ⟨_, rfl⟩
          have hyb : y ≤ 1000 := by
            rw [hy, List.getD_eq_getElem?_getD, List.getElem?_eq_getElem (by rw [← Hnb.out]; exact hpn)]
            exact HBb.out _ (List.getElem_mem _)
          have He : Hid (lawLens xs a b = (B.map fun (n : Nat) => (n : Int)).set p ((y : Int) + ((q : Int) * 2 - 1))) := by
            show _ = _
            rw [Hlaw.out, if_pos ⟨by omega, by omega⟩, ← hp, ← hy, hq, hr8]
            congr 1
            omega
          have hoc := Ho1.out
          unfold OwnN at hoc
          rw [← Hnb.out] at hoc
          rcases hoc.2 with ⟨e, h00⟩ | ⟨gb, cap2, cur, e, -⟩
          · exact absurd h00 h0
          · simp only [Value.slice.injEq] at e
            obtain ⟨rfl, -, rfl⟩ := e
            have hfz := World.ownsRow.frozenAt hoc p
            have hce : w1.cell? ⟨gb, p, none⟩ = some (.int .i64 (y : Int)) := by
              rw [World.ownsRow.cellAt hoc p (by omega), row_get .i64 B p (by rw [← Hnb.out]; exact hpn), hy]
            have Hst : Hid (ReadsZ (w1.setCell ⟨gb, p, none⟩ (.int .i64 ((y : Int) + ((q : Int) * 2 - 1)))) (.slice (some ⟨gb, 0, none⟩) nb cb) ((B.map fun (n : Nat) => (n : Int)).set p ((y : Int) + ((q : Int) * 2 - 1)))) := by
              have h1 := (World.ownsRow.stored hoc p (.int .i64 ((y : Int) + ((q : Int) * 2 - 1)))).1
              have h2 := holds_own h1
              have e2 : (row .i64 B).set p (.int .i64 ((y : Int) + ((q : Int) * 2 - 1))) = zrow ((B.map fun (n : Nat) => (n : Int)).set p ((y : Int) + ((q : Int) * 2 - 1))) := by
                unfold zrow row
                rw [List.map_set, List.map_map]
                rfl
              rw [e2] at h2
              exact h2
            have ta : (a : Int).tmod (nb : Int) = (p : Int) := by rw [Int.tmod_eq_emod_of_nonneg (by omega), hp]; rfl
            have wa : IntKind.i64.wrap (a : Int) = (a : Int) := IntWalk.i64_in _ (by omega)
            have wp : IntKind.i64.wrap (p : Int) = (p : Int) := IntWalk.i64_in _ (by omega)
            have t8 : (b : Int).tmod 8 = (r8 : Int) := by rw [Int.tmod_eq_emod_of_nonneg (by omega)]; omega
            have w8 : IntKind.i64.wrap (r8 : Int) = (r8 : Int) := IntWalk.i64_in _ (by omega)
            have tq : (r8 : Int).tdiv 4 = (q : Int) := by rw [Int.tdiv_eq_ediv_of_nonneg (by omega)]; omega
            have tq' : (r8 : Int) / 4 = (q : Int) := by omega
            have wq : IntKind.i64.wrap (q : Int) = (q : Int) := IntWalk.i64_in _ (by omega)
            have wq2 : IntKind.i64.wrap ((q : Int) * 2) = (q : Int) * 2 := IntWalk.i64_in _ (by omega)
            have hq1 : q ≤ 1 := by omega
            have wq3 : IntKind.i64.wrap ((q : Int) * 2 - 1) = (q : Int) * 2 - 1 := IntWalk.i64_in _ (by omega)
            have wy : IntKind.i64.wrap ((y : Int) + ((q : Int) * 2 - 1)) = (y : Int) + ((q : Int) * 2 - 1) := IntWalk.i64_in _ (by omega)
            have hpi : (p : Int) < (nb : Int) := by omega
            have hgw : w.heap.size ≤ gb := Hnw1.out gb rfl
            subst h4
            clear hr4 hp hr8 hq hy hoc Hlaw
            go_wp2
            go_ret
            exact ⟨_, rfl, by rw [He.out]; exact Hst.out, Hf1.out.setCell ⟨gb, p, none⟩ (fun h => by simp at h; omega) _, Hnw1.out⟩
        · have h4' : ((r4 : Int) == 0) = false := by rw [beq_eq_false_iff_ne]; omega
          have He : Hid (lawLens xs a b = B.map fun (n : Nat) => (n : Int)) := by
            show _ = _
            rw [Hlaw.out, if_neg (by omega)]
          go_wp2_with fail
          go_ret
          exact ⟨_, rfl, by rw [He.out]; exact Hreads.out, Hf1.out, Hnw1.out⟩

end Go.Proofs.Ytdbbngppdcpcgaa

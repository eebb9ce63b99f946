/-
  The walk of the law CodeTexts, under the condition that the program's functions answer as their contracts say.
-/
import Derived.Test.YtdbbngppdcpcgaaRows
import Derived.Test.YtdbbngppdcpcgaaKHelp
import Derived.Deep.CutRange
namespace Go.Proofs.Ytdbbngppdcpcgaa.codeTexts
open Go.ChangeShapes Go.WideShapes Go.ChangeAt Go.RowKit

/-- Symbols one behind another. -/
def encAll (l : List Nat) : List Nat → List Bool
  | [] => []
  | s :: r => putBits (codeOf l s) (ln l s) ++ encAll l r
theorem encAll_append (l a b : List Nat) : encAll l (a ++ b) = encAll l a ++ encAll l b := by
  induction a with
  | nil => rfl
  | cons s a ih => simp [encAll, ih]
theorem encAll_len (l : List Nat) (a : List Nat) (h : ∀ s, ln l s ≤ 15) : (encAll l a).length ≤ 15 * a.length := by
  induction a with
  | nil => simp [encAll]
  | cons s a ih => simp only [encAll, List.length_append, length_putBits, List.length_cons]; have := h s; omega
theorem OwnN.drew {w : World} {v : Value} {bs : List Nat} (h : OwnN w v bs) : OwnN w.drew v bs := h
theorem codeBits_nat (l : List Nat) (s : Nat) : codeBits l (s : Int) = encAll l (if 0 < ln l s then [s] else []) := by
  unfold codeBits hasCode
  rw [show ((s : Int)).toNat = s by omega]
  by_cases h : 0 < ln l s
  · rw [if_pos h, if_pos (decide_eq_true ⟨by omega, h⟩)]
    simp [encAll]
  · rw [if_neg h, if_neg (by rw [decide_eq_true_eq]; omega)]
    rfl
theorem hasCode_nat (l : List Nat) (s : Nat) : hasCode l (s : Int) = decide (0 < ln l s) := by
  unfold hasCode
  rw [show ((s : Int)).toNat = s by omega]
  exact decide_eq_decide.2 (by omega)
theorem ku8 (n : Int) (h : (Lit.int .u8 n).wf = true) : 0 ≤ n ∧ n < (256 : Nat) := by have := bounds_u8 h; omega

set_option maxRecDepth 4000 in
set_option maxHeartbeats 800000 in
theorem walkM (M : KC) (a0 : Option Addr) (len0 cap0 : Nat) (z0 : List Int) (a1 : Option Addr) (len1 cap1 : Nat) (z1 : List Int) (w : World) (w0 : IsRow .u16 w a0 len0 cap0 z0) (w1 : IsRow .u8 w a1 len1 cap1 z1) :
    Calls Try.prog 6 #[.slice a0 len0 cap0, .slice a1 len1 cap1] w fun e w' => e = .returned (.bool true) ∧ Below w.heap.size w w' := by
  obtain ⟨xs, hxl, hxx, hrd, -⟩ := reads_isRow ku16 (by decide) w0
  have hxs : ∀ x ∈ xs, x < 65536 := fun x hx => by
    obtain ⟨j, hj⟩ := List.getElem?_of_mem hx
    have := hxx j
    rwa [List.getD_eq_getElem?_getD, hj] at this
  obtain ⟨ys, hyl, hyy, hry, -⟩ := reads_isRow ku8 (by decide) w1
  have Hrd : Hid (Reads .u16 w (.slice a0 len0 cap0) xs) := hrd
  have Hry : Hid (Reads .u8 w (.slice a1 len1 cap1) ys) := hry
  have Hxs : Hid _ := hxs
  have Hxl : Hid _ := hxl
  have Hyl : Hid _ := hyl
  have Hyy : Hid _ := hyy
  clear w0 w1 hrd hry hxs hxx hxl hyl hyy
  go_enter Try.func6, Try.ntmps6
  go_wp2_with fail
  refine (known_any M w).mono ?_
  rintro e w1 ⟨rfl, hf1⟩
  by_cases hbig : 40 < len0
  · have hd : decide ((40 : Int) < (len0 : Int)) = true := decide_eq_true (by omega)
    go_wp2
    all_goals (go_ret; exact ⟨rfl, hf1.below (Nat.le_refl _) (fun k h => h.elim)⟩)
  · by_cases hbig2 : 60 < len1
    · have hd : decide ((40 : Int) < (len0 : Int)) = false := decide_eq_false (by omega)
      have hd2 : decide ((60 : Int) < (len1 : Int)) = true := decide_eq_true (by omega)
      go_wp2
      all_goals (go_ret; exact ⟨rfl, hf1.below (Nat.le_refl _) (fun k h => h.elim)⟩)
    · have hd : decide ((40 : Int) < (len0 : Int)) = false := decide_eq_false (by omega)
      have hd2 : decide ((60 : Int) < (len1 : Int)) = false := decide_eq_false (by omega)
      go_wp2_with fail
      refine (lawLens_any _ xs 0 1 w1 (Hrd.out.keep hf1) Hxs.out (by decide) (by decide) (by rw [Hxl.out]; omega)).mono ?_
      rw [lawLens_one]
      rintro e w2 ⟨sx, rfl, hrx, hf2, -⟩
      replace hf2 := hf1.none hf2
      have hBl := lawBase_len xs (by rw [Hxl.out]; omega)
      generalize lawBase xs = l at hrx hBl
      have hl60 : l.length ≤ 40 := by rw [hBl, Hxl.out]; omega
      obtain ⟨ax, cx, rfl, hcx⟩ := hrx.form
      rw [List.length_map] at hrx hcx ⊢
      obtain ⟨N, hN⟩ : ∃ N, N = l.length := ⟨_, rfl⟩
      rw [← hN] at hrx hcx hl60 ⊢
      have HN : Hid _ := hN
      have Hrx : Hid (ReadsZ w2 (.slice ax N cx) (l.map fun (n : Nat) => (n : Int))) := hrx
      clear hrx hf1 hN hBl hd hd2
      cases hR : rightB (l.map fun (n : Nat) => (n : Int)) with
      | false =>
        go_wp2_with fail
        refine (M.newN _ _ _ Hrx.out (by rw [List.length_map, ← HN.out]; omega) hR).mono ?_
        rintro e w3 ⟨rfl, hf3⟩
        have Hrx3 : Hid (ReadsZ w3 (.slice ax N cx) (l.map fun (n : Nat) => (n : Int))) := Hrx.out.keep hf3
        replace hf3 := hf2.none hf3
        go_wp2_with fail
        refine (refRight_any _ _ _ Hrx3.out).mono ?_
        rw [hR]
        rintro e w4 ⟨rfl, hf4⟩
        replace hf4 := hf3.none hf4
        go_wp2
        all_goals (go_ret; exact ⟨rfl, hf4.below (Nat.le_refl _) (fun k h => h.elim)⟩)
      | true =>
        have hRL := (right_of_nats l).1 hR
        go_wp2_with fail
        refine (M.newY _ _ _ Hrx.out (by rw [List.length_map, ← HN.out]; omega) hR).mono ?_
        rintro e w3 ⟨p, F, rfl, ht3, hf3, -⟩
        have Hrx3 : Hid (ReadsZ w3 (.slice ax N cx) (l.map fun (n : Nat) => (n : Int))) := Hrx.out.keep hf3
        replace hf3 := hf2.none hf3
        have hFlt := M.lt ht3
        have hN1 : 0 < N := by
          rcases Nat.eq_zero_or_pos N with h | h
          · have := right_some hRL
            have h2 : l = [] := List.eq_nil_of_length_eq_zero (by rw [← HN.out]; exact h)
            rw [h2] at this
            simp [someOf] at this
          · exact h
        have HR : Hid _ := hRL
        have HRb : Hid _ := hR
        have Ht3 : Hid (M.tb w3 p (l.map fun (n : Nat) => (n : Int)) F) := ht3
        have HF : Hid _ := hFlt
        have hnat := nats_cast l
        have Hnat : Hid _ := hnat
        clear hf2 Hrx hRL hR ht3 hFlt hnat
        go_wp2_with fail
        refine (newWriter_any w3).mono ?_
        rintro e w4 ⟨rfl, hw4, hf4⟩
        obtain ⟨q, hq⟩ : ∃ q, q = w3.heap.size := ⟨_, rfl⟩
        rw [← hq] at hw4 ⊢
        have hn4 : Newer w3.heap.size q (.slice none 0 0) := by
          intro k hk
          rcases hk with rfl | hk
          · omega
          · simp [Value.ownBlock] at hk
        have Hw4 : Hid (Wr w4 q (.slice none 0 0) []) := hw4
        have Hn4 : Hid _ := hn4
        have Hf4 : Hid (Fr w3 w4 (fun _ => False)) := hf4
        clear hw4 hn4 hf4 hq
        have hN0 : ¬ N = 0 := by omega
        have hN2 : ((N : Int) == 0) = false := by rw [beq_eq_false_iff_ne]; omega
        go_wp2 -- LOOPS
        go_loopg [9, 10, 11] len1 (fun g S Z I wi => ∃ (i : Nat) (wl : List Nat) (sv : Value), g = len1 - i ∧ i ≤ len1 ∧ I = .int .i64 (i : Int) ∧ Z = .int .i64 ((encAll l wl).length : Int) ∧ OwnN wi S wl ∧ wl.length ≤ i ∧ (∀ s ∈ wl, 0 < ln l s) ∧ Wr wi q sv (encAll l wl) ∧ Newer w3.heap.size q sv ∧ (∀ k, S.ownBlock = some k → w3.heap.size ≤ k) ∧ Fr w3 wi (fun _ => False))
        case atStart => exact ⟨0, [], .slice none 0 0, rfl, by omega, rfl, rfl, OwnN.nil _, by simp, fun s hs => (by cases hs), Hw4.out, Hn4.out, fun k hk => (by simp [Value.ownBlock] at hk), Hf4.out⟩
        case round =>
          obtain ⟨i, wl, sv, hg, hi, rfl, rfl, ho, hwl, hpos, hw, hnw, hns, hf⟩ := hrel
          have Hg : Hid _ := hg
          have Ho : Hid (OwnN wr u9 wl) := ho
          have Hpos : Hid _ := hpos
          have Hw : Hid (Wr wr q sv (encAll l wl)) := hw
          have Hnw : Hid _ := hnw
          have Hns : Hid _ := hns
          have Hf : Hid (Fr w3 wr (fun _ => False)) := hf
          have hel := encAll_len l wl HR.out.ln
          clear hg ho hpos hw hnw hns hf
          by_cases hlt : i < len1
          · obtain ⟨sy, hsy⟩ : ∃ s, s = ys.getD i 0 := ⟨_, rfl⟩
            obtain ⟨ay, cy, e, -, hcl⟩ := Hry.out.keep (hf3.none Hf.out)
            obtain ⟨by_, oy, rfl, hcell⟩ := hcl (by rw [length_row, Hyl.out]; omega)
            simp only [Value.slice.injEq] at e
            obtain ⟨rfl, -, rfl⟩ := e
            have cy := hcell i _ (row_get .u8 ys i (by rw [Hyl.out]; exact hlt))
            rw [← hsy] at cy
            have hs256 : sy < 256 := by rw [hsy]; exact Hyy.out i
            obtain ⟨s, hs⟩ : ∃ s, s = sy % N := ⟨_, rfl⟩
            have hsN : s < N := by rw [hs]; exact Nat.mod_lt _ hN1
            have ts : (sy : Int).tmod (N : Int) = (s : Int) := by rw [Int.tmod_eq_emod_of_nonneg (by omega), hs]; rfl
            have wsy : IntKind.i64.wrap (sy : Int) = (sy : Int) := IntWalk.i64_in _ (by omega)
            have ws1 : IntKind.i64.wrap (s : Int) = (s : Int) := IntWalk.i64_in _ (by omega)
            obtain ⟨bx, ox, rfl, kx⟩ := cell_ln Hrx3.out HN.out s hsN
            have hbx : bx < w3.heap.size := World.block_lt_of_cell? _ _ (kx _ (Fr.refl _ _))
            obtain ⟨y, hy⟩ : ∃ y, y = ln l s := ⟨_, rfl⟩
            rw [← hy] at kx
            have Kx : Hid _ := kx
            have Hy : Hid _ := hy
            have hi1 : (i : Int) < (len1 : Int) := by omega
            have hsN1 : (s : Int) < (N : Int) := by omega
            clear hcl hcell hsy hs kx hy
            go_wp2_with fail
            clear cy ts wsy ws1
            by_cases hy0 : y = 0
            · have hd1 : decide ((0 : Int) < (y : Int)) = false := decide_eq_false (by omega)
              have hd2 : decide (0 < y) = false := decide_eq_false (by omega)
              have kl : ∀ z, Fr wr.drew z (foot q sv) → z.cell? ⟨bx, ox + s, none⟩ = some (.int .i64 (y : Int)) := fun z hz => by
                have h1 := Kx.out _ Hf.out
                rw [World.cell?_of_block (w := wr) (hz.block bx (by have := Hf.out.size; show _ < wr.heap.size; omega) (fun h => by have := Hnw.out bx h; omega))]
                exact h1
              refine wp_region_tree (foot q sv) (.take 0 (.take 1 (.take 2 (.take 4 (.take 5 (.take 6 (.take 7 (.take 8 (.one 3 (.take 9 .nil)))))))))) (by kernel_rfl) (by kernel_rfl) (by decide) (by kernel_rfl) ?_
              repeat (refine wpT_take (v := ?_) rfl rfl (fun x hx => ?_) ?_; rotate_left; (focus (go_simp; with_reducible rfl)); simp only [Act.put, List.setIfInBounds_toArray, List.set_cons_zero, List.set_cons_succ])
              refine wpT_one rfl rfl (fun K hK => ?_)
              go_simp
              refine (M.put p q sv (encAll l wl) _ F (s : Int) wr.drew (M.frame Ht3.out Hf.out.drew (fun _ _ h => h)) HRb.out Hw.out (by omega) (fun k hk h => by have := HF.out k hk; have := Hnw.out k h; omega) (by omega) (by omega)).mono ?_
              rw [Hnat.out, hasCode_nat, codeBits_nat, ← Hy.out, if_neg (by omega : ¬ 0 < y)]
              rintro e w5 ⟨rfl, sv5, hw5, hf5, hm5⟩
              refine hK _ _ hf5 ?_
              clear hK K
              have hnw5 := Newer.moved Hnw.out hm5 Hf.out.size
              have hfw5 : Fr w3 w5 (fun _ => False) := Hf.out.drew.newer hf5 Hnw.out
              have hon5 : OwnN w5 u9 wl := by
                refine OwnN.frame Ho.out.drew hf5 (fun k hk h => ?_)
                rcases h with rfl | h
                · exact absurd (own_elem Ho.out hk Hw.out.1) (by decide)
                · obtain ⟨-, bs, -, hbs⟩ := Hw.out
                  exact own_apart hbs Ho.out (by decide) k hk h
              rw [← encAll_append] at hw5
              clear hf5 hm5 kl
              repeat (refine wpT_take (v := ?_) rfl rfl (fun x hx => ?_) ?_; rotate_left; (focus (go_simp; with_reducible rfl)); simp only [Act.put, List.setIfInBounds_toArray, List.set_cons_zero, List.set_cons_succ])
              unfold wpT
              rw [List.append_nil] at hw5
              have cxs := Kx.out _ hfw5
              have Hw5 : Hid (Wr w5 q sv5 (encAll l wl)) := hw5
              have Hn5 : Hid _ := hnw5
              have Ho5 : Hid (OwnN w5 u9 wl) := hon5
              clear hw5 hnw5 hon5
              go_wp2
              go_roundg (len1 - (i + 1))
              case rel => exact ⟨i + 1, wl, sv5, rfl, by omega, by go_num, rfl, Ho5.out, by omega, Hpos.out, Hw5.out, Hn5.out, Hns.out, hfw5⟩
              case measure => rw [Hg.out]; omega
            · have hd1 : decide ((0 : Int) < (y : Int)) = true := decide_eq_true (by omega)
              have hd2 : decide (0 < y) = true := decide_eq_true (by omega)
              have kl : ∀ z, Fr wr.drew z (foot q sv) → z.cell? ⟨bx, ox + s, none⟩ = some (.int .i64 (y : Int)) := fun z hz => by
                have h1 := Kx.out _ Hf.out
                rw [World.cell?_of_block (w := wr) (hz.block bx (by have := Hf.out.size; show _ < wr.heap.size; omega) (fun h => by have := Hnw.out bx h; omega))]
                exact h1
              refine wp_region_tree (foot q sv) (.take 0 (.take 1 (.take 2 (.take 4 (.take 5 (.take 6 (.take 7 (.take 8 (.one 3 (.take 9 .nil)))))))))) (by kernel_rfl) (by kernel_rfl) (by decide) (by kernel_rfl) ?_
              repeat (refine wpT_take (v := ?_) rfl rfl (fun x hx => ?_) ?_; rotate_left; (focus (go_simp; with_reducible rfl)); simp only [Act.put, List.setIfInBounds_toArray, List.set_cons_zero, List.set_cons_succ])
              refine wpT_one rfl rfl (fun K hK => ?_)
              go_simp
              refine (M.put p q sv (encAll l wl) _ F (s : Int) wr.drew (M.frame Ht3.out Hf.out.drew (fun _ _ h => h)) HRb.out Hw.out (by omega) (fun k hk h => by have := HF.out k hk; have := Hnw.out k h; omega) (by omega) (by omega)).mono ?_
              rw [Hnat.out, hasCode_nat, codeBits_nat, ← Hy.out, if_pos (by omega : 0 < y)]
              rintro e w5 ⟨rfl, sv5, hw5, hf5, hm5⟩
              refine hK _ _ hf5 ?_
              clear hK K
              have hnw5 := Newer.moved Hnw.out hm5 Hf.out.size
              have hfw5 : Fr w3 w5 (fun _ => False) := Hf.out.drew.newer hf5 Hnw.out
              have hon5 : OwnN w5 u9 wl := by
                refine OwnN.frame Ho.out.drew hf5 (fun k hk h => ?_)
                rcases h with rfl | h
                · exact absurd (own_elem Ho.out hk Hw.out.1) (by decide)
                · obtain ⟨-, bs, -, hbs⟩ := Hw.out
                  exact own_apart hbs Ho.out (by decide) k hk h
              rw [← encAll_append] at hw5
              clear hf5 hm5 kl
              repeat (refine wpT_take (v := ?_) rfl rfl (fun x hx => ?_) ?_; rotate_left; (focus (go_simp; with_reducible rfl)); simp only [Act.put, List.setIfInBounds_toArray, List.set_cons_zero, List.set_cons_succ])
              unfold wpT
              have cxs := Kx.out _ hfw5
              have Hw5 : Hid (Wr w5 q sv5 (encAll l (wl ++ [s]))) := hw5
              have Hn5 : Hid _ := hnw5
              have Ho5 : Hid (OwnN w5 u9 wl) := hon5
              clear hw5 hnw5 hon5
              have hsz : (encAll l (wl ++ [s])).length = (encAll l wl).length + y := by rw [encAll_append, List.length_append]; simp [encAll, length_putBits, Hy.out]
              obtain ⟨z0, hz0⟩ : ∃ z, z = (encAll l wl).length := ⟨_, rfl⟩
              have hy15 : y ≤ 15 := by rw [Hy.out]; exact HR.out.ln s
              rw [← hz0] at hsz hel ⊢
              have Hsz : Hid _ := hsz
              have wz : IntKind.i64.wrap ((z0 : Int) + (y : Int)) = ((z0 + y : Nat) : Int) := by rw [IntWalk.i64_in _ (by omega)]; omega
              clear hsz hz0
              go_wp2
              have kl2 : ∀ z, Fr w5.drew z (fun j => u9.ownBlock = some j) → z.cell? ⟨bx, ox + s, none⟩ = some (.int .i64 (y : Int)) := fun z hz => by
                rw [World.cell?_of_block (w := w5) (hz.block bx (by have := hfw5.size; show _ < w5.heap.size; omega) (fun h => by have := Hns.out bx h; omega))]
                exact cxs
              refine wp_region_tree (fun j => u9.ownBlock = some j) (.take 0 (.take 1 (.take 4 (.take 5 (.take 6 (.take 7 (.take 8 (.take 9 (.one 2 (.one 3 (.take 10 (.take 11 .nil)))))))))))) (by kernel_rfl) (by kernel_rfl) (by decide) (by kernel_rfl) ?_
              repeat (refine wpT_take (v := ?_) rfl rfl (fun x hx => ?_) ?_; rotate_left; (focus (go_simp; with_reducible rfl)); simp only [Act.put, List.setIfInBounds_toArray, List.set_cons_zero, List.set_cons_succ])
              refine wpT_one rfl rfl (fun K hK => ?_)
              go_simp
              refine hK _ _ (((Fr.refl w5.drew (fun _ => False)).alloc _).mono (fun _ _ h => h.elim)) ?_
              clear hK K
              obtain ⟨v6, w6, hrun6, ho6, hf6, hm6, -⟩ := app_ints (w5.drew.alloc (.cells #[.int .i64 (s : Int)] 3)) u9 (.slice (some ⟨w5.heap.size, 0, none⟩) 1 1) _ [s] (Ho5.out.drew.alloc _) (holds_lit w5.drew 3 [.int .i64 (s : Int)] (by simp)) (by simp; omega)
              refine wpT_one rfl rfl (fun K hK => ?_)
              refine op_append_run (.tmp 73) (.tmp 75) 22 rfl rfl rfl hrun6 ?_
              refine hK _ _ hf6 ?_
              clear hK K
              simp only [Act.put, List.setIfInBounds_toArray, List.set_cons_zero, List.set_cons_succ]
              repeat (refine wpT_take (v := ?_) rfl rfl (fun x hx => ?_) ?_; rotate_left; (focus (go_simp; with_reducible rfl)); simp only [Act.put, List.setIfInBounds_toArray, List.set_cons_zero, List.set_cons_succ])
              have hfa : Fr w5 (w5.drew.alloc (.cells #[.int .i64 (s : Int)] 3)) (fun _ => False) := (Fr.refl w5 (fun _ => False)).drew.alloc _
              have hfw6 : Fr w3 w6 (fun _ => False) := (hfw5.none hfa).newer hf6 Hns.out
              have hw6 : Wr w6 q sv5 (encAll l (wl ++ [s])) := by
                refine Wr.frame (Hw5.out.frame hfa (fun _ _ h => h)) hf6 (fun k hk h => ?_)
                rcases hk with rfl | hk
                · exact absurd (own_elem Ho5.out h Hw5.out.1) (by decide)
                · obtain ⟨-, bs, -, hbs⟩ := Hw5.out
                  exact own_apart hbs Ho5.out (by decide) k h hk
              have hns6 : ∀ k, v6.ownBlock = some k → w3.heap.size ≤ k := fun k hk => by
                rcases hm6 k hk with h | h
                · exact Hns.out k h
                · have := (hfw5.none hfa).size; omega
              have Hw6 : Hid (Wr w6 q sv5 (encAll l (wl ++ [s]))) := hw6
              have Ho6 : Hid (OwnN w6 v6 (wl ++ [s])) := ho6
              have Hns6 : Hid _ := hns6
              unfold wpT
              clear hw6 ho6 hf6 hm6 hns6 kl2 hfa cxs
              go_wp2
              go_roundg (len1 - (i + 1))
              case rel => exact ⟨i + 1, wl ++ [s], sv5, rfl, by omega, by go_num, by rw [Hsz.out]; first | rfl | (rw [← wz]), Ho6.out, by simp; omega, fun t ht => (by
                rcases List.mem_append.1 ht with h | h
                · exact Hpos.out t h
                · simp at h; subst h; rw [← Hy.out]; omega), Hw6.out, Hn5.out, Hns6.out, hfw6⟩
              case measure => rw [Hg.out]; omega
          · have hi1 : ¬ (i : Int) < (len1 : Int) := by omega
            have hfx := hf3.none Hf.out
            have hob := Ho.out.reads
            obtain ⟨aw, cw, hwe, -, -⟩ := id hob
            rw [length_row] at hwe
            obtain ⟨m, hm⟩ : ∃ m, m = wl.length := ⟨_, rfl⟩
            rw [← hm] at hwe hwl
            subst hwe
            have Hm : Hid _ := hm
            rw [← hm] at hel
            have Hob : Hid (Reads .i64 wr (.slice aw m cw) wl) := hob
            obtain ⟨z0, hz0⟩ : ∃ z, z = (encAll l wl).length := ⟨_, rfl⟩
            rw [← hz0] at hel ⊢
            have Hz0 : Hid _ := hz0
            clear hob hm hz0
            go_wp2_with fail
            refine (bytesP_any q sv _ wr Hw.out (by rw [← Hz0.out]; omega)).mono ?_
            rintro e w5 ⟨v5, rfl, hv5, hw5, hf5⟩
            have hfw5 := Hf.out.none hf5
            obtain ⟨av, lv_, cv, hv5e⟩ : ∃ a l c, v5 = .slice a l c := by obtain ⟨g, e, -⟩ := hv5; exact ⟨_, _, _, e⟩
            subst hv5e
            go_wp2_with fail
            have hpl := length_pack (encAll l wl)
            rw [← Hz0.out] at hpl
            refine (newReader_any _ _ w5 hv5.reads (by rw [hpl]; omega) (packs_pack _).small).mono ?_
            rintro e w6 ⟨r, sv6, rfl, hr6, hf6, hn6⟩
            have hunp := (packs_pack (encAll l wl)).unpack
            generalize pack (encAll l wl) = bs at hpl hr6 hunp hv5
            generalize List.replicate (8 * bs.length - (encAll l wl).length) false = pad at hunp
            have Hunp : Hid _ := hunp
            have Hpl : Hid _ := hpl
            have Hqr : Hid (∀ k, foot q sv k → k ≠ r) := fun k h1 h2 => by have := hn6 r (.inl rfl); have := hw5.lt k h1; omega
            have hn6' : ∀ k, foot r sv6 k → w5.heap.size ≤ k := hn6
            have HFr : Hid (∀ k, F k → ¬ foot r sv6 k) := fun k hk h => by have := HF.out k hk; have := hn6 k h; have := hfw5.size; omega
            have Hrn : Hid (w5.heap.size ≤ r) := hn6 r (.inl rfl)
            have Hrn3 : Hid (w3.heap.size ≤ r) := by show _ ≤ _; have := hn6 r (.inl rfl); have := hfw5.size; omega
            have Hw6 : Hid (Wr w6 q sv (encAll l wl)) := hw5.frame hf6 (fun _ _ h => h)
            have Hob6 : Hid (Reads .i64 w6 (.slice aw m cw) wl) := (Hob.out.keep hf5).keep hf6
            have Hr6 : Hid (Rd 76 w6 r sv6 bs 0) := hr6
            have hf36 : Fr w3 w6 (fun _ => False) := hfw5.none hf6
            have Hobr : Hid (∀ k, (Value.slice aw m cw).ownBlock = some k → 0 < m → k ≠ r) := fun k hk h0 e => by
              obtain ⟨a', c', e', -, hc'⟩ := Hob.out.keep hf5
              obtain ⟨b', o', e2, hc2⟩ := hc' (by rw [length_row, ← Hm.out]; exact h0)
              simp only [Value.slice.injEq] at e'
              have hb := World.block_lt_of_cell? _ _ (hc2 0 _ (row_get .i64 wl 0 (by rw [← Hm.out]; exact h0)))
              rw [e'.1, e2] at hk
              simp [Value.ownBlock] at hk
              have := Hrn.out
              simp at hb
              omega
            clear hv5 hw5 hf5 hfw5 hr6 hf6 hn6 hn6' hunp hpl
            go_wp2_with fail
            go_loopg [14] m (fun g I wi => ∃ j : Nat, g = m - j ∧ j ≤ m ∧ I = .int .i64 (j : Int) ∧ Rd 76 wi r sv6 bs (encAll l (wl.take j)).length ∧ Fr w6 wi (fun k => k = r))
            case atStart => exact ⟨0, rfl, by omega, rfl, Hr6.out, Fr.refl _ _⟩
            case round =>
              obtain ⟨j, hgj, hj, rfl, hrj, hfj⟩ := hrel
              have Hgj : Hid _ := hgj
              have Hrj : Hid (Rd 76 wr r sv6 bs (encAll l (wl.take j)).length) := hrj
              clear hgj hrj
              by_cases hjm : j < m
              · obtain ⟨t, ht⟩ : ∃ t, wl[j]? = some t := ⟨_, List.getElem?_eq_getElem (by rw [← Hm.out]; exact hjm)⟩
                have htp : 0 < ln l t := Hpos.out t (List.mem_of_getElem? ht)
                have htk : wl.take (j + 1) = wl.take j ++ [t] := by rw [List.take_add_one, ht]; rfl
                have hdr : wl.drop j = t :: wl.drop (j + 1) := by
                  have hl := (List.getElem?_eq_some_iff.1 ht).1
                  have he := (List.getElem?_eq_some_iff.1 ht).2
                  rw [List.drop_eq_getElem_cons hl, he]
                have hbits : (unpack bs).drop (encAll l (wl.take j)).length = putBits (codeOf l t) (ln l t) ++ (encAll l (wl.drop (j + 1)) ++ pad) := by
                  have e1 : encAll l wl = encAll l (wl.take j) ++ (putBits (codeOf l t) (ln l t) ++ encAll l (wl.drop (j + 1))) := by
                    conv => lhs; rw [← List.take_append_drop j wl, encAll_append, hdr]
                    rfl
                  rw [Hunp.out, e1, List.append_assoc, List.drop_left, List.append_assoc]
                have htks := take_put HR.out.ln HR.out.kraft htp (encAll l (wl.drop (j + 1)) ++ pad)
                rw [← hbits] at htks
                have hpos2 : (encAll l (wl.take j)).length + ln l t = (encAll l (wl.take (j + 1))).length := by
                  rw [htk, encAll_append, List.length_append]
                  simp [encAll, length_putBits]
                have ct : ∀ x, Fr w6 x (fun k => k = r) → ∃ b off, aw = some ⟨b, off, none⟩ ∧ x.cell? ⟨b, off + j, none⟩ = some (.int .i64 (t : Int)) := fun x hx => by
                  obtain ⟨a', c', e', -, hc'⟩ := Hob6.out.frame' hx (fun h0 k hk => Hobr.out k hk (by rw [← Hm.out] at h0; exact h0))
                  obtain ⟨b', o', e2, hc2⟩ := hc' (by rw [length_row, ← Hm.out]; omega)
                  simp only [Value.slice.injEq] at e'
                  have h1 := hc2 j _ (row_get .i64 wl j (by rw [← Hm.out]; exact hjm))
                  rw [List.getD_eq_getElem?_getD, ht] at h1
                  exact ⟨b', o', by rw [e'.1, e2], h1⟩
                have Hct : Hid _ := ct
                have hj1 : (j : Int) < (m : Int) := by omega
                clear ht htp htk hdr hbits ct
                go_wp2_with fail
                refine (M.take p r sv6 bs _ _ F wr (M.frame (M.frame Ht3.out hf36 (fun _ _ h => h)) hfj (fun k hk h => by subst h; exact HFr.out k hk (.inl rfl))) HRb.out Hrj.out HFr.out).mono ?_
                rw [Hnat.out]
                have e1 : tkS l ((unpack bs).drop (encAll l (wl.take j)).length) = t := by unfold tkS; rw [htks]; rfl
                have e2 : tkB l ((unpack bs).drop (encAll l (wl.take j)).length) = true := by unfold tkB; rw [htks]; rfl
                have e3 : tkN l ((unpack bs).drop (encAll l (wl.take j)).length) = ln l t := by unfold tkN; rw [htks]; rfl
                rw [e1, e2, e3, hpos2]
                rintro e w7 ⟨rfl, hr7, hf7⟩
                have hf8 := hfj.trans hf7 (fun _ _ h => h)
                have Hr7 : Hid (Rd 76 w7 r sv6 bs (encAll l (wl.take (j + 1))).length) := hr7
                obtain ⟨bw, ow, hbw, cbw⟩ := Hct.out _ hf8
                subst hbw
                clear e1 e2 e3 htks hpos2 hr7 hf7 hfj
                go_wp2
                all_goals
                  go_roundg (m - (j + 1))
                  case rel => exact ⟨j + 1, rfl, by omega, by go_num, Hr7.out, hf8⟩
                  case measure => rw [Hgj.out]; omega
              · have hj1 : ¬ (j : Int) < (m : Int) := by omega
                have htl : wl.take j = wl := List.take_of_length_le (by rw [← Hm.out]; omega)
                rw [htl, ← Hz0.out] at Hrj
                have hw7 := Hw6.out.frame hfj (fun k h1 h2 => Hqr.out k h1 h2)
                have hfo : Fr w wr (fun _ => False) := (hf3.none hf36).newer hfj (fun k hk => by rw [hk]; have := Hrn3.out; have := hf3.size; omega)
                clear htl
                go_wp2_with fail
                refine (len_any q sv _ wr hw7).mono ?_
                rintro e w8 ⟨rfl, rfl⟩
                rw [← Hz0.out]
                go_wp2_with fail
                refine (left_fr r sv6 bs z0 w8 Hrj.out).mono ?_
                have hl8 : (((8 * bs.length - z0 : Nat) : Int)) < 8 := by have := Hpl.out; omega
                have hl9 : decide ((((8 * bs.length - z0 : Nat) : Int)) < 8) = true := decide_eq_true hl8
                have hl10 : decide (8 * bs.length - z0 < 8) = true := decide_eq_true (by have := Hpl.out; omega)
                generalize 8 * bs.length - z0 = left at hl8 hl9 hl10
                rintro e w9 ⟨rfl, -, hf9⟩
                replace hf9 := hfo.none hf9
                go_wp2
                go_ret
                exact ⟨rfl, hf9.below (Nat.le_refl _) (fun k h => h.elim)⟩

end Go.Proofs.Ytdbbngppdcpcgaa.codeTexts

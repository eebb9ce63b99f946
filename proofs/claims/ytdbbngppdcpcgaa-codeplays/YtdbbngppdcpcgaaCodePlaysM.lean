/-
  The walk of the law CodePlays, under the condition that the program's functions answer as their contracts say.
-/
import Derived.Test.YtdbbngppdcpcgaaRows
import Derived.Test.YtdbbngppdcpcgaaKPlace
import Derived.Deep.CutRange
namespace Go.Proofs.Ytdbbngppdcpcgaa.codePlays
open Go.ChangeShapes Go.WideShapes Go.ChangeAt Go.RowKit

theorem rds_lt {w : World} {v : Value} {bs : List Nat} (h : Rds w v bs) : 0 < bs.length → ∀ k, v.ownBlock = some k → k < w.heap.size := by
  intro h0 k hk
  obtain ⟨ao, cap, rfl, hc⟩ := h
  obtain ⟨b, off, rfl, hcell⟩ := hc h0
  simp [Value.ownBlock] at hk
  subst hk
  exact World.block_lt_of_cell? _ _ (hcell 0 _ (row_get .u8 bs 0 h0))
theorem Fresh.lt {w w' : World} {v : Value} {bs : List Nat} (h : Fresh w w' v bs) : ∀ k, v.ownBlock = some k → k < w'.heap.size := fun k hk => by
  obtain ⟨g, rfl, -, -, h2⟩ := h
  simp [Value.ownBlock] at hk
  omega
theorem codeBits_len (l : List Nat) (h15 : ∀ s, ln l s ≤ 15) (s : Int) : (codeBits l s).length ≤ 15 := by
  unfold codeBits
  split
  · rw [length_putBits]; exact h15 _
  · simp

set_option maxRecDepth 4000 in
set_option maxHeartbeats 800000 in
theorem walkM (M : KC) (a0 : Option Addr) (len0 cap0 : Nat) (z0 : List Int) (a1 : Option Addr) (len1 cap1 : Nat) (z1 : List Int) (a2 : Option Addr) (len2 cap2 : Nat) (z2 : List Int) (a3 : Int) (w : World) (w0 : IsRow .u16 w a0 len0 cap0 z0) (w1 : IsRow .i64 w a1 len1 cap1 z1) (w2 : IsRow .u8 w a2 len2 cap2 z2) (w3 : (Lit.int .u8 a3).wf = true) :
    Calls Try.prog 4 #[.slice a0 len0 cap0, .slice a1 len1 cap1, .slice a2 len2 cap2, .int .u8 a3] w fun e w' => e = .returned (.bool true) ∧ Below w.heap.size w w' := by
  obtain ⟨xs, hxl, hxx, hrd, -⟩ := reads_isRow ku16 (by decide) w0
  have hxs : ∀ x ∈ xs, x < 65536 := fun x hx => by
    obtain ⟨j, hj⟩ := List.getElem?_of_mem hx
    have := hxx j
    rwa [List.getD_eq_getElem?_getD, hj] at this
  obtain ⟨rs, hrl, hr64, hrz⟩ := readsZ_isRow w1
  obtain ⟨ys, hyl, hyy, hry, -⟩ := reads_isRow ku8 (by decide) w2
  have Hrd : Hid (Reads .u16 w (.slice a0 len0 cap0) xs) := hrd
  have Hry : Hid (Reads .u8 w (.slice a2 len2 cap2) ys) := hry
  have Hrz : Hid (ReadsZ w (.slice a1 len1 cap1) rs) := hrz
  have Hrl : Hid _ := hrl
  have Hr64 : Hid _ := hr64
  have Hxs : Hid _ := hxs
  have Hxl : Hid _ := hxl
  have Hyl : Hid _ := hyl
  have Hyy : Hid _ := hyy
  have _ := w3
  clear w0 w1 w2 w3 hrd hry hxs hxx hxl hyl hyy hrz hrl hr64
  go_enter Try.func4, Try.ntmps4
  go_wp2_with fail
  refine (known_any M w).mono ?_
  rintro e w1 ⟨rfl, hf1⟩
  by_cases hbig : 40 < len0
  · have hd : decide ((40 : Int) < (len0 : Int)) = true := decide_eq_true (by omega)
    go_wp2
    all_goals (go_ret; exact ⟨rfl, hf1.below (Nat.le_refl _) (fun k h => h.elim)⟩)
  · by_cases hbig2 : 40 < len1
    · have hd : decide ((40 : Int) < (len0 : Int)) = false := decide_eq_false (by omega)
      have hd2 : decide ((40 : Int) < (len1 : Int)) = true := decide_eq_true (by omega)
      go_wp2
      all_goals (go_ret; exact ⟨rfl, hf1.below (Nat.le_refl _) (fun k h => h.elim)⟩)
    · have hd : decide ((40 : Int) < (len0 : Int)) = false := decide_eq_false (by omega)
      have hd2 : decide ((40 : Int) < (len1 : Int)) = false := decide_eq_false (by omega)
      by_cases hbig3 : 40 < len2
      · have hd3 : decide ((40 : Int) < (len2 : Int)) = true := decide_eq_true (by omega)
        go_wp2
        all_goals (go_ret; exact ⟨rfl, hf1.below (Nat.le_refl _) (fun k h => h.elim)⟩)
      · have hd3 : decide ((40 : Int) < (len2 : Int)) = false := decide_eq_false (by omega)
        go_wp2_with fail
        refine (lawLens_any _ xs 0 1 w1 (Hrd.out.keep hf1) Hxs.out (by decide) (by decide) (by rw [Hxl.out]; omega)).mono ?_
        rw [lawLens_one]
        rintro e w2 ⟨sx, rfl, hrx, hf2, -⟩
        replace hf2 := hf1.none hf2
        have hBl := lawBase_len xs (by rw [Hxl.out]; omega)
        generalize lawBase xs = l at hrx hBl
        have hl60 : l.length ≤ 40 := by rw [hBl, Hxl.out]; omega
        obtain ⟨ax, cx, rfl, hcx⟩ := hrx.form
        rw [List.length_map] at hrx hcx ⊢
        obtain ⟨N, hN⟩ : ∃ N, N = l.length := ⟨_, rfl⟩
        rw [← hN] at hrx hcx hl60 ⊢
        have HN : Hid _ := hN
        have Hrx : Hid (ReadsZ w2 (.slice ax N cx) (l.map fun (n : Nat) => (n : Int))) := hrx
        clear hrx hf1 hN hBl hd hd2 hd3
        cases hR : rightB (l.map fun (n : Nat) => (n : Int)) with
        | false =>
          go_wp2_with fail
          refine (M.newN _ _ _ Hrx.out (by rw [List.length_map, ← HN.out]; omega) hR).mono ?_
          rintro e w3 ⟨rfl, hf3⟩
          have Hrx3 : Hid (ReadsZ w3 (.slice ax N cx) (l.map fun (n : Nat) => (n : Int))) := Hrx.out.keep hf3
          replace hf3 := hf2.none hf3
          go_wp2_with fail
          refine (refRight_any _ _ _ Hrx3.out).mono ?_
          rw [hR]
          rintro e w4 ⟨rfl, hf4⟩
          replace hf4 := hf3.none hf4
          go_wp2
          all_goals (go_ret; exact ⟨rfl, hf4.below (Nat.le_refl _) (fun k h => h.elim)⟩)
        | true =>
          have hRL := (right_of_nats l).1 hR
          go_wp2_with fail
          refine (M.newY _ _ _ Hrx.out (by rw [List.length_map, ← HN.out]; omega) hR).mono ?_
          rintro e w3 ⟨p, F, rfl, ht3, hf3, -⟩
          have Hrx3 : Hid (ReadsZ w3 (.slice ax N cx) (l.map fun (n : Nat) => (n : Int))) := Hrx.out.keep hf3
          replace hf3 := hf2.none hf3
          have hFlt := M.lt ht3
          have hN1 : 0 < N := by
            rcases Nat.eq_zero_or_pos N with h | h
            · have := right_some hRL
              have h2 : l = [] := List.eq_nil_of_length_eq_zero (by rw [← HN.out]; exact h)
              rw [h2] at this
              simp [someOf] at this
            · exact h
          have HR : Hid _ := hRL
          have HRb : Hid _ := hR
          have Ht3 : Hid (M.tb w3 p (l.map fun (n : Nat) => (n : Int)) F) := ht3
          have HF : Hid _ := hFlt
          have hnat := nats_cast l
          have Hnat : Hid _ := hnat
          clear hf2 Hrx hRL hR ht3 hFlt hnat
          go_wp2_with fail
          refine (refCodes_any _ _ _ Hrx3.out).mono ?_
          rw [codes_nats HRb.out, ← HN.out]
          rintro e w4 ⟨sc, rfl, hrc, hf4, -⟩
          obtain ⟨ac, cc, rfl, hcc, -⟩ := id hrc
          rw [length_row, fnRow_length] at hcc hrc ⊢
          have Hrx4 : Hid (ReadsZ w4 (.slice ax N cx) (l.map fun (n : Nat) => (n : Int))) := Hrx3.out.keep hf4
          have Hrc4 : Hid (Reads .i64 w4 (.slice ac N cc) (fnRow N (codeOf l))) := hrc
          have Ht4 : Hid (M.tb w4 p (l.map fun (n : Nat) => (n : Int)) F) := M.frame Ht3.out hf4 (fun _ _ h => h)
          have HF4 : Hid _ := M.lt Ht4.out
          replace hf4 := hf3.none hf4
          clear hf3 hrc Hrx3 Ht3 HF
          go_wp2_with fail
          refine (newWriter_any w4).mono ?_
          rintro e w5 ⟨rfl, hw5, hf5⟩
          obtain ⟨q, hq⟩ : ∃ q, q = w4.heap.size := ⟨_, rfl⟩
          rw [← hq] at hw5 ⊢
          have Hq : Hid (w4.heap.size ≤ q) := by show _ ≤ _; omega
          have Hw5 : Hid (Wr w5 q (.slice none 0 0) []) := hw5
          have Hf5 : Hid (Fr w4 w5 (fun _ => False)) := hf5
          clear hw5 hf5 hq
          go_wp2
          obtain ⟨qv, hqv⟩ : ∃ q, q = w5.heap.size := ⟨_, rfl⟩
          rw [← hqv]
          have Hv6 : Hid (RefWr (w5.alloc (.cells #[.slice none 0 0] 40)) qv (.slice none 0 0) []) := ⟨by rw [hqv]; exact heap_alloc_new _ _, World.ownsRow_nil _ _ _ _⟩
          have Hw6 : Hid (Wr (w5.alloc (.cells #[.slice none 0 0] 40)) q (.slice none 0 0) []) := Hw5.out.frame ((Fr.refl w5 (fun _ => False)).alloc _) (fun _ _ h => h)
          have Hf6 : Hid (Fr w4 (w5.alloc (.cells #[.slice none 0 0] 40)) (fun _ => False)) := Hf5.out.alloc _
          have Hqv : Hid (w4.heap.size ≤ qv) := by show _ ≤ _; have := Hf5.out.size; omega
          generalize w5.alloc (.cells #[.slice none 0 0] 40) = w6 at Hv6 Hw6 Hf6 ⊢
          have hnil : ∀ (x : Nat), w4.heap.size ≤ x → Newer w4.heap.size x (.slice none 0 0) := fun x hx k hk => by
            rcases hk with rfl | hk
            · exact hx
            · simp [Value.ownBlock] at hk
          have Hn0 : Hid _ := hnil q Hq.out
          have Hn1 : Hid _ := hnil qv Hqv.out
          clear hqv Hw5 Hf5 hnil
          go_loopg [15] len1 (fun g I wi => ∃ (i : Nat) (bl : List Bool) (sv rv : Value), g = len1 - i ∧ i ≤ len1 ∧ I = .int .i64 (i : Int) ∧ bl.length ≤ 15 * i ∧ Wr wi q sv bl ∧ RefWr wi qv rv bl ∧ Newer w4.heap.size q sv ∧ Newer w4.heap.size qv rv ∧ Fr w4 wi (fun _ => False))
          case atStart => exact ⟨0, [], _, _, rfl, by omega, rfl, by simp, Hw6.out, Hv6.out, Hn0.out, Hn1.out, Hf6.out⟩
          case round =>
            obtain ⟨i, bl, sv, rv, hg, hi, rfl, hbl, hw, hv, hnw, hnv, hf⟩ := hrel
            have Hg : Hid _ := hg
            have Hw : Hid (Wr wr q sv bl) := hw
            have Hv : Hid (RefWr wr qv rv bl) := hv
            have Hnw : Hid _ := hnw
            have Hnv : Hid _ := hnv
            have Hf : Hid (Fr w4 wr (fun _ => False)) := hf
            clear hg hw hv hnw hnv hf
            have Hax : Hid (∀ k, (Value.slice ax N cx).ownBlock = some k → k < w4.heap.size) := fun k hk => by
              obtain ⟨bx, ox, e, kx⟩ := cell_ln Hrx4.out HN.out 0 hN1
              rw [e] at hk
              simp [Value.ownBlock] at hk
              subst hk
              exact World.block_lt_of_cell? _ _ (kx _ (Fr.refl _ _))
            by_cases hlt : i < len1
            · obtain ⟨x, hx⟩ : ∃ x, rs[i]? = some x := ⟨_, List.getElem?_eq_getElem (by rw [Hrl.out]; exact hlt)⟩
              have hxb := Hr64.out x (List.mem_of_getElem? hx)
              obtain ⟨b1, o1, cp1, e1, hb1, k1⟩ := (Hrz.out.keep (hf4.none Hf.out)).get i x hx
              simp only [Value.slice.injEq] at e1
              obtain ⟨rfl, -, rfl⟩ := e1
              have cx1 := k1 _ (Fr.refl _ _)
              have hi1 : (i : Int) < (len1 : Int) := by omega
              clear k1 hb1 hx
              obtain ⟨m, hm⟩ : ∃ m, m = i % 4 := ⟨_, rfl⟩
              have tm : (i : Int).tmod 4 = (m : Int) := by rw [Int.tmod_eq_emod_of_nonneg (by omega), hm]; rfl
              have em : (i : Int) % 4 = (m : Int) := by omega
              have hm4 : m < 4 := by omega
              clear hm
              by_cases hm0 : 0 < m
              · have hd : decide ((0 : Int) < (m : Int)) = true := decide_eq_true (by omega)
                go_wp2_with fail
                refine (place_any x N wr hN1 (by omega)).mono ?_
                rintro e w6 ⟨z, rfl, hz1, hz2, hw6⟩
                obtain rfl : wr = w6 := hw6.symm
                have Hz : Hid (-9223372036854775808 ≤ z ∧ z ≤ 9223372036854775807) := ⟨hz1, hz2⟩
                clear hz1 hz2 cx1 hd tm em hxb
                go_wp2
                refine wp_region_tree (fun k => foot q sv k ∨ foot qv rv k) (.take 0 (.take 1 (.take 2 (.take 4 (.take 5 (.take 6 (.one 3 (.one 7 (.take 8 (.take 9 (.take 10 (.take 12 (.take 13 (.take 14 (.two 11 (.one 15 (.take 16 (.take 17 (.take 18 .nil)))) 15 (.take 16 (.one 11 (.take 17 (.take 18 .nil))))))))))))))))))) (by kernel_rfl) (by kernel_rfl) (by decide) (by kernel_rfl) ?_
                repeat (refine wpT_take (v := ?_) rfl rfl (fun x hx => ?_) ?_; rotate_left; (focus (go_simp; with_reducible rfl)); simp only [Act.put, List.setIfInBounds_toArray, List.set_cons_zero, List.set_cons_succ])
                refine wpT_one rfl rfl (fun K hK => ?_)
                go_simp
                refine (M.put p q sv bl _ F z wr.drew (M.frame Ht4.out Hf.out.drew (fun _ _ h => h)) HRb.out Hw.out (by omega) (fun k hk h => by have := HF4.out k hk; have := Hnw.out k h; omega) Hz.out.1 Hz.out.2).mono ?_
                rw [Hnat.out]
                rintro e w7 ⟨rfl, sv7, hw7, hf7, hm7⟩
                refine hK _ _ (hf7.mono (fun _ _ h => .inl h)) ?_
                clear hK K
                have hv7 : RefWr w7 qv rv bl := RefWr.frame (w := wr.drew) Hv.out hf7 (fun k h1 h2 => writers_apart Hw.out Hv.out k h2 h1)
                have hnw7 := Newer.moved Hnw.out hm7 (show w4.heap.size ≤ wr.drew.heap.size from Hf.out.size)
                have hfw7 : Fr w4 w7 (fun _ => False) := Hf.out.drew.newer hf7 Hnw.out
                have hrz7 := Hrx4.out.keep hfw7
                clear hf7 hm7
                refine wpT_one rfl rfl (fun K hK => ?_)
                go_simp
                refine (refPutCode_any qv rv bl _ _ z w7 hv7 (by omega) hrz7 HRb.out (fun k hk h => by have := Hax.out k hk; have := Hnv.out k h; omega)).mono ?_
                rw [Hnat.out]
                rintro e w8 ⟨rfl, rv8, hv8, hf8, hm8⟩
                refine hK _ _ (hf8.mono (fun _ _ h => .inr h)) ?_
                clear hK K
                have hw8 : Wr w8 q sv7 (bl ++ codeBits l z) := hw7.frame hf8 (fun k h1 h2 => writers_apart hw7 hv7 k h1 h2)
                have hn8 := Newer.moved Hnv.out hm8 hfw7.size
                have hfw8 : Fr w4 w8 (fun _ => False) := hfw7.newer hf8 Hnv.out
                have hbl8 : (bl ++ codeBits l z).length ≤ 15 * (i + 1) := by
                  have := codeBits_len l HR.out.ln z
                  rw [List.length_append]
                  omega
                obtain ⟨ra, rc, hrve⟩ : ∃ a c, rv8 = .slice a (bl ++ codeBits l z).length c := by
                  rcases hv8.2.2 with ⟨h1, h2⟩ | ⟨g, cap, cur, h1, -⟩
                  · exact ⟨_, _, by rw [h1, h2]⟩
                  · exact ⟨_, _, h1⟩
                generalize bl ++ codeBits l z = bl8 at hv8 hw8 hbl8 hrve
                obtain ⟨L, hL⟩ : ∃ L, L = bl8.length := ⟨_, rfl⟩
                rw [← hL] at hrve hbl8
                subst hrve
                have cB : w8.cell? ⟨qv, 0, none⟩ = some (.slice ra L rc) := by simp [World.cell?, hv8.1]
                have Hw8 : Hid (Wr w8 q sv7 bl8) := hw8
                have Hv8 : Hid (RefWr w8 qv (.slice ra L rc) bl8) := hv8
                have Hn8 : Hid _ := hn8
                have Hnw7 : Hid _ := hnw7
                have Hf8 : Hid (Fr w4 w8 (fun _ => False)) := hfw8
                have HL : Hid _ := hL
                clear hw8 hv8 hn8 hnw7 hfw8 hL hw7 hv7 hfw7 hrz7 hf8 hm8
                generalize hasCode l z = hc
                repeat (refine wpT_take (v := ?_) rfl rfl (fun x hx => ?_) ?_; rotate_left; (focus (go_simp; with_reducible rfl)); simp only [Act.put, List.setIfInBounds_toArray, List.set_cons_zero, List.set_cons_succ])
                refine wpT_two rfl rfl rfl rfl (fun K hK => ?_) (fun K hK => ?_)
                · go_simp
                  refine (len_any q sv7 _ w8 Hw8.out).mono ?_
                  rw [← HL.out]
                  rintro e w9 ⟨rfl, rfl⟩
                  refine hK _ _ (Fr.refl _ _) ?_
                  clear hK K
                  refine wpT_one rfl rfl (fun K hK => ?_)
                  go_simp
                  refine hK _ _ (Fr.refl _ _) ?_
                  clear hK K
                  repeat (refine wpT_take (v := ?_) rfl rfl (fun x hx => ?_) ?_; rotate_left; (focus (go_simp; with_reducible rfl)); simp only [Act.put, List.setIfInBounds_toArray, List.set_cons_zero, List.set_cons_succ])
                  unfold wpT
                  go_wp2
                  go_roundg (len1 - (i + 1))
                  case rel => exact ⟨i + 1, bl8, sv7, _, rfl, by omega, by go_num, by rw [← HL.out]; exact hbl8, Hw8.out, Hv8.out, Hnw7.out, Hn8.out, Hf8.out⟩
                  case measure => rw [Hg.out]; omega
                · go_simp
                  refine hK _ _ (Fr.refl _ _) ?_
                  clear hK K
                  repeat (refine wpT_take (v := ?_) rfl rfl (fun x hx => ?_) ?_; rotate_left; (focus (go_simp; with_reducible rfl)); simp only [Act.put, List.setIfInBounds_toArray, List.set_cons_zero, List.set_cons_succ])
                  refine wpT_one rfl rfl (fun K hK => ?_)
                  go_simp
                  refine (len_any q sv7 _ w8 Hw8.out).mono ?_
                  rw [← HL.out]
                  rintro e w9 ⟨rfl, rfl⟩
                  refine hK _ _ (Fr.refl _ _) ?_
                  clear hK K
                  repeat (refine wpT_take (v := ?_) rfl rfl (fun x hx => ?_) ?_; rotate_left; (focus (go_simp; with_reducible rfl)); simp only [Act.put, List.setIfInBounds_toArray, List.set_cons_zero, List.set_cons_succ])
                  unfold wpT
                  go_wp2
                  go_roundg (len1 - (i + 1))
                  case rel => exact ⟨i + 1, bl8, sv7, _, rfl, by omega, by go_num, by rw [← HL.out]; exact hbl8, Hw8.out, Hv8.out, Hnw7.out, Hn8.out, Hf8.out⟩
                  case measure => rw [Hg.out]; omega
              · have hd : decide ((0 : Int) < (m : Int)) = false := decide_eq_false (by omega)
                have hmz : m = 0 := by omega
                have Hz : Hid (-9223372036854775808 ≤ x ∧ x ≤ 9223372036854775807) := hxb
                clear hxb
                go_wp2
                clear cx1 hd tm em hmz
                obtain ⟨z, hz⟩ : ∃ z, z = x := ⟨_, rfl⟩
                subst hz
                refine wp_region_tree (fun k => foot q sv k ∨ foot qv rv k) (.take 0 (.take 1 (.take 2 (.take 4 (.take 5 (.take 6 (.one 3 (.one 7 (.take 8 (.take 9 (.take 10 (.take 12 (.take 13 (.take 14 (.two 11 (.one 15 (.take 16 (.take 17 (.take 18 .nil)))) 15 (.take 16 (.one 11 (.take 17 (.take 18 .nil))))))))))))))))))) (by kernel_rfl) (by kernel_rfl) (by decide) (by kernel_rfl) ?_
                repeat (refine wpT_take (v := ?_) rfl rfl (fun x hx => ?_) ?_; rotate_left; (focus (go_simp; with_reducible rfl)); simp only [Act.put, List.setIfInBounds_toArray, List.set_cons_zero, List.set_cons_succ])
                refine wpT_one rfl rfl (fun K hK => ?_)
                go_simp
                refine (M.put p q sv bl _ F z wr.drew (M.frame Ht4.out Hf.out.drew (fun _ _ h => h)) HRb.out Hw.out (by omega) (fun k hk h => by have := HF4.out k hk; have := Hnw.out k h; omega) Hz.out.1 Hz.out.2).mono ?_
                rw [Hnat.out]
                rintro e w7 ⟨rfl, sv7, hw7, hf7, hm7⟩
                refine hK _ _ (hf7.mono (fun _ _ h => .inl h)) ?_
                clear hK K
                have hv7 : RefWr w7 qv rv bl := RefWr.frame (w := wr.drew) Hv.out hf7 (fun k h1 h2 => writers_apart Hw.out Hv.out k h2 h1)
                have hnw7 := Newer.moved Hnw.out hm7 (show w4.heap.size ≤ wr.drew.heap.size from Hf.out.size)
                have hfw7 : Fr w4 w7 (fun _ => False) := Hf.out.drew.newer hf7 Hnw.out
                have hrz7 := Hrx4.out.keep hfw7
                clear hf7 hm7
                refine wpT_one rfl rfl (fun K hK => ?_)
                go_simp
                refine (refPutCode_any qv rv bl _ _ z w7 hv7 (by omega) hrz7 HRb.out (fun k hk h => by have := Hax.out k hk; have := Hnv.out k h; omega)).mono ?_
                rw [Hnat.out]
                rintro e w8 ⟨rfl, rv8, hv8, hf8, hm8⟩
                refine hK _ _ (hf8.mono (fun _ _ h => .inr h)) ?_
                clear hK K
                have hw8 : Wr w8 q sv7 (bl ++ codeBits l z) := hw7.frame hf8 (fun k h1 h2 => writers_apart hw7 hv7 k h1 h2)
                have hn8 := Newer.moved Hnv.out hm8 hfw7.size
                have hfw8 : Fr w4 w8 (fun _ => False) := hfw7.newer hf8 Hnv.out
                have hbl8 : (bl ++ codeBits l z).length ≤ 15 * (i + 1) := by
                  have := codeBits_len l HR.out.ln z
                  rw [List.length_append]
                  omega
                obtain ⟨ra, rc, hrve⟩ : ∃ a c, rv8 = .slice a (bl ++ codeBits l z).length c := by
                  rcases hv8.2.2 with ⟨h1, h2⟩ | ⟨g, cap, cur, h1, -⟩
                  · exact ⟨_, _, by rw [h1, h2]⟩
                  · exact ⟨_, _, h1⟩
                generalize bl ++ codeBits l z = bl8 at hv8 hw8 hbl8 hrve
                obtain ⟨L, hL⟩ : ∃ L, L = bl8.length := ⟨_, rfl⟩
                rw [← hL] at hrve hbl8
                subst hrve
                have cB : w8.cell? ⟨qv, 0, none⟩ = some (.slice ra L rc) := by simp [World.cell?, hv8.1]
                have Hw8 : Hid (Wr w8 q sv7 bl8) := hw8
                have Hv8 : Hid (RefWr w8 qv (.slice ra L rc) bl8) := hv8
                have Hn8 : Hid _ := hn8
                have Hnw7 : Hid _ := hnw7
                have Hf8 : Hid (Fr w4 w8 (fun _ => False)) := hfw8
                have HL : Hid _ := hL
                clear hw8 hv8 hn8 hnw7 hfw8 hL hw7 hv7 hfw7 hrz7 hf8 hm8
                generalize hasCode l z = hc
                repeat (refine wpT_take (v := ?_) rfl rfl (fun x hx => ?_) ?_; rotate_left; (focus (go_simp; with_reducible rfl)); simp only [Act.put, List.setIfInBounds_toArray, List.set_cons_zero, List.set_cons_succ])
                refine wpT_two rfl rfl rfl rfl (fun K hK => ?_) (fun K hK => ?_)
                · go_simp
                  refine (len_any q sv7 _ w8 Hw8.out).mono ?_
                  rw [← HL.out]
                  rintro e w9 ⟨rfl, rfl⟩
                  refine hK _ _ (Fr.refl _ _) ?_
                  clear hK K
                  refine wpT_one rfl rfl (fun K hK => ?_)
                  go_simp
                  refine hK _ _ (Fr.refl _ _) ?_
                  clear hK K
                  repeat (refine wpT_take (v := ?_) rfl rfl (fun x hx => ?_) ?_; rotate_left; (focus (go_simp; with_reducible rfl)); simp only [Act.put, List.setIfInBounds_toArray, List.set_cons_zero, List.set_cons_succ])
                  unfold wpT
                  go_wp2
                  go_roundg (len1 - (i + 1))
                  case rel => exact ⟨i + 1, bl8, sv7, _, rfl, by omega, by go_num, by rw [← HL.out]; exact hbl8, Hw8.out, Hv8.out, Hnw7.out, Hn8.out, Hf8.out⟩
                  case measure => rw [Hg.out]; omega
                · go_simp
                  refine hK _ _ (Fr.refl _ _) ?_
                  clear hK K
                  repeat (refine wpT_take (v := ?_) rfl rfl (fun x hx => ?_) ?_; rotate_left; (focus (go_simp; with_reducible rfl)); simp only [Act.put, List.setIfInBounds_toArray, List.set_cons_zero, List.set_cons_succ])
                  refine wpT_one rfl rfl (fun K hK => ?_)
                  go_simp
                  refine (len_any q sv7 _ w8 Hw8.out).mono ?_
                  rw [← HL.out]
                  rintro e w9 ⟨rfl, rfl⟩
                  refine hK _ _ (Fr.refl _ _) ?_
                  clear hK K
                  repeat (refine wpT_take (v := ?_) rfl rfl (fun x hx => ?_) ?_; rotate_left; (focus (go_simp; with_reducible rfl)); simp only [Act.put, List.setIfInBounds_toArray, List.set_cons_zero, List.set_cons_succ])
                  unfold wpT
                  go_wp2
                  go_roundg (len1 - (i + 1))
                  case rel => exact ⟨i + 1, bl8, sv7, _, rfl, by omega, by go_num, by rw [← HL.out]; exact hbl8, Hw8.out, Hv8.out, Hnw7.out, Hn8.out, Hf8.out⟩
                  case measure => rw [Hg.out]; omega
            · have hi1 : ¬ (i : Int) < (len1 : Int) := by omega
              clear Hax
              go_wp2
              refine wp_region_tree (fun _ => False) (.take 0 (.take 3 (.one 1 (.take 2 (.one 4 (.take 5 (.take 6 .nil))))))) (by kernel_rfl) (by kernel_rfl) (by decide) (by kernel_rfl) ?_
              repeat (refine wpT_take (v := ?_) rfl rfl (fun x hx => ?_) ?_; rotate_left; (focus (go_simp; with_reducible rfl)); simp only [Act.put, List.setIfInBounds_toArray, List.set_cons_zero, List.set_cons_succ])
              refine wpT_one rfl rfl (fun K hK => ?_)
              go_simp
              refine (bytesP_any q sv bl wr.drew Hw.out.drew (by omega)).mono ?_
              rintro e w7 ⟨v7, rfl, hv7, -, hf7⟩
              refine hK _ _ hf7 ?_
              clear hK K
              have hr7 : RefWr w7 qv rv bl := RefWr.frame (w := wr.drew) Hv.out hf7 (fun _ _ h => h)
              have hc7 : ∀ x, Fr w7 x (fun _ => False) → (convert 34 9 v7).run Try.prog x = .ok (.string (strOf (pack bl))) x := fun x hx => conv_rds (hv7.reads.frame hx (fun _ _ h => h))
              have hfw7 : Fr w4 w7 (fun _ => False) := Hf.out.drew.none hf7
              generalize hS : strOf (pack bl) = S at hc7
              repeat (refine wpT_take (v := ?_) rfl rfl (fun x hx => ?_) ?_; rotate_left; (focus (go_simp; with_reducible rfl)); simp only [Act.put, List.setIfInBounds_toArray, List.set_cons_zero, List.set_cons_succ])
              refine wpT_one rfl rfl (fun K hK => ?_)
              go_simp
              refine (refBytes_any qv rv bl w7 hr7 (by omega)).mono ?_
              rintro e w8 ⟨v8, rfl, hv8, hr8, hf8⟩
              refine hK _ _ hf8 ?_
              clear hK K
              have hc8 : ∀ x, Fr w8 x (fun _ => False) → (convert 34 9 v8).run Try.prog x = .ok (.string S) x := fun x hx => by rw [← hS]; exact conv_rds (hv8.reads.frame hx (fun _ _ h => h))
              have hfw8 : Fr w4 w8 (fun _ => False) := hfw7.none hf8
              clear hc7
              repeat (refine wpT_take (v := ?_) rfl rfl (fun x hx => ?_) ?_; rotate_left; (focus (go_simp; with_reducible rfl)); simp only [Act.put, List.setIfInBounds_toArray, List.set_cons_zero, List.set_cons_succ])
              unfold wpT
              have Hr8 : Hid (RefWr w8 qv rv bl) := hr8
              have Hf8 : Hid (Fr w4 w8 (fun _ => False)) := hfw8
              clear hc8 hS hr8 hfw8 hfw7 hr7 hv7 hv8 hf7 hf8
              go_wp2_with fail
              refine (refBytes_any qv rv bl w8 Hr8.out (by omega)).mono ?_
              rintro e w9 ⟨v9, rfl, hv9, -, hf9⟩
              have hfw9 : Fr w4 w9 (fun _ => False) := Hf8.out.none hf9
              have hrds9 := hv9.reads
              have hlt9 := Fresh.lt hv9
              obtain ⟨g9, hv9e, -⟩ := hv9
              have hpl := length_pack bl
              have hsm9 := (packs_pack bl).small
              generalize pack bl = pb at hv9e hrds9 hpl hsm9
              obtain ⟨PL, hPL⟩ : ∃ n, n = pb.length := ⟨_, rfl⟩
              rw [← hPL] at hv9e hpl
              subst hv9e
              have Hrds9 : Hid (Rds w9 (.slice (some ⟨g9, 0, none⟩) PL PL) pb) := hrds9
              have Hlt9 : Hid _ := hlt9
              have Hsm9 : Hid _ := hsm9
              have HPL : Hid _ := hPL
              have Hf9 : Hid (Fr w4 w9 (fun _ => False)) := hfw9
              have hPLb : PL ≤ 1000 := by omega
              clear hrds9 hlt9 hsm9 hPL hfw9 hf9 hpl Hr8 Hf8
              have HyR : Hid (Rds w9 (.slice a2 len2 cap2) ys) := (Hry.out.keep (hf4.none Hf9.out)).rds
              go_wp2
              have Hf10 : Hid (Fr w4 (w9.alloc (.cells #[.slice a2 len2 cap2, .slice (some ⟨g9, 0, none⟩) PL PL] 34)) (fun _ => False)) := Hf9.out.alloc _
              have Hys : Hid (∀ i, i < 2 → ∃ a n c bs, (∀ x, Fr (w9.alloc (.cells #[.slice a2 len2 cap2, .slice (some ⟨g9, 0, none⟩) PL PL] 34)) x (fun _ => False) → x.cell? ⟨w9.heap.size, i, none⟩ = some (.slice a n c)) ∧ Rds (w9.alloc (.cells #[.slice a2 len2 cap2, .slice (some ⟨g9, 0, none⟩) PL PL] 34)) (.slice a n c) bs ∧ bs.length ≤ 1000 ∧ (∀ j, bs.getD j 0 < 256)) := fun i hi => by
                have hb := heap_alloc_new w9 (.cells #[.slice a2 len2 cap2, .slice (some ⟨g9, 0, none⟩) PL PL] 34)
                have kf : ∀ v, Rds w9 v ys → Rds (w9.alloc (.cells #[.slice a2 len2 cap2, .slice (some ⟨g9, 0, none⟩) PL PL] 34)) v ys := fun v h => h.frame ((Fr.refl w9 (fun _ => False)).alloc _) (fun _ _ h => h)
                match i, hi with
                | 0, _ => exact ⟨a2, len2, cap2, ys, fun x hx => two_cell0 (hx.kept hb (fun h => h)), kf _ HyR.out, by rw [Hyl.out]; omega, Hyy.out⟩
                | 1, _ => exact ⟨_, _, _, pb, fun x hx => two_cell1 (hx.kept hb (fun h => h)), Hrds9.out.frame ((Fr.refl w9 (fun _ => False)).alloc _) (fun _ _ h => h), by rw [← HPL.out]; omega, Hsm9.out⟩
              generalize w9.alloc (.cells #[.slice a2 len2 cap2, .slice (some ⟨g9, 0, none⟩) PL PL] 34) = wA at *
              obtain ⟨gA, hgA⟩ : ∃ g, g = w9.heap.size := ⟨_, rfl⟩
              rw [← hgA] at Hys ⊢
              clear hgA HyR Hrds9 Hlt9 Hsm9 HPL Hf9
              have Hax : Hid (∀ k, (Value.slice ax N cx).ownBlock = some k → k < w4.heap.size) := fun k hk => by
                obtain ⟨bx, ox, e, kx⟩ := cell_ln Hrx4.out HN.out 0 hN1
                rw [e] at hk
                simp [Value.ownBlock] at hk
                subst hk
                exact World.block_lt_of_cell? _ _ (kx _ (Fr.refl _ _))
              have Hac : Hid (∀ k, (Value.slice ac N cc).ownBlock = some k → k < w4.heap.size) := fun k hk => by
                obtain ⟨bx, ox, e, kx⟩ := cell_code Hrc4.out 0 hN1
                rw [e] at hk
                simp [Value.ownBlock] at hk
                subst hk
                exact World.block_lt_of_cell? _ _ (kx _ (Fr.refl _ _))
              go_loopg [110] 2 (fun g I wi => ∃ i : Nat, g = 2 - i ∧ i ≤ 2 ∧ I = .int .i64 (i : Int) ∧ Fr wA wi (fun _ => False))
              case atStart => exact ⟨0, rfl, by omega, rfl, Fr.refl _ _⟩
              case round =>
                obtain ⟨o, hgo, ho, rfl, hfo⟩ := hrel
                have Hgo : Hid _ := hgo
                have Hfo : Hid (Fr wA wr (fun _ => False)) := hfo
                clear hgo hfo
                by_cases hlt2 : o < 2
                · obtain ⟨ay, ny, cy, bs, ky, hrd, hbl, hsm⟩ := Hys.out o hlt2
                  have cyy := ky _ Hfo.out
                  have ho1 : (o : Int) < 2 := by omega
                  have Hrd1 : Hid (Rds wr (.slice ay ny cy) bs) := hrd.frame Hfo.out (fun _ _ h => h)
                  have Hbl1 : Hid _ := hbl
                  have Hsm1 : Hid _ := hsm
                  clear ky hrd hbl hsm
                  go_wp2_with fail
                  refine (newReader_any _ bs wr Hrd1.out (by have := Hbl1.out; omega) Hsm1.out).mono ?_
                  rintro e wB ⟨r, svr, rfl, hrB, hfB, hnB⟩
                  have HrB : Hid (Rd 76 wB r svr bs 0) := hrB
                  have HfB : Hid (Fr wr wB (fun _ => False)) := hfB
                  have HnB : Hid (∀ k, foot r svr k → wr.heap.size ≤ k) := hnB
                  clear hrB hfB hnB cyy
                  go_wp2
                  obtain ⟨s2, hs2⟩ : ∃ s, s = wB.heap.size := ⟨_, rfl⟩
                  rw [← hs2]
                  have HrC : Hid (Rd 76 (wB.alloc (.cells #[.slice ay ny cy, .int .i64 0] 51)) r svr bs 0) := HrB.out.frame ((Fr.refl wB (fun _ => False)).alloc _) (fun _ _ h => h)
                  have HfC : Hid (Fr wr (wB.alloc (.cells #[.slice ay ny cy, .int .i64 0] 51)) (fun _ => False)) := HfB.out.alloc _
                  have Hylt : Hid (0 < bs.length → ∀ k, (Value.slice ay ny cy).ownBlock = some k → k < wr.heap.size) := rds_lt Hrd1.out
                  have HsC : Hid (Rd 51 (wB.alloc (.cells #[.slice ay ny cy, .int .i64 0] 51)) s2 (.slice ay ny cy) bs 0) := ⟨by rw [hs2]; exact heap_alloc_new wB _, Hrd1.out.frame HfC.out (fun _ _ h => h), by omega, by have := Hbl1.out; omega, Hsm1.out, fun h0 e => by have := Hylt.out h0 _ e; have := HfB.out.size; omega⟩
                  have Hrl2 : Hid (0 < bs.length → ∀ k, svr.ownBlock = some k → k < s2) := fun h0 k hk => by rw [hs2]; exact rds_lt HrB.out.2.1 h0 k hk
                  have Hrs : Hid (r < s2) := by show _ < _; rw [hs2]; exact lt_of_block HrB.out.1
                  have Hsw : Hid (wr.heap.size ≤ s2) := by show _ ≤ _; have := HfB.out.size; omega
                  generalize wB.alloc (.cells #[.slice ay ny cy, .int .i64 0] 51) = wC at *
                  clear hs2 HrB HfB Hrd1
                  have Hwo : Hid (w4.heap.size ≤ wr.heap.size) := by show _ ≤ _; have := Hf10.out.size; have := Hfo.out.size; omega
                  generalize hwo : wr = wO at *
                  clear hwo
                  go_loopg [21] 40 (fun g J wi => ∃ (j pos : Nat), g = 40 - j ∧ j ≤ 40 ∧ J = .int .i64 (j : Int) ∧ Rd 76 wi r svr bs pos ∧ Rd 51 wi s2 (.slice ay ny cy) bs pos ∧ Fr wO wi (fun _ => False))
                  case atStart => exact ⟨0, 0, rfl, by omega, rfl, HrC.out, HsC.out, HfC.out⟩
                  case round =>
                    obtain ⟨j, pos, hgj, hj, rfl, hr, hs, hf⟩ := hrel
                    have Hgj : Hid _ := hgj
                    have Hr : Hid (Rd 76 wr r svr bs pos) := hr
                    have Hs : Hid (Rd 51 wr s2 (.slice ay ny cy) bs pos) := hs
                    have Hff : Hid (Fr wO wr (fun _ => False)) := hf
                    clear hgj hr hs hf
                    by_cases hj40 : j < 40
                    · have hj1 : (j : Int) < 40 := by omega
                      have hfr4 : Fr w4 wr (fun _ => False) := (Hf10.out.none Hfo.out).none Hff.out
                      go_wp2_with fail
                      refine (M.take p r svr bs pos _ F wr (M.frame Ht4.out hfr4 (fun _ _ h => h)) HRb.out Hr.out (fun k hk h => by have := HF4.out k hk; have := HnB.out k h; have := Hwo.out; omega)).mono ?_
                      rw [Hnat.out]
                      rintro e wD ⟨rfl, hrD, hfD⟩
                      have hsD : Rd 51 wD s2 (.slice ay ny cy) bs pos := Hs.out.frame' hfD (fun h => by have := Hrs.out; omega) (fun h0 k hk h => by have := Hylt.out h0 k hk; have := HnB.out r (.inl rfl); omega)
                      have hffD : Fr wO wD (fun _ => False) := Hff.out.newer1 hfD (HnB.out r (.inl rfl))
                      have hfr4D : Fr w4 wD (fun _ => False) := (Hf10.out.none Hfo.out).none hffD
                      have HrD : Hid (Rd 76 wD r svr bs (pos + tkN l ((unpack bs).drop pos))) := hrD
                      clear hfr4 hfD hrD
                      go_wp2_with fail
                      refine (refTakeCode_any s2 _ bs pos _ _ (l.map fun (n : Nat) => (n : Int)) wD hsD (Hrx4.out.keep hfr4D) (rightB_in HRb.out) (by rw [List.length_map, ← HN.out]; omega) (by rw [List.length_map, Hnat.out, ← HN.out]; exact Hrc4.out.keep hfr4D) (fun k hk => by have := Hax.out k hk; have := Hwo.out; have := Hsw.out; omega) (fun k hk => by have := Hac.out k hk; have := Hwo.out; have := Hsw.out; omega)).mono ?_
                      rw [Hnat.out]
                      rintro e wE ⟨rfl, hsE, hfE⟩
                      have hrE : Rd 76 wE r svr bs (pos + tkN l ((unpack bs).drop pos)) := HrD.out.frame' hfE (fun h => by have := Hrs.out; omega) (fun h0 k hk h => by have := Hrl2.out h0 k hk; omega)
                      have hffE : Fr wO wE (fun _ => False) := hffD.newer1 hfE Hsw.out
                      have HsE : Hid (Rd 51 wE s2 (.slice ay ny cy) bs (pos + tkN l ((unpack bs).drop pos))) := hsE
                      have HrE : Hid (Rd 76 wE r svr bs (pos + tkN l ((unpack bs).drop pos))) := hrE
                      have HfE : Hid (Fr wO wE (fun _ => False)) := hffE
                      clear hsD hffD hfr4D HrD hsE hrE hfE hffE
                      generalize tkS l ((unpack bs).drop pos) = S1
                      generalize tkB l ((unpack bs).drop pos) = B1
                      generalize pos + tkN l ((unpack bs).drop pos) = pos2 at HsE HrE
                      go_wp2_with fail
                      refine (left_fr r svr bs pos2 wE HrE.out).mono ?_
                      rintro e wG ⟨rfl, hrG, hfG⟩
                      have hsG := HsE.out.frame hfG (fun _ _ h => h)
                      have hffG := HfE.out.none hfG
                      have HrG : Hid (Rd 76 wG r svr bs pos2) := hrG
                      clear hrG hfG
                      go_wp2_with fail
                      refine (refLeft_fr s2 _ bs pos2 wG hsG).mono ?_
                      rintro e wH ⟨rfl, hsH, hfH⟩
                      have HrH : Hid (Rd 76 wH r svr bs pos2) := HrG.out.frame hfH (fun _ _ h => h)
                      have HsH : Hid (Rd 51 wH s2 (.slice ay ny cy) bs pos2) := hsH
                      have HfH : Hid (Fr wO wH (fun _ => False)) := hffG.none hfH
                      clear hsH hfH hsG hffG
                      generalize 8 * bs.length - pos2 = lf
                      go_wp2
                      go_roundg (40 - (j + 1))
                      case rel => exact ⟨j + 1, pos2, rfl, by omega, by go_num, HrH.out, HsH.out, HfH.out⟩
                      case measure => rw [Hgj.out]; omega
                    · have hj1 : ¬ (j : Int) < 40 := by omega
                      have hfo2 : Fr wA wr (fun _ => False) := Hfo.out.none Hff.out
                      have Hfo2 : Hid _ := hfo2
                      clear hfo2
                      go_wp2
                      go_roundg (2 - (o + 1))
                      case rel => exact ⟨o + 1, rfl, by omega, by go_num, Hfo2.out⟩
                      case measure => rw [Hgo.out]; omega
                · have ho1 : ¬ (o : Int) < 2 := by omega
                  have hfo2 := (hf4.none Hf10.out).none Hfo.out
                  go_wp2
                  go_ret
                  exact ⟨rfl, hfo2.below (Nat.le_refl _) (fun k h => h.elim)⟩

end Go.Proofs.Ytdbbngppdcpcgaa.codePlays

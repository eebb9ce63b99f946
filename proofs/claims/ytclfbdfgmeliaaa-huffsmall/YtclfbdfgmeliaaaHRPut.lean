/-
  The contract of the reference's Put of bytes.
-/
import Derived.Test.YtclfbdfgmeliaaaHRCnt
import Derived.Test.YtclfbdfgmeliaaaRLens
import Derived.Test.YtclfbdfgmeliaaaVRefPut
import Derived.Test.YtclfbdfgmeliaaaBRefPut
import Derived.Test.YtclfbdfgmeliaaaBRefBytes
import Derived.Test.YtclfbdfgmeliaaaTree
namespace Go.Proofs.Ytclfbdfgmeliaaa
open Go.RowKit

theorem lensB_of (bs : List Nat) (hl : bs.length ≤ 1000000) : pmLens (((cntB bs).map fun (b : Nat) => (b : Int)).map clampN) (clampM 15) = lensB bs := by
  unfold lensB
  congr 1
  rw [List.map_map]
  conv => rhs; rw [← List.map_id (cntB bs)]
  apply List.map_congr_left
  intro c hc
  obtain ⟨s, -, rfl⟩ := List.mem_map.1 hc
  have : bs.count s ≤ bs.length := List.count_le_length
  simp only [Function.comp, id]
  unfold clampN
  omega
theorem Fresh.own {w w' : World} {v : Value} {bs : List Nat} (h : Fresh w w' v bs) : Own w' v bs := by
  obtain ⟨g, rfl, ho, -⟩ := h
  exact ho
theorem rowsTo_small (l : List Nat) (h15 : ∀ s, ln l s ≤ 15) : ∀ s, s ≤ 256 → (encs (rowsTo l s)).length ≤ 768 := fun s hs => by
  have := rows_few l h15 s hs
  have := someTo_le l s
  omega

set_option maxRecDepth 4000 in
set_option maxHeartbeats 1600000 in
theorem refHPut_any (v : Value) (bs : List Nat) (w : World) (h : Reads .u8 w v bs) (hb : ∀ x ∈ bs, x < 256) (hl : bs.length ≤ 1000000) :
    Calls Try.prog 10 #[v] w fun e w' => ∃ sv, e = .returned sv ∧ Own w' sv (hput bs) ∧ Fr w w' (fun _ => False) ∧ (∀ k, sv.ownBlock = some k → w.heap.size ≤ k) := by
  obtain ⟨a0, c0, rfl, hc0, -⟩ := id h
  rw [length_row] at h hc0 ⊢
  obtain ⟨n, hn⟩ : ∃ n, n = bs.length := ⟨_, rfl⟩
  rw [← hn] at h hl hc0 ⊢
  have Hr : Hid (Reads .u8 w (.slice a0 n c0) bs) := h
  have Hn : Hid _ := hn
  have Hb : Hid _ := hb
  clear h hn hb
  have wn : IntKind.u64.wrap (n : Int) = (n : Int) := by rw [IntKind.wrap_u64]; omega
  go_enter Try.func10, Try.ntmps10
  go_wp2_with fail
  refine (vrefPut_any _ [n] _ (holds_lit w 42 [.int .u64 (n : Int)] (by simp)) (by simp; omega) (by simp)).mono ?_
  rintro e w1 ⟨s1, rfl, ho1, hf1, hn1⟩
  have hf1' : Fr w w1 (fun _ => False) := ((Fr.refl w (fun _ => False)).alloc _).none hf1
  have hn1' : ∀ k, s1.ownBlock = some k → w.heap.size ≤ k := fun k hk => by have := hn1 k hk; simp at this; omega
  have e1 : encs [n] = enc n := by simp [encs]
  rw [e1] at ho1
  have Ho1 : Hid (Own w1 s1 (enc n)) := ho1
  have Hf1 : Hid (Fr w w1 (fun _ => False)) := hf1'
  have Hn1 : Hid _ := hn1'
  clear ho1 hf1 hf1' hn1 hn1' e1 wn
  by_cases h0 : n = 0
  · subst h0
    have Hres : Hid (hput bs = enc 0) := by
      show _ = _
      have e : bs = [] := List.eq_nil_of_length_eq_zero Hn.out.symm
      subst e
      unfold hput
      simp
    go_wp2_with fail
    go_ret
    exact ⟨_, rfl, by rw [Hres.out]; exact Ho1.out, Hf1.out, Hn1.out⟩
  · have hn2 : ((n : Int) == 0) = false := by rw [beq_eq_false_iff_ne]; omega
    have h0n : 0 < n := by omega
    have hne : bs ≠ [] := fun e => by have := Hn.out; rw [e] at this; simp at this; omega
    have Hput : Hid (hput bs = enc n ++ (headOf (lensB bs) ++ pack (bitsOf (lensB bs) bs))) := by show _ = _; unfold hput; rw [if_neg hne, ← Hn.out]
    have HR : Hid (RightL (lensB bs)) := lensB_right bs Hb.out hne
    have H15 : Hid (∀ s, ln (lensB bs) s ≤ 15) := lnB_15 bs
    have Hll : Hid ((lensB bs).length = 256) := lensB_len bs
    clear hne
    go_wp2_with fail
    refine (refCounts_any _ bs w1 (Hr.out.keep Hf1.out) Hb.out (by rw [← Hn.out]; omega)).mono ?_
    rintro e w2 ⟨sc, rfl, hrc, hf2, -⟩
    go_wp2_with fail
    refine (refLens_own sc _ 15 w2 hrc.z (by decide) (by decide)).mono ?_
    rw [lensB_of bs (by rw [← Hn.out]; exact hl)]
    rintro e w3 ⟨sl, rfl, hol, hf3, hnl⟩
    have hrl := hol.reads
    have hf3' := (Hf1.out.none hf2).none hf3
    have HS1 : Hid (∀ k, s1.ownBlock = some k → k < w2.heap.size) := fun k hk => by have := Ho1.out.lt k hk; have := hf2.size; omega
    have ho13 : Own w3 s1 (enc n) := Ho1.out.frame (hf2.none hf3) (fun _ _ h => h)
    generalize lensB bs = l at Hput HR H15 Hll hrl
    obtain ⟨al, cl, hsl, hcl, -⟩ := id hrl
    rw [length_row, Hll.out] at hsl hcl
    subst hsl
    have Hrl : Hid (Reads .i64 w3 (.slice al 256 cl) l) := hrl
    have HnL : Hid (∀ k, (Value.slice al 256 cl).ownBlock = some k → w2.heap.size ≤ k ∧ k < w3.heap.size) := fun k hk => ⟨hnl k hk, hol.lt k hk⟩
    have Hf3 : Hid (Fr w w3 (fun _ => False)) := hf3'
    have Ho3 : Hid (Own w3 s1 (enc n)) := ho13
    clear hrc hf2 hol hnl hf3 hrl hf3' ho13 Ho1
    go_wp2_with fail
    go_loopg [5, 6, 7, 8] 256 (fun g' Nn La Rw S wi => ∃ s : Nat, g' = 256 - s ∧ s ≤ 256 ∧ S = .int .i64 (s : Int) ∧ Nn = .int .i64 ((someTo l s : Nat) : Int) ∧ La = .int .i64 ((nextTo l s : Nat) - 1 : Int) ∧ Own wi Rw (encs (rowsTo l s)) ∧ (∀ k, Rw.ownBlock = some k → w3.heap.size ≤ k) ∧ Fr w3 wi (fun _ => False))
    case atStart => exact ⟨0, rfl, by omega, rfl, rfl, rfl, Own.nil _, fun k hk => by simp [Value.ownBlock] at hk, Fr.refl _ _⟩
    case round =>
      obtain ⟨s, hg', hs, rfl, rfl, rfl, ho, hnw, hf⟩ := hrel
      have Hg' : Hid _ := hg'
      have Ho : Hid (Own wr u7 (encs (rowsTo l s))) := ho
      have Hnw : Hid _ := hnw
      have Hf : Hid (Fr w3 wr (fun _ => False)) := hf
      clear hg' ho hnw hf
      obtain ⟨nx, hnx⟩ : ∃ nx, nx = nextTo l s := ⟨_, rfl⟩
      have hnxs : nx ≤ s := by rw [hnx]; exact nextTo_le l s
      obtain ⟨La, hLa⟩ : ∃ La : Int, La = (nx : Int) - 1 := ⟨_, rfl⟩
      rw [← hnx, ← hLa]
      have hsm := someTo_le l s
      obtain ⟨Nn, hNn⟩ : ∃ m, m = someTo l s := ⟨_, rfl⟩
      rw [← hNn] at hsm ⊢
      have HNn : Hid _ := hNn
      have Hnx : Hid _ := hnx
      have HLa : Hid _ := hLa
      clear hnx hLa hNn
      by_cases hlt : s < 256
      · obtain ⟨bl, ol, rfl, hbl, cy⟩ := (Hrl.out.keep Hf.out).at Hll.out.symm s hlt
        obtain ⟨y, hy⟩ : ∃ y, y = ln l s := ⟨_, rfl⟩
        rw [show l.getD s 0 = y from hy.symm] at cy
        have hy15 := H15.out s
        rw [← hy] at hy15
        have hs1 : (s : Int) < 256 := by omega
        have Hy : Hid _ := hy
        clear hy hbl
        by_cases hy0 : 0 < y
        · have hd : decide ((0 : Int) < (y : Int)) = true := decide_eq_true (by omega)
          obtain ⟨gp, hgp⟩ : ∃ gp, gp = s - nx := ⟨_, rfl⟩
          have q1 : (s : Int) - La = ((gp + 1 : Nat) : Int) := by rw [HLa.out]; omega
          have q1b : gp ≤ 255 := by omega
          have q2 : ((gp + 1 : Nat) : Int) - 1 = (gp : Int) := by omega
          have wg : IntKind.u64.wrap (gp : Int) = (gp : Int) := by rw [IntKind.wrap_u64]; omega
          have wy : IntKind.u64.wrap (y : Int) = (y : Int) := by rw [IntKind.wrap_u64]; omega
          have Hrow : Hid (encs (rowsTo l (s + 1)) = encs (rowsTo l s) ++ encs [gp, y]) := by
            show _ = _
            rw [rowsTo, if_pos (by rw [← Hy.out]; exact hy0), ← Hnx.out, ← hgp, ← Hy.out]
            simp [encs]
          have Hnn : Hid (someTo l (s + 1) = Nn + 1 ∧ nextTo l (s + 1) = s + 1) := by
            refine ⟨?_, ?_⟩
            · rw [someTo, if_pos (by rw [← Hy.out]; exact hy0), HNn.out]
            · rw [nextTo, if_pos (by rw [← Hy.out]; exact hy0)]
          have hwN : IntKind.i64.wrap ((Nn : Int) + 1) = ((Nn + 1 : Nat) : Int) := by rw [IntWalk.i64_in _ (by omega)]; omega
          clear hgp
          go_wp2_with fail
          refine (vrefPut_any _ [gp, y] _ (holds_lit wr 42 [.int .u64 (gp : Int), .int .u64 (y : Int)] (by simp)) (by simp; omega) (by simp)).mono ?_
          rintro e w4 ⟨s4, rfl, ho4, hf4, hn4⟩
          have hf4' : Fr wr w4 (fun _ => False) := ((Fr.refl wr (fun _ => False)).alloc _).none hf4
          have hoR : Own w4 u7 (encs (rowsTo l s)) := Ho.out.frame hf4' (fun _ _ h => h)
          have hle : (encs [gp, y]).length ≤ 20 := encs_le [gp, y] (by simp; omega)
          obtain ⟨v5, w5, hrun5, ho5, hf5, hm5, -⟩ := app_bytes w4 u7 s4 _ _ hoR ho4.reads (by have := rowsTo_small l H15.out s (by omega); omega)
          rw [← Hrow.out] at ho5
          have Ho5 : Hid (Own w5 v5 (encs (rowsTo l (s + 1)))) := ho5
          have Hnw5 : Hid (∀ k, v5.ownBlock = some k → w3.heap.size ≤ k) := fun k hk => by
            rcases hm5 k hk with h2 | h2
            · exact Hnw.out k h2
            · have := Hf.out.size; have := hf4'.size; omega
          have Hf5 : Hid (Fr w3 w5 (fun _ => False)) := (Hf.out.none hf4').newer hf5 Hnw.out
          clear ho4 hf4 hn4 hf4' hoR hle ho5 hf5 hm5
          go_wp2_with (at_builtin; refine wpList_append_run rfl (.tmp 33) (.tmp 45) 22 rfl rfl rfl hrun5 ?_)
          go_roundg (256 - (s + 1))
          case rel => exact ⟨s + 1, rfl, by omega, by go_num, by rw [Hnn.out.1]; first | rfl | (rw [← hwN]), by rw [Hnn.out.2]; congr 1; omega, Ho5.out, Hnw5.out, Hf5.out⟩
          case measure => rw [Hg'.out]; omega
        · have hd : decide ((0 : Int) < (y : Int)) = false := decide_eq_false (by omega)
          have Hnn : Hid (someTo l (s + 1) = Nn ∧ nextTo l (s + 1) = nx ∧ rowsTo l (s + 1) = rowsTo l s) := by
            refine ⟨?_, ?_, ?_⟩
            · rw [someTo, if_neg (by rw [← Hy.out]; exact hy0), HNn.out]
            · rw [nextTo, if_neg (by rw [← Hy.out]; exact hy0), Hnx.out]
            · rw [rowsTo, if_neg (by rw [← Hy.out]; exact hy0)]
          go_wp2_with fail
          go_roundg (256 - (s + 1))
          case rel => exact ⟨s + 1, rfl, by omega, by go_num, by rw [Hnn.out.1], by rw [Hnn.out.2.1, HLa.out], by rw [Hnn.out.2.2]; exact Ho.out, Hnw.out, Hf.out⟩
          case measure => rw [Hg'.out]; omega
      · obtain rfl : s = 256 := by omega
        have wN : IntKind.u64.wrap (Nn : Int) = (Nn : Int) := by rw [IntKind.wrap_u64]; omega
        go_wp2_with fail
        refine (vrefPut_any _ [Nn] _ (holds_lit wr 42 [.int .u64 (Nn : Int)] (by simp)) (by simp; omega) (by simp)).mono ?_
        rintro e w4 ⟨s4, rfl, ho4, hf4, hn4⟩
        have hf4' : Fr wr w4 (fun _ => False) := ((Fr.refl wr (fun _ => False)).alloc _).none hf4
        have hf34 : Fr w3 w4 (fun _ => False) := Hf.out.none hf4'
        have hoR : Own w4 u7 (encs (rowsTo l 256)) := Ho.out.frame hf4' (fun _ _ h => h)
        have hoS : Own w4 s1 (enc n) := Ho3.out.frame hf34 (fun _ _ h => h)
        have hs1lt := Ho3.out.lt
        have e1 : encs [Nn] = enc Nn := by simp [encs]
        rw [e1] at ho4
        have hel := enc_le n (by omega)
        have hel2 := enc_le Nn (by omega)
        obtain ⟨v5, w5, hrun5, ho5, hf5, hm5, -⟩ := app_bytes w4 s1 s4 _ _ hoS ho4.reads (by omega)
        have hoR5 : Own w5 u7 (encs (rowsTo l 256)) := hoR.frame hf5 (fun k hk h2 => by have := Hnw.out k hk; have := hs1lt k h2; omega)
        have hrs := rowsTo_small l H15.out 256 (Nat.le_refl _)
        obtain ⟨v6, w6, hrun6, ho6, hf6, hm6, -⟩ := app_bytes w5 v5 u7 _ _ ho5 hoR5.reads (by rw [List.length_append]; omega)
        have hn5 : ∀ k, v5.ownBlock = some k → w.heap.size ≤ k := fun k hk => by
          rcases hm5 k hk with h2 | h2
          · exact Hn1.out k h2
          · have := Hf3.out.size; have := hf34.size; omega
        have hn6 : ∀ k, v6.ownBlock = some k → w.heap.size ≤ k := fun k hk => by
          rcases hm6 k hk with h2 | h2
          · exact hn5 k h2
          · have := Hf3.out.size; have := hf34.size; have := hf5.size; omega
        have hf06 : Fr w w6 (fun _ => False) := ((Hf3.out.none hf34).newer hf5 Hn1.out).newer hf6 hn5
        have hrl5 : Reads .i64 w5 (.slice al 256 cl) l := (Hrl.out.keep hf34).frame hf5 (fun k hk h2 => by have := HnL.out k hk; have := HS1.out k h2; omega)
        have hrl6 : Reads .i64 w6 (.slice al 256 cl) l := hrl5.frame hf6 (fun k hk h2 => by
          have := HnL.out k hk
          rcases hm5 k h2 with h3 | h3
          · have := HS1.out k h3; omega
          · have := hf34.size; omega)
        have Hhead : Hid (enc n ++ enc Nn ++ encs (rowsTo l 256) = enc n ++ headOf l) := by show _ = _; unfold headOf; rw [← HNn.out, List.append_assoc]
        rw [Hhead.out] at ho6
        have Ho6 : Hid (Own w6 v6 (enc n ++ headOf l)) := ho6
        have Hn6 : Hid _ := hn6
        have Hf6 : Hid (Fr w w6 (fun _ => False)) := hf06
        have Hrl6 : Hid (Reads .i64 w6 (.slice al 256 cl) l) := hrl6
        have Hl6 : Hid (∀ k, (Value.slice al 256 cl).ownBlock = some k → k < w6.heap.size) := fun k hk => by have := HnL.out k hk; have := hf34.size; have := hf5.size; have := hf6.size; omega
        have Hv6 : Hid (∀ k, v6.ownBlock = some k → k < w6.heap.size) := ho6.lt
        clear ho4 hf4 hn4 hf4' hf34 hoR hoS hs1lt e1 hel hel2 ho5 hf5 hm5 hoR5 hrs ho6 hf6 hm6 hn5 hn6 hf06 hrl5 hrl6 Hhead
        go_wp2_with (at_builtin; first | refine wpList_append_run rfl (.tmp 50) (.tmp 54) 22 rfl rfl rfl hrun5 ?_ | refine wpList_append_run rfl (.tmp 55) (.tmp 56) 22 rfl rfl rfl hrun6 ?_)
        clear hrun5 hrun6
        obtain ⟨q, hq⟩ : ∃ q, q = w6.heap.size := ⟨_, rfl⟩
        rw [← hq]
        have hw7 : RefWr (w6.alloc (.cells #[.slice none 0 0] 47)) q (.slice none 0 0) [] := ⟨by rw [hq]; exact heap_alloc_new _ _, World.ownsRow_nil _ _ _ _⟩
        have hf7 : Fr w6 (w6.alloc (.cells #[.slice none 0 0] 47)) (fun _ => False) := (Fr.refl w6 _).alloc _
        generalize w6.alloc (.cells #[.slice none 0 0] 47) = w7 at *
        have hz7 : ReadsZ w7 (.slice al 256 cl) (l.map fun (b : Nat) => (b : Int)) := (Hrl6.out.keep hf7).z
        refine (refCodes_any _ _ w7 hz7).mono ?_
        rintro e w8 ⟨sc8, rfl, hrc8, hf8, hnc8⟩
        have hcz : codesZ (l.map fun (b : Nat) => (b : Int)) = fnRow 256 (codeOf l) := by
          unfold codesZ
          rw [if_pos ((right_of_nats l).2 HR.out), List.length_map, Hll.out]
          have : nats (l.map fun (b : Nat) => (b : Int)) = l := by
            unfold nats
            rw [List.map_map]
            conv => rhs; rw [← List.map_id l]
            apply List.map_congr_left
            intro m _
            simp
          rw [this]
          rfl
        rw [hcz] at hrc8
        obtain ⟨ac, cc, hsc, hcc, -⟩ := id hrc8
        rw [length_row, fnRow_length] at hsc hcc
        subst hsc
        have hf68 : Fr w6 w8 (fun _ => False) := hf7.none hf8
        have Hrc8 : Hid (Reads .i64 w8 (.slice ac 256 cc) (fnRow 256 (codeOf l))) := hrc8
        have Hrl8 : Hid (Reads .i64 w8 (.slice al 256 cl) l) := Hrl6.out.keep hf68
        have Hrb8 : Hid (Reads .u8 w8 (.slice a0 n c0) bs) := (Hr.out.keep Hf6.out).keep hf68
        have Hw8 : Hid (RefWr w8 q (.slice none 0 0) []) := hw7.frame hf8 (fun _ _ h => h)
        have Hf8 : Hid (Fr w6 w8 (fun _ => False)) := hf68
        have Hnq : Hid (Newer w6.heap.size q (.slice none 0 0)) := fun k hk => by
          rcases hk with rfl | hk
          · omega
          · simp [Value.ownBlock] at hk
        have Hac : Hid (∀ k, (Value.slice ac 256 cc).ownBlock = some k → q < k) := fun k hk => by
          have h1 := hnc8 k hk
          have h2 := lt_of_block hw7.1
          omega
        clear hw7 hf7 hz7 hrc8 hf8 hnc8 hcz hf68 wN
        have Hbq : Hid (∀ b off, a0 = some ⟨b, off, none⟩ → b < q) := fun b off e => by
          obtain ⟨b', off', e2, hb', -⟩ := Hr.out.at Hn.out 0 h0n
          rw [e] at e2
          simp only [Option.some.injEq, Addr.mk.injEq] at e2
          have := Hf6.out.size
          omega
        have Hlq : Hid (∀ k, (Value.slice al 256 cl).ownBlock = some k → k < q) := fun k hk => by have := Hl6.out k hk; omega
        have Hvq : Hid (∀ k, v6.ownBlock = some k → k < q) := fun k hk => by have := Hv6.out k hk; omega
        clear hq
        go_wp2_with fail
        go_loopg [11] n (fun g' I wi => ∃ (i : Nat) (sv : Value), g' = n - i ∧ i ≤ n ∧ I = .int .i64 (i : Int) ∧ RefWr wi q sv (bitsOf l (bs.take i)) ∧ (∀ k, sv.ownBlock = some k → w8.heap.size ≤ k) ∧ Fr w8 wi (fun k => k = q))
        case atStart => exact ⟨0, _, rfl, by omega, rfl, Hw8.out, fun k hk => by simp [Value.ownBlock] at hk, Fr.refl _ _⟩
        case round =>
          obtain ⟨i, sv, hg2, hi, rfl, hw, hsv, hf⟩ := hrel
          have Hg2 : Hid _ := hg2
          have Hw : Hid (RefWr wr q sv (bitsOf l (bs.take i))) := hw
          have Hsv : Hid _ := hsv
          have Hf9 : Hid (Fr w8 wr (fun k => k = q)) := hf
          have hbl : (bitsOf l (bs.take i)).length ≤ 15000000 := by
            have := bitsOf_le l (bs.take i) H15.out
            rw [List.length_take] at this
            omega
          clear hg2 hw hsv hf
          by_cases hlt : i < n
          · obtain ⟨bb, ob, hea, hbb, cb⟩ := Hrb8.out.at Hn.out i hlt
            have hbbq := Hbq.out bb ob hea
            subst hea
            obtain ⟨x, hx⟩ : ∃ x, x = bs.getD i 0 := ⟨_, rfl⟩
            have hx256 : x < 256 := by rw [hx]; exact Hb.out _ (getD_mem (by rw [← Hn.out]; exact hlt))
            have Hbits : Hid (bitsOf l (bs.take (i + 1)) = bitsOf l (bs.take i) ++ putBits (codeOf l x) (ln l x)) := by
              show _ = _
              rw [take_step (by rw [← Hn.out]; exact hlt), ← hx, bitsOf_append]
              simp [bitsOf]
            rw [← hx] at cb
            clear hx
            obtain ⟨bl, ol, hel, hbl2, cy⟩ := Hrl8.out.at Hll.out.symm x hx256
            have hblq := Hlq.out bl (by rw [hel]; rfl)
            subst hel
            obtain ⟨bc, oc, hec, hbc, cc1⟩ := Hrc8.out.at (by rw [fnRow_length]) x hx256
            have hbcq := Hac.out bc (by rw [hec]; rfl)
            subst hec
            rw [List.getD_eq_getElem?_getD, fnRow_get 256 _ x hx256, Option.getD_some] at cc1
            have hfx : ∀ z, Fr wr.drew z (foot q sv) → Fr w8 z (fun k => k = q) := fun z hz => Hf9.out.drew.trans hz (fun k hk ht => by
              rcases ht with h1 | h1
              · exact h1
              · have := Hsv.out k h1; omega)
            have kb : ∀ z, Fr wr.drew z (foot q sv) → z.cell? ⟨bb, ob + i, none⟩ = some (.int .u8 (x : Int)) := fun z hz => by
              rw [World.cell?_of_block (w := w8) ((hfx z hz).block bb hbb (fun e => by omega))]
              exact cb
            have kl : ∀ z, Fr wr.drew z (foot q sv) → z.cell? ⟨bl, ol + x, none⟩ = some (.int .i64 ((ln l x : Nat) : Int)) := fun z hz => by
              rw [World.cell?_of_block (w := w8) ((hfx z hz).block bl hbl2 (fun e => by omega))]
              exact cy
            have kc : ∀ z, Fr wr.drew z (foot q sv) → z.cell? ⟨bc, oc + x, none⟩ = some (.int .i64 ((codeOf l x : Nat) : Int)) := fun z hz => by
              rw [World.cell?_of_block (w := w8) ((hfx z hz).block bc hbc (fun e => by omega))]
              exact cc1
            have hy15 := H15.out x
            have hcb : codeOf l x < 32768 := by
              rcases Nat.eq_zero_or_pos (ln l x) with h1 | h1
              · unfold codeOf; rw [if_pos h1]; decide
              · exact Nat.lt_of_lt_of_le (code_lt HR.out.ln HR.out.kraft h1) (Nat.le_trans (Nat.pow_le_pow_right (by omega) (HR.out.ln x)) (by decide))
            generalize codeOf l x = C at Hbits kc hcb
            generalize ln l x = y at Hbits kl hy15
            have Hwy : Hid (wide (y : Int) = y) := by show _ = _; unfold wide; omega
            have hcw : IntKind.u64.wrap (C : Int) = (C : Int) := by rw [IntKind.wrap_u64]; omega
            have hi1 : (i : Int) < (n : Int) := by omega
            have hx1 : (x : Int) < 256 := by omega
            clear cb cy cc1 hfx hbb hbl2 hbc
            go_wp2
            refine wp_region_tree (foot q sv) (.take 0 (.take 1 (.take 2 (.take 3 (.take 4 (.take 5 (.take 6 (.take 7 (.take 8 (.take 9 (.take 10 (.take 11 (.take 12 (.take 13 (.take 14 (.take 15 (.one 16 .nil))))))))))))))))) (by kernel_rfl) (by kernel_rfl) (by decide) (by kernel_rfl) ?_
            repeat (refine wpT_take (v := ?_) rfl rfl (fun x hx => ?_) ?_; rotate_left; (focus (go_simp; with_reducible rfl)); simp only [Act.put, List.setIfInBounds_toArray, List.set_cons_zero, List.set_cons_succ])
            refine wpT_one rfl rfl (fun K hK => ?_)
            go_simp
            refine (refPut_any q sv _ C (y : Int) wr.drew Hw.out.drew (by omega) (by omega)).mono ?_
            rw [Hwy.out, ← Hbits.out]
            rintro e w9 ⟨rfl, sv9, hw9, hf9, hm9⟩
            refine hK _ _ hf9 ?_
            clear hK K kb kl kc
            unfold wpT
            have Hw9 : Hid (RefWr w9 q sv9 (bitsOf l (bs.take (i + 1)))) := hw9
            have Hsv9 : Hid (∀ k, sv9.ownBlock = some k → w8.heap.size ≤ k) := fun k hk => by
              rcases hm9 k hk with h1 | h1
              · exact Hsv.out k h1
              · exact Nat.le_trans Hf9.out.size h1
            have Hf10 : Hid (Fr w8 w9 (fun k => k = q)) := Hf9.out.drew.trans hf9 (fun k hk ht => by
              rcases ht with h1 | h1
              · exact h1
              · have := Hsv.out k h1; omega)
            clear hw9 hf9 hm9
            go_wp2
            go_roundg (n - (i + 1))
            case rel => exact ⟨i + 1, sv9, rfl, by omega, by go_num, Hw9.out, Hsv9.out, Hf10.out⟩
            case measure => rw [Hg2.out]; omega
          · have hi1 : ¬ (i : Int) < (n : Int) := by omega
            have hti : bs.take i = bs := List.take_of_length_le (by rw [← Hn.out]; omega)
            rw [hti] at Hw hbl
            clear hti
            go_wp2_with fail
            refine (refBytes_any q sv _ wr Hw.out (by omega)).mono ?_
            rintro e w9 ⟨v9, rfl, hv9, -, hf9⟩
            have hq8 : q < w8.heap.size := lt_of_block Hw8.out.1
            have ho9 : Own w9 v6 (enc n ++ headOf l) := ((Ho6.out.frame Hf8.out (fun _ _ h => h)).frame Hf9.out (fun k hk h2 => by have := Hvq.out k hk; omega)).frame hf9 (fun _ _ h => h)
            have hlp := length_pack (bitsOf l bs)
            have hlh : (enc n ++ headOf l).length ≤ 2000 := by
              have h1 := enc_le n (by omega)
              have h2 := rowsTo_small l H15.out 256 (Nat.le_refl _)
              have h3 := enc_le (someTo l 256) (by have := someTo_le l 256; omega)
              unfold headOf
              rw [List.length_append, List.length_append]
              omega
            obtain ⟨v10, w10, hrun10, ho10, hf10, hm10, -⟩ := app_bytes w9 v6 v9 _ _ ho9 hv9.own.reads (by omega)
            have Hres : Hid (Own w10 v10 (hput bs)) := by rw [Hput.out, ← List.append_assoc]; exact ho10
            have hf69 : Fr w6 w9 (fun _ => False) := (Hf8.out.newer Hf9.out (fun k hk => by rw [hk]; exact Hnq.out q (.inl rfl))).none hf9
            have Hfo : Hid (Fr w w10 (fun _ => False)) := (Hf6.out.none hf69).newer hf10 Hn6.out
            have Hno : Hid (∀ k, v10.ownBlock = some k → w.heap.size ≤ k) := fun k hk => by
              rcases hm10 k hk with h1 | h1
              · exact Hn6.out k h1
              · have := Hf6.out.size; have := hf69.size; omega
            clear hv9 ho9 hlp hlh ho10 hf10 hm10 hf9 hf69 hq8
            go_wp2_with (at_builtin; refine wpList_append_run rfl (.tmp 85) (.tmp 87) 22 rfl rfl rfl hrun10 ?_)
            go_ret
            exact ⟨_, rfl, Hres.out, Hfo.out, Hno.out⟩

end Go.Proofs.Ytclfbdfgmeliaaa

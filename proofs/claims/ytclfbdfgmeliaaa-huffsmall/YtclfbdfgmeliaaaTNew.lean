/-
  The contract of code.New.
-/
import Derived.Test.YtclfbdfgmeliaaaTTake
namespace Go.Proofs.Ytclfbdfgmeliaaa
open Go.RowKit

/-- A table of which only the counts are there. -/
def tab0 (g : Nat → Nat) : Nat → Nat := fun j => if 768 ≤ j ∧ j < 784 then g (j - 768) else 0
theorem built_table (g : Nat → Nat) : Try.prog.built 107 [(3, .agg (row .i64 (fnRow 16 g)).toArray)] = some (row .i64 (fnRow 800 (tab0 g))).toArray := by kernel_rfl
theorem wpList_build_is {P : Program} {ops : Array Oper} {rest : List Oper} {o : Oper} {a : Act} {w : World} {Q : Exit → Act → World → Prop} (hgd : o.guard = none) (t : TypeId) (parts : Array (Nat × Operand)) (ho : o.op = .build t parts)
    {vs : List (Nat × Value)} (hv : (parts.map fun (i, x) => (i, a.eval x)).toList = vs) {C : Array Value} (hb : P.built t vs = some C) (h : wpList P ops Q rest (a.put o.dst (.agg C)) w) : wpList P ops Q (o :: rest) a w := by
  refine wpList_build hgd t parts ho (by rw [hv, hb]; rfl) ?_
  rw [hv, hb]
  exact h
/-- A table whose order is known of the symbols below i. -/
structure TabTo (l : List Nat) (i : Nat) (f : Nat → Nat) : Prop where
  len : ∀ s, s < 256 → f s = ln l s
  code : ∀ s, s < 256 → f (256 + s) = codeOf l s
  ord : ∀ s, s < i → 0 < ln l s → f (512 + rk l s) = s
  cnt : ∀ n, n < 16 → f (768 + n) = cntOf l n
  fst : ∀ n, n < 16 → f (784 + n) = firstF (cntOf l) n
theorem TabTo.ok {l : List Nat} {f : Nat → Nat} (h : TabTo l l.length f) : TabOk l f := ⟨h.len, h.code, fun s hs => h.ord s (ln_lt hs) hs, h.cnt, h.fst⟩
theorem TabTo.skip {l : List Nat} {i : Nat} {f : Nat → Nat} (h : TabTo l i f) (h0 : ¬ 0 < ln l i) : TabTo l (i + 1) f :=
  ⟨h.len, h.code, fun s hs hp => h.ord s (Nat.lt_of_le_of_ne (by omega) (fun e => h0 (e ▸ hp))) hp, h.cnt, h.fst⟩
theorem TabTo.step {l : List Nat} {i : Nat} {f : Nat → Nat} (h : TabTo l i f) (h0 : 0 < ln l i) (hl : l.length ≤ 256) : TabTo l (i + 1) (upd f (512 + rk l i) i) := by
  have hk := rk_lt h0
  refine ⟨fun s hs => ?_, fun s hs => ?_, fun s hs hp => ?_, fun n hn => ?_, fun n hn => ?_⟩
  · unfold upd; rw [if_neg (by omega)]; exact h.len s hs
  · unfold upd; rw [if_neg (by omega)]; exact h.code s hs
  · unfold upd
    by_cases e : s = i
    · subst e; rw [if_pos rfl]
    · have := rk_ne h0 hp e
      rw [if_neg (by omega)]
      exact h.ord s (by omega) hp
  · unfold upd; rw [if_neg (by omega)]; exact h.cnt n hn
  · unfold upd; rw [if_neg (by omega)]; exact h.fst n hn

set_option maxRecDepth 4000 in
set_option maxHeartbeats 1600000 in
theorem newC_yes (v : Value) (zs : List Int) (w : World) (h : ReadsZ w v zs) (hr : rightB zs = true) :
    Calls Try.prog 38 #[v] w fun e w' => ∃ p F, e = .returned (.tuple #[.pointer (some ⟨p, 0, none⟩), .bool true]) ∧ Tab w' p zs F ∧ Fr w w' (fun _ => False) ∧ (∀ k, F k → w.heap.size ≤ k) := by
  obtain ⟨a0, c0, rfl, hc0⟩ := h.form
  have Hz : Hid (ReadsZ w (.slice a0 zs.length c0) zs) := h
  obtain ⟨n, hn⟩ : ∃ n, n = zs.length := ⟨_, rfl⟩
  rw [← hn] at Hz hc0 ⊢
  have Hn : Hid _ := hn
  have hin := rightB_in hr
  have hn256 : n ≤ 256 := by rw [hn]; exact rightB_len hr
  have hn0 : 0 < n := by
    rcases Nat.eq_zero_or_pos n with h0 | h0
    · exfalso
      have : zs = [] := List.eq_nil_of_length_eq_zero (by rw [← hn]; exact h0)
      rw [this] at hr
      exact absurd hr (by decide)
    · exact h0
  obtain ⟨bz, oz, rfl⟩ : ∃ bz oz, a0 = some ⟨bz, oz, none⟩ := by
    obtain ⟨b, off, cp, e, -, -⟩ := Hz.out.get 0 _ (List.getElem?_eq_getElem (by rw [← hn]; exact hn0))
    simp only [Value.slice.injEq] at e
    exact ⟨b, off, e.1⟩
  have Hr : Hid _ := hr
  have Hin : Hid _ := hin
  have Hget : Hid (∀ s, s < n → zs[s]? = some ((ln (nats zs) s : Nat) : Int)) := by rw [hn]; exact get_nats hin
  have H15 : Hid _ := nats_15 hin
  have Hln : Hid ((nats zs).length = n) := by show _ = _; rw [nats_length, ← hn]
  clear h hn hin hr
  go_enter Try.func38, Try.ntmps38
  go_wp2_with fail
  refine (rightC_any _ zs _ Hz.out).mono ?_
  rw [Hr.out]
  rintro e w0 ⟨rfl, rfl⟩
  go_wp2_with fail
  refine (tallyC_any _ zs _ Hz.out Hin.out (by rw [← Hn.out]; exact hn256)).mono ?_
  rintro e w1 ⟨rfl, hf1⟩
  unfold arr
  obtain ⟨l, hl⟩ : ∃ l, l = nats zs := ⟨_, rfl⟩
  rw [← hl] at H15 Hln Hget ⊢
  have Hl : Hid _ := hl
  have hbt := built_table (cntOf l)
  obtain ⟨A, hA⟩ : ∃ A, A = (row .i64 (fnRow 16 (cntOf l))).toArray := ⟨_, rfl⟩
  obtain ⟨C, hC⟩ : ∃ C, C = (row .i64 (fnRow 800 (tab0 (cntOf l)))).toArray := ⟨_, rfl⟩
  rw [← hA, ← hC] at hbt
  rw [← hA]
  have Hbt : Hid _ := hbt
  obtain ⟨p, hp⟩ : ∃ p, p = w1.heap.size := ⟨_, rfl⟩
  have Hb2 : Hid (Blk (w1.alloc (.cells C 107)) p 107 800 (tab0 (cntOf l))) := by rw [hp, hC]; exact heap_alloc_new w1 _
  have Hrg : Hid ((w1.alloc (.cells C 107)).rangeAt w1.heap.size 768 (row .i64 (fnRow 16 (cntOf l)))) := by
    have := Hb2.out.range 768 16 (cntOf l) (by omega) (fun j hj => by unfold tab0; rw [if_pos (by omega), show 768 + j - 768 = j by omega])
    rw [hp] at this
    exact this
  have Hsz : Hid (∀ f, (Try.prog.info? 102).map (·.size) = some (row .i64 (fnRow 16 f)).length) := fun f => by rw [frow_len]; exact sizeLen
  have Hf2 : Hid (Fr w0 (w1.alloc (.cells C 107)) (fun _ => False)) := hf1.alloc _
  have Hpw : Hid (w0.heap.size ≤ p) := by show _ ≤ _; have := hf1.size; omega
  clear hA hC hbt hl hf1
  go_wp2_with (first | refine wpList_build_is rfl 107 #[(3, .tmp 12)] rfl (vs := [(3, .agg A)]) (by simp only [List.map_toArray, List.map_cons, List.map_nil]; rfl) Hbt.out ?_ | refine wpList_load_mid rfl 102 (.tmp 18) rfl w1.heap.size 768 rfl (row .i64 (fnRow 16 (cntOf l))) _ Hrg.out Try.underlying102 rfl (Hsz.out _) ?_)
  rw [← hp]
  generalize w1.alloc (.cells C 107) = w2 at *
  clear hp Hrg
  refine (firstsC_any (cntOf l) w2 (fun m _ => cntOf_le _ (by rw [Hln.out]; exact hn256) m)).mono ?_
  rintro e w3 ⟨rfl, hf3⟩
  unfold arr
  obtain ⟨A2, hA2⟩ : ∃ A, A = (row .i64 (fnRow 16 (firstF (cntOf l)))).toArray := ⟨_, rfl⟩
  rw [← hA2]
  have hb3 := Hb2.out.frame hf3 (fun h => h)
  have hf3' := Hf2.out.none hf3
  have Hth : Hid (w3.there p 784 A2.size) := by
    have e : A2.size = 16 := by rw [hA2, List.size_toArray, frow_len]
    rw [e]
    exact hb3.there 784 16 (by omega)
  have Hsz2 : Hid ((Try.prog.info? 102).map (·.size) = some A2.size) := by rw [hA2, List.size_toArray]; exact Hsz.out _
  have Hone : Hid (A2.all (·.oneCell') = true) := by show _ = true; rw [hA2]; exact frow_one _ _
  have hb4 : Blk (w3.setCells p 784 A2.toList) p 107 800 (fun j => if 784 ≤ j ∧ j < 784 + 16 then firstF (cntOf l) (j - 784) else tab0 (cntOf l) j) := by rw [hA2]; exact hb3.setRow 784 16 _
  have hf4 : Fr w0 (w3.setCells p 784 A2.toList) (fun _ => False) := Fr.setCells p (fun h => by have := Hpw.out; omega) _ _ hf3'
  have hzl : zrow zs = row .i64 l := by
    have := nats_back Hin.out
    rw [← Hl.out] at this
    conv => lhs; rw [← this]
    unfold zrow row
    rw [List.map_map]
    rfl
  have hcp : ∀ ty, (Builtin.copy_ #[28, 28] ty #[.slice (some ⟨p, 0, none⟩) 256 256, .slice (some ⟨bz, oz, none⟩) n c0]).run Try.prog (w3.setCells p 784 A2.toList) = .ok (goInt n) ((w3.setCells p 784 A2.toList).setCells p 0 (row .i64 l)) := fun ty => by
    obtain ⟨a', c', e, -, hcell⟩ := Hz.out.keep hf4
    simp only [Value.slice.injEq] at e
    obtain ⟨b', o', e2, hcell⟩ := hcell (by rw [zrow_length, ← Hn.out]; exact hn0)
    rw [← e.1] at e2
    simp only [Option.some.injEq, Addr.mk.injEq, and_true] at e2
    obtain ⟨rfl, rfl⟩ := e2
    rw [hzl] at hcell
    have hll : (row .i64 l).length = n := by rw [length_row]; exact Hln.out
    have := run_copy_cells (P := Try.prog) (w3.setCells p 784 A2.toList) 28 28 ty 3 p 0 256 256 ⟨bz, oz, none⟩ n c0 (row .i64 l) Try.underlying28 (by kernel_rfl) (by rw [hll]; exact (Nat.min_eq_left hn256).symm) (fun j u hj => by rw [add_none]; exact hcell j u hj) (fun j hj => ((hb4.there 0 256 (by omega)) j (by omega)).1) (fun j hj => ((hb4.there 0 256 (by omega)) j (by omega)).2) (row_one .i64 l)
    rw [hll] at this
    exact this
  have hb5 := Blk.sets l 0 hb4
  have hf5 : Fr w0 ((w3.setCells p 784 A2.toList).setCells p 0 (row .i64 l)) (fun _ => False) := Fr.setCells p (fun h => by have := Hpw.out; omega) _ _ hf4
  have Hb5 : Hid (Blk ((w3.setCells p 784 A2.toList).setCells p 0 (row .i64 l)) p 107 800 (fun j => if 0 ≤ j ∧ j < 0 + l.length then l.getD (j - 0) 0 else if 784 ≤ j ∧ j < 784 + 16 then firstF (cntOf l) (j - 784) else tab0 (cntOf l) j)) := hb5
  have Hf5 : Hid (Fr w0 ((w3.setCells p 784 A2.toList).setCells p 0 (row .i64 l)) (fun _ => False)) := hf5
  clear hf3 hb3 hf3' hb4 hf4 hb5 hf5 hzl hA2 Hb2 Hf2
  go_wp2_with (refine wpList_store_mid rfl 102 (.tmp 22) (.tmp 20) rfl p 784 A2 rfl rfl Hth.out Hsz2.out Hone.out ?_)
  generalize (w3.setCells p 784 A2.toList).setCells p 0 (row .i64 l) = w5 at *
  clear hcp
  refine wp_region_tree (fun k => k = p) (.take 0 (.take 1 (.take 2 (.take 3 (.take 4 (.one 5 (.one 6 .nil))))))) (by kernel_rfl) (by kernel_rfl) (by decide) (by kernel_rfl) ?_
  repeat (refine wpT_take (v := ?_) rfl rfl (fun x hx => ?_) ?_; rotate_left; (focus (go_simp; with_reducible rfl)); simp only [Act.put, List.setIfInBounds_toArray, List.set_cons_zero, List.set_cons_succ])
  refine wpT_one rfl rfl (fun K hK => ?_)
  go_simp
  refine (codesC_any _ zs _ ((Hz.out.keep Hf5.out).keep (Fr.refl w5 _).drew)).mono ?_
  rintro e w6 ⟨sc, rfl, hrc, hf6, hnw6⟩
  refine hK _ _ (hf6.mono (fun _ _ h => h.elim)) ?_
  clear hK K
  have hcz : codesZ zs = fnRow n (codeOf l) := by unfold codesZ; rw [if_pos Hr.out, ← Hl.out, ← Hn.out]; rfl
  rw [hcz] at hrc
  obtain ⟨ac, cc, hsc, hcc, hcl⟩ := hrc
  rw [length_row, fnRow_length] at hsc hcc hcl
  subst hsc
  obtain ⟨bc, oc, rfl, hcell⟩ := hcl hn0
  have hb6 := Hb5.out.frame ((Fr.refl w5 (fun _ => False)).drew.none hf6) (fun h => h)
  have hf6' := Hf5.out.none ((Fr.refl w5 (fun _ => False)).drew.none hf6)
  have hcp : ∀ ty, (Builtin.copy_ #[28, 28] ty #[.slice (some ⟨p, 256, none⟩) 256 256, .slice (some ⟨bc, oc, none⟩) n cc]).run Try.prog w6 = .ok (goInt n) (w6.setCells p 256 (row .i64 (fnRow n (codeOf l)))) := fun ty => by
    have := run_copy_cells (P := Try.prog) w6 28 28 ty 3 p 256 256 256 ⟨bc, oc, none⟩ n cc (row .i64 (fnRow n (codeOf l))) Try.underlying28 (by kernel_rfl) (by rw [frow_len]; exact (Nat.min_eq_left hn256).symm) (fun j u hj => by rw [add_none]; exact hcell j u hj) (fun j hj => ((hb6.there 256 256 (by omega)) j (by rw [frow_len] at hj; omega)).1) (fun j hj => ((hb6.there 256 256 (by omega)) j (by rw [frow_len] at hj; omega)).2) (row_one .i64 _)
    rw [frow_len] at this
    exact this
  have hb7 := hb6.setRow 256 n (codeOf l)
  have hf7 : Fr w0 (w6.setCells p 256 (row .i64 (fnRow n (codeOf l)))) (fun _ => False) := Fr.setCells p (fun h => by have := Hpw.out; omega) _ _ hf6'
  have hf7' : Fr w6 (w6.setCells p 256 (row .i64 (fnRow n (codeOf l)))) (fun k => k = p) := Fr.setCells (S := fun k => k = p) p (fun _ => rfl) _ _ (Fr.refl _ _)
  have hl0 : ∀ s, n ≤ s → ln l s = 0 := fun s hs => by
    rcases Nat.eq_zero_or_pos (ln l s) with h | h
    · exact h
    · have := ln_lt h; have := Hln.out; omega
  obtain ⟨f7, hf7e⟩ : ∃ f7 : Nat → Nat, f7 = (fun j => if 256 ≤ j ∧ j < 256 + n then codeOf l (j - 256) else if 0 ≤ j ∧ j < 0 + l.length then l.getD (j - 0) 0 else if 784 ≤ j ∧ j < 784 + 16 then firstF (cntOf l) (j - 784) else tab0 (cntOf l) j) := ⟨_, rfl⟩
  have Ht7 : Hid (TabTo l 0 f7) := by
    rw [hf7e]
    refine ⟨fun s hs => ?_, fun s hs => ?_, fun s hs _ => by omega, fun m hm => ?_, fun m hm => ?_⟩
    · rw [if_neg (by omega)]
      by_cases h1 : s < n
      · rw [if_pos (by rw [Hln.out]; omega)]; rfl
      · rw [if_neg (by rw [Hln.out]; omega), if_neg (by omega), hl0 s (by omega)]
        unfold tab0
        rw [if_neg (by omega)]
    · by_cases h1 : s < n
      · rw [if_pos (by omega), show 256 + s - 256 = s by omega]
      · rw [if_neg (by omega), if_neg (by rw [Hln.out]; omega), if_neg (by omega)]
        unfold tab0 codeOf
        rw [if_neg (by omega), if_pos (hl0 s (by omega))]
    · rw [if_neg (by omega), if_neg (by rw [Hln.out]; omega), if_neg (by omega)]
      unfold tab0
      rw [if_pos (by omega), show 768 + m - 768 = m by omega]
    · rw [if_neg (by omega), if_neg (by rw [Hln.out]; omega), if_pos (by omega), show 784 + m - 784 = m by omega]
  have Hb7 : Hid (Blk (w6.setCells p 256 (row .i64 (fnRow n (codeOf l)))) p 107 800 f7) := by rw [hf7e]; exact hb7
  have Hf7 : Hid (Fr w0 (w6.setCells p 256 (row .i64 (fnRow n (codeOf l)))) (fun _ => False)) := hf7
  have Hf7' : Hid (Fr w6 (w6.setCells p 256 (row .i64 (fnRow n (codeOf l)))) (fun k => k = p)) := hf7'
  have Hl0 : Hid _ := hl0
  clear hb7 hf7 hf7' hl0 hf7e hb6 hf6' hcell hcl hcz hf6 hnw6 hcc
  refine wpT_one rfl rfl (fun K hK => ?_)
  go_simp
  refine hK _ _ Hf7'.out ?_
  clear hK K hcp
  unfold wpT
  generalize w6.setCells p 256 (row .i64 (fnRow n (codeOf l))) = w7 at *
  have Hrg : Hid (w7.rangeAt p 768 (row .i64 (fnRow 16 (cntOf l)))) := Hb7.out.range 768 16 (cntOf l) (by omega) (fun j hj => Ht7.out.cnt j hj)
  clear Hf7' Hb5 Hf5
  go_wp2_with (refine wpList_load_mid rfl 102 (.tmp 38) rfl p 768 rfl (row .i64 (fnRow 16 (cntOf l))) _ Hrg.out Try.underlying102 rfl (Hsz.out _) ?_)
  refine (placesC_any (cntOf l) w7 (fun m _ => cntOf_le _ (by rw [Hln.out]; exact hn256) m)).mono ?_
  rintro e w8 ⟨rfl, hf8⟩
  unfold arr
  obtain ⟨A3, hA3⟩ : ∃ A, A = (row .i64 (fnRow 16 (placeF (cntOf l)))).toArray := ⟨_, rfl⟩
  rw [← hA3]
  have hb8 := Hb7.out.frame hf8 (fun h => h)
  have hf8' := Hf7.out.none hf8
  have Hth3 : Hid ((w8.alloc (.cells Z16 102)).there w8.heap.size 0 A3.size) := by
    have := Blk.there (w := w8.alloc (.cells Z16 102)) (b := w8.heap.size) (t := 102) (n := 16) (f := fun _ => 0) (heap_alloc_new w8 _) 0 16 (by omega)
    have e : A3.size = 16 := by rw [hA3, List.size_toArray, frow_len]
    rw [e]
    exact this
  have Hsz3 : Hid ((Try.prog.info? 102).map (·.size) = some A3.size) := by rw [hA3, List.size_toArray]; exact Hsz.out _
  have Hone3 : Hid (A3.all (·.oneCell') = true) := by show _ = true; rw [hA3]; exact frow_one _ _
  have Hb9 : Hid (Blk ((w8.alloc (.cells Z16 102)).setCells w8.heap.size 0 A3.toList) w8.heap.size 102 16 (placeF (cntOf l))) := by
    rw [hA3]
    exact (Blk.setRow (w := w8.alloc (.cells Z16 102)) (n := 16) (f := fun _ => 0) (heap_alloc_new w8 _) 0 16 (placeF (cntOf l))).congr fun j hj => by rw [if_pos (by omega)]; rfl
  have hf9 : Fr w8 ((w8.alloc (.cells Z16 102)).setCells w8.heap.size 0 A3.toList) (fun _ => False) := Fr.setCells _ (fun h => by omega) _ _ ((Fr.refl w8 _).alloc _)
  have Hc9 : Hid (Blk ((w8.alloc (.cells Z16 102)).setCells w8.heap.size 0 A3.toList) p 107 800 f7) := hb8.frame hf9 (fun h => h)
  have Hf9 : Hid (Fr w0 ((w8.alloc (.cells Z16 102)).setCells w8.heap.size 0 A3.toList) (fun _ => False)) := hf8'.none hf9
  have Hpb : Hid (p < w8.heap.size) := hb8.lt
  clear hf9 hf8' hb8 hf8 hA3 Hb7 Hf7 Hrg
  go_wp2_with (refine wpList_store_mid rfl 102 (.tmp 5) (.tmp 40) rfl w8.heap.size 0 A3 rfl rfl Hth3.out Hsz3.out Hone3.out ?_)
  rw [z16]
  generalize (w8.alloc (.cells Z16 102)).setCells w8.heap.size 0 A3.toList = w9 at *
  obtain ⟨b, hb⟩ : ∃ b, b = w8.heap.size := ⟨_, rfl⟩
  rw [← hb] at Hb9 Hpb ⊢
  have Hpb2 : Hid (p ≠ b) := by show _ ≠ _; have := Hpb.out; omega
  have Hbw : Hid (w0.heap.size ≤ b) := by show _ ≤ _; have := Hpb.out; have := Hpw.out; omega
  clear hb Hth3 Hsz3 Hone3 Hsz2 Hone Hth
  go_loopg [43] n (fun g' I wr => ∃ (i : Nat) (f : Nat → Nat), g' = n - i ∧ i ≤ n ∧ I = .int .i64 (i : Int) ∧ TabTo l i f ∧ Blk wr p 107 800 f ∧ Blk wr b 102 16 (fun m => placeF (cntOf l) m + cntTo l i m) ∧ Fr w0 wr (fun _ => False))
  case atStart => exact ⟨0, f7, rfl, by omega, rfl, Ht7.out, Hc9.out, Hb9.out.congr (fun j _ => by rw [cntTo_zero]; rfl), Hf9.out⟩
  case round =>
    obtain ⟨i, f, hg', hi, rfl, ht, hp, hb, hf⟩ := hrel
    have Hg' : Hid _ := hg'
    have Ht : Hid (TabTo l i f) := ht
    have Hp : Hid (Blk wr p 107 800 f) := hp
    have Hb : Hid (Blk wr b 102 16 (fun m => placeF (cntOf l) m + cntTo l i m)) := hb
    have Hf : Hid (Fr w0 wr (fun _ => False)) := hf
    clear hg' ht hp hb hf
    by_cases hlt : i < n
    · obtain ⟨bx, off, cp, e, hb0, kx⟩ := (Hz.out.keep Hf.out).get i _ (Hget.out i hlt)
      simp only [Value.slice.injEq, Option.some.injEq, Addr.mk.injEq, and_true] at e
      obtain ⟨⟨rfl, rfl⟩, -, rfl⟩ := e
      have cx := kx _ (Fr.refl _ _)
      have hi1 : (i : Int) < (n : Int) := by omega
      clear kx hb0
      obtain ⟨y, hy⟩ : ∃ y, y = ln l i := ⟨_, rfl⟩
      have hy15 := H15.out i
      rw [← hy] at cx hy15
      have Hst : Hid (∀ m, cntTo l (i + 1) m = cntTo l i m + if y = m ∧ 0 < m then 1 else 0) := fun m => by rw [hy]; exact cntTo_step l i m (by rw [Hln.out]; exact hlt)
      have Hrk : Hid (rk l i = placeF (cntOf l) y + cntTo l i y) := by show _ = _; rw [hy]; rfl
      have Hy : Hid _ := hy
      clear hy
      by_cases hy0 : 0 < y
      · have hkl := rk_lt (l := l) (s := i) (by rw [← Hy.out]; exact hy0)
        rw [Hln.out] at hkl
        have cb := Hb.out.cell y (by omega)
        have hrk := Hrk.out
        rw [← hrk] at cb
        have Ht2 : Hid (TabTo l (i + 1) (upd f (512 + rk l i) i)) := Ht.out.step (by rw [← Hy.out]; exact hy0) (by rw [Hln.out]; exact hn256)
        have Hp2 : Hid (Blk (wr.drew.setCell ⟨p, 512 + rk l i, none⟩ (.int .i64 (i : Int))) p 107 800 (upd f (512 + rk l i) i)) := Blk.set (w := wr.drew) Hp.out _ i
        have Hb2 : Hid (Blk (wr.drew.setCell ⟨p, 512 + rk l i, none⟩ (.int .i64 (i : Int))) b 102 16 (fun m => placeF (cntOf l) m + cntTo l i m)) := Hb.out.frame (Fr.setCell (S := fun k => k = p) (Fr.refl wr _).drew ⟨p, 512 + rk l i, none⟩ (fun _ => rfl) _) (fun h => Hpb2.out h.symm)
        have co := Hp.out.cell (512 + rk l i) (by omega)
        have fo := Hp.out.free (512 + rk l i)
        have Hb3 : Hid (∀ x, Blk x b 102 16 (fun m => placeF (cntOf l) m + cntTo l i m) → Blk (x.setCell ⟨b, y, none⟩ (.int .i64 ((rk l i + 1 : Nat) : Int))) b 102 16 (fun m => placeF (cntOf l) m + cntTo l (i + 1) m)) := fun x hx => (hx.set y (rk l i + 1)).congr fun m _ => by
          unfold upd
          rw [Hst.out m]
          by_cases hm : m = y
          · subst hm; rw [if_pos rfl, if_pos ⟨rfl, hy0⟩, hrk]; omega
          · rw [if_neg hm, if_neg (fun h => hm h.1.symm)]; rfl
        have cb2 := Hb2.out.cell y (by omega)
        rw [← hrk] at cb2
        have fb2 := Hb2.out.free y
        have Hf2 : Hid (Fr w0 (wr.drew.setCell ⟨p, 512 + rk l i, none⟩ (.int .i64 (i : Int))) (fun _ => False)) := Hf.out.drew.setCell ⟨p, 512 + rk l i, none⟩ (fun h => by have := Hpw.out; simp at h; omega) _
        generalize rk l i = k at hkl cb Ht2 Hp2 Hb2 co fo Hb3 cb2 fb2 Hf2
        have hk1 : (k : Int) < 256 := by omega
        have hcw : IntKind.i64.wrap ((k : Int) + 1) = ((k + 1 : Nat) : Int) := by rw [IntWalk.i64_in _ (by omega)]; omega
        have hy1 : (y : Int) < 16 := by omega
        have hy2 : (0 : Int) < (y : Int) := by omega
        generalize f (512 + k) = oldv at co
        have Hco : Hid (wr.drew.cell? ⟨p, 512 + k, none⟩ = some (.int .i64 (oldv : Int))) := co
        have Hfo : Hid (wr.drew.frozen? ⟨p, 512 + k, none⟩ = false) := fo
        have Hcb2 : Hid ((wr.drew.setCell ⟨p, 512 + k, none⟩ (.int .i64 (i : Int))).cell? ⟨b, y, none⟩ = some (.int .i64 (k : Int))) := cb2
        have Hfb2 : Hid ((wr.drew.setCell ⟨p, 512 + k, none⟩ (.int .i64 (i : Int))).frozen? ⟨b, y, none⟩ = false) := fb2
        clear hrk cb2 fb2
        go_wp2
        go_still_tail 8, (by kernel_rfl)
        show wpList _ _ _ _ _ wr.drew
        generalize wr.drew = wd at *
        have cod := Hco.out
        have fod := Hfo.out
        have cb2 := Hcb2.out
        have fb2 := Hfb2.out
        go_wp2
        go_roundg (n - (i + 1))
        case rel =>
          refine ⟨i + 1, _, rfl, by omega, by go_num, Ht2.out, ?_, Hb3.out _ Hb2.out, ?_⟩
          · exact Hp2.out.frame (Fr.setCell (S := fun k => k = b) (Fr.refl _ _) ⟨b, y, none⟩ (fun _ => rfl) _) Hpb2.out
          · exact Hf2.out.setCell ⟨b, y, none⟩ (fun h => by have := Hbw.out; simp at h; omega) _
        case measure => rw [Hg'.out]; omega
      · have hy2 : ¬ (0 : Int) < (y : Int) := by omega
        have Ht2 : Hid (TabTo l (i + 1) f) := Ht.out.skip (by rw [← Hy.out]; exact hy0)
        have Hb2 : Hid (Blk wr b 102 16 (fun m => placeF (cntOf l) m + cntTo l (i + 1) m)) := Hb.out.congr fun m _ => by rw [Hst.out m, if_neg (by omega)]; rfl
        go_wp2
        go_roundg (n - (i + 1))
        case rel => exact ⟨i + 1, f, rfl, by omega, by go_num, Ht2.out, Hp.out, Hb2.out, Hf.out⟩
        case measure => rw [Hg'.out]; omega
    · have hie : i = n := by omega
      have hi1 : ¬ (i : Int) < (n : Int) := by omega
      have Htab : Hid (Tab wr p zs (fun k => k = p)) := ⟨rfl, f, Hp.out, by
        have := Ht.out
        rw [hie, ← Hln.out] at this
        rw [← Hl.out]
        exact this.ok⟩
      clear hie
      go_wp2
      go_ret2
      exact ⟨p, rfl, _, Htab.out, Hf.out, fun k hk => by rw [hk]; exact Hpw.out⟩

set_option maxRecDepth 4000 in
set_option maxHeartbeats 400000 in
theorem newC_no (v : Value) (zs : List Int) (w : World) (h : ReadsZ w v zs) (hr : rightB zs = false) :
    Calls Try.prog 38 #[v] w fun e w' => e = .returned (.tuple #[.pointer none, .bool false]) ∧ Fr w w' (fun _ => False) := by
  have Hz : Hid _ := h
  clear h
  go_enter Try.func38, Try.ntmps38
  go_wp2_with fail
  refine (rightC_any _ zs _ Hz.out).mono ?_
  rw [hr]
  rintro e w0 ⟨rfl, rfl⟩
  go_wp2_with fail
  go_ret2
  exact ⟨rfl, Fr.refl _ _⟩

end Go.Proofs.Ytclfbdfgmeliaaa

/-
  The contract of the reference's merged: coins, and packages of a list.
-/
import Derived.Test.YtclfbdfgmeliaaaRItems
import Derived.Deep.CutRange
import Derived.Test.YtclfbdfgmeliaaaAny
namespace Go.Proofs.Ytclfbdfgmeliaaa
open Go.RowKit

def fsts (ps : List Pk) : List (List Nat) := ps.map (·.1)
/-- No symbols lie in the block of a slice. -/
def Off (v : Value) (ps : List Pk) : Prop := ∀ p ∈ ps, ∀ k, p.2.ownBlock = some k → 0 < p.1.length → v.ownBlock ≠ some k
/-- All symbols are old. -/
def Older (B : Nat) (ps : List Pk) : Prop := ∀ p ∈ ps, ∀ k, p.2.ownBlock = some k → 0 < p.1.length → k < B
theorem good_older {w : World} {ps : List Pk} (h : Good w ps) : Older w.heap.size ps := fun p hp k hk hl => by
  obtain ⟨ao, cap, e, -, hc⟩ := h p hp
  rw [length_row] at hc
  obtain ⟨b, off, rfl, hcell⟩ := hc hl
  rw [e] at hk
  simp [Value.ownBlock] at hk
  subst hk
  exact World.block_lt_of_cell? _ _ (hcell 0 _ (row_get .i64 _ 0 hl))

theorem pk_drop_two {ls : List (List Nat)} {i : Nat} (h : i + 1 < ls.length) : pk (ls.drop i) = (ls.getD i [] ++ ls.getD (i + 1) []) :: pk (ls.drop (i + 2)) := by
  rw [List.drop_eq_getElem_cons (by omega : i < ls.length), List.drop_eq_getElem_cons h, pk]
  simp [List.getD_eq_getElem?_getD, h, (by omega : i < ls.length)]

theorem mg_nil_right (wt : Nat → Nat) (c : List (List Nat)) : mg wt c [] = c := by cases c <;> simp [mg]
theorem mg_take_coin (wt : Nat → Nat) {l R : List (List Nat)} {n : Nat} {c p : List Nat} (h : l[n]? = some c) (hle : W wt c ≤ W wt p) : mg wt (l.drop n) (p :: R) = c :: mg wt (l.drop (n + 1)) (p :: R) := by
  have hn := (List.getElem?_eq_some_iff.1 h).1
  have e : l[n] = c := (List.getElem?_eq_some_iff.1 h).2
  rw [List.drop_eq_getElem_cons hn, e, mg, if_pos hle]
theorem mg_take_pack (wt : Nat → Nat) {l R : List (List Nat)} {n : Nat} {p : List Nat} (h : ∀ c, l[n]? = some c → W wt p < W wt c) : mg wt (l.drop n) (p :: R) = p :: mg wt (l.drop n) R := by
  rcases Nat.lt_or_ge n l.length with hn | hn
  · have := h _ (List.getElem?_eq_getElem hn)
    rw [List.drop_eq_getElem_cons hn, mg, if_neg (by omega)]
  · rw [List.drop_eq_nil_of_le hn]
    simp [mg]
theorem fsts_get {ps : List Pk} {i : Nat} {p : Pk} (h : ps[i]? = some p) : (fsts ps)[i]? = some p.1 := by simp [fsts, h]

theorem fr_swap (w : World) (o o' : Obj) (B : Nat) (h : B ≤ w.heap.size) : Fr (w.alloc o) (w.alloc o') (fun k => B ≤ k) :=
  ⟨rfl, rfl, rfl, by simp, fun k hk hs => by
    have hk' : k < w.heap.size := by omega
    rw [Below.heap_alloc _ _ _ hk', Below.heap_alloc _ _ _ hk']⟩

/-- Symbols are a coin's, or new. -/
def New (B : Nat) (cs rs : List Pk) : Prop := ∀ p ∈ rs, p ∈ cs ∨ ∀ k, p.2.ownBlock = some k → B ≤ k
theorem New.append {B : Nat} {cs a b : List Pk} (h : New B cs a) (k : New B cs b) : New B cs (a ++ b) := fun p hp => by
  rcases List.mem_append.1 hp with hp | hp
  · exact h p hp
  · exact k p hp

set_option maxRecDepth 4000 in
set_option maxHeartbeats 800000 in
theorem refMerged_any (wt : Nat → Nat) (vc vl : Value) (cs ls : List Pk) (w : World) (hc : RdI wt w vc cs) (hl : RdI wt w vl ls) (hcl : cs.length ≤ 256) (hll : ls.length ≤ 1000) (hW : ∀ y ∈ fsts ls, W wt y ≤ 4611686018427387903) (hyl : ∀ y ∈ fsts ls, y.length ≤ 1000000) :
    Calls Try.prog 33 #[vc, vl] w fun e w' => ∃ sv rs, e = .returned sv ∧ OwnI wt w' sv rs ∧ fsts rs = mg wt (fsts cs) (pk (fsts ls)) ∧ Fr w w' (fun _ => False) ∧ Off sv rs ∧ New w.heap.size cs rs := by
  obtain ⟨ac, cc, rfl, hcc⟩ := hc.form
  obtain ⟨al, cl, rfl, hcl2⟩ := hl.form
  have Hc : Hid (RdI wt w (.slice ac cs.length cc) cs) := hc
  have Hl : Hid (RdI wt w (.slice al ls.length cl) ls) := hl
  have HW : Hid _ := hW
  have Hyl : Hid _ := hyl
  obtain ⟨nc, hnc⟩ : ∃ nc, nc = cs.length := ⟨_, rfl⟩
  obtain ⟨nl, hnl⟩ : ∃ nl, nl = ls.length := ⟨_, rfl⟩
  rw [← hnc] at hcl hcc Hc ⊢
  rw [← hnl] at hll hcl2 Hl ⊢
  have Hnc : Hid _ := hnc
  have Hnl : Hid _ := hnl
  clear hc hl hW hyl hnc hnl
  go_enter Try.func33, Try.ntmps33
  go_wp2_with fail
  go_loopg [5, 6, 7] (nl) (fun g S N I wr => ∃ (n i : Nat) (rs : List Pk), g = nl - i ∧ i ≤ nl ∧ n ≤ nc ∧ N = .int .i64 (n : Int) ∧ I = .int .i64 (i : Int) ∧ OwnI wt wr S rs ∧ rs.length ≤ n + i ∧ fsts rs ++ mg wt ((fsts cs).drop n) (pk ((fsts ls).drop i)) = mg wt (fsts cs) (pk (fsts ls)) ∧ Fr w wr (fun _ => False) ∧ Off S rs ∧ (∀ k, S.ownBlock = some k → w.heap.size ≤ k) ∧ New w.heap.size cs rs)
  case atStart => exact ⟨0, 0, [], by omega, by omega, by omega, rfl, rfl, OwnI.nil _ _, by simp, by simp [fsts], Fr.refl _ _, ⟨fun p hp => (by cases hp), fun k hk => (by simp [Value.ownBlock] at hk), fun p hp => (by cases hp)⟩⟩
  case round =>
    obtain ⟨n, i, rs, hg, hi, hn, rfl, rfl, ho, hrl, hst, hf, hoff, hnew, hnw0⟩ := hrel
    have Hnw0 : Hid _ := hnw0
    clear hnw0
    have Hg : Hid _ := hg
    have Hst : Hid _ := hst
    have Ho : Hid (OwnI wt wr u5 rs) := ho
    have Hoff : Hid _ := hoff
    have Hnew : Hid _ := hnew
    clear hg hst ho hoff hnew
    by_cases hlt : i + 1 < nl
    · obtain ⟨p0, hp0⟩ : ∃ p, ls[i]? = some p := ⟨_, List.getElem?_eq_getElem (by rw [← Hnl.out]; omega)⟩
      obtain ⟨p1, hp1⟩ : ∃ p, ls[i + 1]? = some p := ⟨_, List.getElem?_eq_getElem (by rw [← Hnl.out]; exact hlt)⟩
      obtain ⟨b, off, cp, e, c0, d0, r0⟩ := (Hl.out.keep hf).get i p0 hp0
      obtain ⟨b', off', cp', e', c1, d1, r1⟩ := (Hl.out.keep hf).get (i + 1) p1 hp1
      simp only [Value.slice.injEq] at e e'
      obtain ⟨rfl, -, rfl⟩ := e
      obtain ⟨e', -, -⟩ := e'
      simp only [Option.some.injEq, Addr.mk.injEq, and_true] at e'
      obtain ⟨rfl, rfl⟩ := e'
      have hbs : b < wr.heap.size := World.block_lt_of_cell? _ _ c0
      have hkeep : ∀ (j : Nat) (u : Value), wr.cell? ⟨b, j, none⟩ = some u → ∀ x, Fr wr.drew x (fun k => wr.heap.size ≤ k) → x.cell? ⟨b, j, none⟩ = some u := fun j u hu x hx => by
        rw [World.cell?_of_block (w := wr) (hx.block b hbs (by omega))]
        exact hu
      have k0 := hkeep _ _ c0
      have k1 := hkeep _ _ c1
      have j0 := hkeep _ _ d0
      have j1 := hkeep _ _ d1
      have Hc0 : Hid _ := c0
      have Hd0 : Hid _ := d0
      have Hr0 : Hid _ := r0
      have Hr1 : Hid _ := r1
      have hw0 : W wt p0.1 ≤ 4611686018427387903 := HW.out _ (List.mem_map.2 ⟨p0, List.mem_of_getElem? hp0, rfl⟩)
      have hw1 : W wt p1.1 ≤ 4611686018427387903 := HW.out _ (List.mem_map.2 ⟨p1, List.mem_of_getElem? hp1, rfl⟩)
      obtain ⟨x0, hx0⟩ : ∃ x, x = W wt p0.1 := ⟨_, rfl⟩
      obtain ⟨x1, hx1⟩ : ∃ x, x = W wt p1.1 := ⟨_, rfl⟩
      rw [← hx0] at k0 hw0
      rw [← hx1] at k1 hw1
      obtain ⟨q0, y0⟩ := p0
      obtain ⟨q1, y1⟩ := p1
      have Hx0 : Hid _ := hx0
      have Hx1 : Hid _ := hx1
      have hwr : IntKind.i64.wrap ((i : Int) + 1) = ((i + 1 : Nat) : Int) := by rw [IntWalk.i64_in _ (by omega)]; omega
      have hsum : IntKind.i64.wrap ((x0 : Int) + (x1 : Int)) = ((x0 + x1 : Nat) : Int) := by rw [IntWalk.i64_in _ (by omega)]; omega
      have hi3 : ((i + 1 : Nat) : Int) < (nl : Int) := by omega
      have hi4 : i + 1 < nl := hlt
      have hi1 : (i : Int) < (nl : Int) := by omega
      have hi5 : (0 : Int) ≤ (i : Int) + 1 := by omega
      have hi2 : (i : Int) + 1 < (nl : Int) := by omega
      have Hy0 : Hid _ := Hyl.out _ (List.mem_map.2 ⟨(q0, y0), List.mem_of_getElem? hp0, rfl⟩)
      have Hy1 : Hid _ := Hyl.out _ (List.mem_map.2 ⟨(q1, y1), List.mem_of_getElem? hp1, rfl⟩)
      have Hp0 : Hid _ := hp0
      have Hp1 : Hid _ := hp1
      clear c0 c1 d0 d1 r0 r1 hx0 hx1 hp0 hp1 hkeep
      go_wp2
      go_cut [8] from 9 to 68 (fun V wx => ∃ (g : Nat) (y : Value), V = .pointer (some ⟨g, 0, none⟩) ∧ wx.heap[g]? = some (.cells #[.int .i64 ((x0 + x1 : Nat) : Int), y] 71 (0, 0)) ∧ Reads .i64 wx y (q0 ++ q1) ∧ Fr wr wx (fun _ => False) ∧ wr.heap.size ≤ g ∧ ∀ k, y.ownBlock = some k → wr.heap.size ≤ k ∧ k ≠ g ∧ k < wx.heap.size)
      case first =>
        refine wp_region_tree (fun k => wr.heap.size ≤ k) (.take 0 (.take 1 (.take 2 (.take 3 (.take 4 (.take 5 (.take 6 (.take 7 (.take 8 (.take 9 (.take 10 (.take 11 (.take 12 (.take 13 (.take 14 (.take 15 (.take 16 (.take 18 (.take 19 (.take 20 (.take 21 (.take 22 (.take 23 (.two 17 (.two 24 (.take 25 (.one 26 (.one 27 .nil))) 26 (.one 24 (.take 25 (.one 27 .nil)))) 26 (.one 17 (.one 24 (.take 25 (.one 27 .nil)))))))))))))))))))))))))))) (by kernel_rfl) (by kernel_rfl) (by decide) (by kernel_rfl) ?_
        repeat (refine wpT_take (v := ?_) rfl rfl (fun x hx => ?_) ?_; rotate_left; (focus (go_simp; with_reducible rfl)); simp only [Act.put, List.setIfInBounds_toArray, List.set_cons_zero, List.set_cons_succ])
        have hT : ∀ {a c : World} {S : Nat → Prop}, Fr a c S → (∀ k, S k → wr.heap.size ≤ k) → Fr a c (fun k => wr.heap.size ≤ k) := fun h hs => h.mono (fun k _ hk => hs k hk)
        refine wpT_two rfl rfl rfl rfl (fun K hK => ?_) (fun K hK => ?_)
        · obtain ⟨v33, w33, hrun33, ho33, hf33, hm33, -⟩ := app_ints wr.drew (.slice none 0 0) y0 [] q0 (OwnN.nil _) (Hr0.out.keep (Fr.refl wr _).drew) (by simp; have := Hy0.out; omega)
          rw [List.nil_append] at ho33
          have hn33 : ∀ k, v33.ownBlock = some k → wr.heap.size ≤ k := fun k hk => by
            rcases hm33 k hk with h | h
            · simp [Value.ownBlock] at h
            · exact h
          replace hf33 : Fr wr w33 (fun _ => False) := (Fr.refl wr (fun _ => False)).drew.trans hf33 (fun k _ h => by simp [Value.ownBlock] at h)
          refine op_append_run (.const (.slice none 0 0)) (.tmp 32) 28 rfl rfl rfl hrun33 ?_
          refine hK _ _ (hT ((Fr.refl wr.drew (fun _ => False)).none ⟨hf33.os, hf33.tape, hf33.output, hf33.size, hf33.block⟩) (fun k h => h.elim)) ?_
          clear hK K
          simp only [Act.put, List.setIfInBounds_toArray, List.set_cons_zero, List.set_cons_succ]
          refine wpT_two rfl rfl rfl rfl (fun K hK => ?_) (fun K hK => ?_)
          · obtain ⟨v40, w40, hrun40, ho40, hf40, hm40, -⟩ := app_ints w33 v33 y1 q0 q1 ho33 (Hr1.out.keep hf33) (by have := Hy0.out; have := Hy1.out; omega)
            have hn40 : ∀ k, v40.ownBlock = some k → wr.heap.size ≤ k := fun k hk => by
              have := hf33.size
              rcases hm40 k hk with h | h
              · exact hn33 k h
              · omega
            obtain ⟨a40, l40, c40, rfl⟩ := ho40.reads.form
            refine op_append_run (.tmp 33) (.tmp 39) 28 rfl rfl rfl hrun40 ?_
            refine hK _ _ (hT hf40 hn33) ?_
            clear hK K
            simp only [Act.put, List.setIfInBounds_toArray, List.set_cons_zero, List.set_cons_succ]
            repeat (refine wpT_take (v := ?_) rfl rfl (fun x hx => ?_) ?_; rotate_left; (focus (go_simp; with_reducible rfl)); simp only [Act.put, List.setIfInBounds_toArray, List.set_cons_zero, List.set_cons_succ])
            refine wpT_one rfl rfl (fun K hK => ?_)
            go_simp
            refine hK _ _ (hT ((Fr.refl w40 (fun _ => False)).alloc _) (fun k h => h.elim)) ?_
            clear hK K
            refine wpT_one rfl rfl (fun K hK => ?_)
            go_simp
            refine hK _ _ (fr_swap _ _ _ _ (by have := hf33.size; have := hf40.size; omega)) ?_
            clear hK K
            have hf40' := (hf33.newer hf40 hn33).alloc (.cells #[.int .i64 ((x0 + x1 : Nat) : Int), .slice a40 l40 c40] 71)
            unfold wpT
            go_wp2_with fail
            go_meet
            case rel => exact ⟨_, _, rfl, heap_alloc_new _ _, ho40.reads.keep ((Fr.refl w40 _).alloc _), hf40', by have := hf33.size; have := hf40.size; omega, fun k h => ⟨hn40 k h, by have := ho40.lt _ h; omega, by have := ho40.lt _ h; simp; omega⟩⟩
          · go_simp
            refine hK _ _ (hT ((Fr.refl w33 (fun _ => False)).alloc _) (fun k h => h.elim)) ?_
            clear hK K
            obtain ⟨v40, w40, hrun40, ho40, hf40, hm40, -⟩ := app_ints (w33.alloc (.cells #[.int .i64 0, .slice none 0 0] 71)) v33 y1 q0 q1 (ho33.alloc _) (Hr1.out.keep (hf33.alloc _)) (by have := Hy0.out; have := Hy1.out; omega)
            obtain ⟨a40, l40, c40, rfl⟩ := ho40.reads.form
            refine wpT_one rfl rfl (fun K hK => ?_)
            refine op_append_run (.tmp 33) (.tmp 39) 28 rfl rfl rfl hrun40 ?_
            refine hK _ _ (hT hf40 hn33) ?_
            clear hK K
            simp only [Act.put, List.setIfInBounds_toArray, List.set_cons_zero, List.set_cons_succ]
            repeat (refine wpT_take (v := ?_) rfl rfl (fun x hx => ?_) ?_; rotate_left; (focus (go_simp; with_reducible rfl)); simp only [Act.put, List.setIfInBounds_toArray, List.set_cons_zero, List.set_cons_succ])
            have hg8 : w40.heap[w33.heap.size]? = some (.cells #[.int .i64 0, .slice none 0 0] 71 (0, 0)) := hf40.kept (heap_alloc_new _ _) (fun h => by have := ho33.lt _ h; omega)
            have f8 : ∀ j, w40.frozen? ⟨w33.heap.size, j, none⟩ = false := fun j => two_free hg8 j
            have c80 := two_cell0 hg8
            have c81 := two_cell1 hg8
            refine wpT_one rfl rfl (fun K hK => ?_)
            go_simp
            refine hK _ _ ((Fr.refl w40 _).setCell ⟨w33.heap.size, 0, none⟩ (fun _ => by have := hf33.size; show _ ≤ _; omega) _ |>.setCell ⟨w33.heap.size, 1, none⟩ (fun _ => by have := hf33.size; show _ ≤ _; omega) _) ?_
            clear hK K
            have hb6 := two_set1 (two_set0 hg8 (u := .int .i64 ((x0 : Int) + (x1 : Int)))) (u := .slice a40 l40 c40)
            have hf6 : Fr wr w40 (fun _ => False) := (hf33.alloc _).newer hf40 hn33
            have hf7 : Fr wr ((w40.setCell ⟨w33.heap.size, 0, none⟩ (.int .i64 ((x0 : Int) + (x1 : Int)))).setCell ⟨w33.heap.size, 1, none⟩ (.slice a40 l40 c40)) (fun _ => False) :=
              (hf6.setCell ⟨w33.heap.size, 0, none⟩ (fun h => by have := hf33.size; simp at h; omega) _).setCell ⟨w33.heap.size, 1, none⟩ (fun h => by have := hf33.size; simp at h; omega) _
            have hne : (Value.slice a40 l40 c40).ownBlock ≠ some w33.heap.size := fun h => by
              rcases hm40 _ h with h1 | h1
              · have := ho33.lt _ h1; omega
              · have hz : (w33.alloc (.cells #[.int .i64 0, .slice none 0 0] 71)).heap.size = w33.heap.size + 1 := by simp
                omega
            have hr7 := ho40.reads.frame (((Fr.refl w40 (fun k => k = w33.heap.size)).setCell ⟨w33.heap.size, 0, none⟩ (fun _ => rfl) (.int .i64 ((x0 : Int) + (x1 : Int)))).setCell ⟨w33.heap.size, 1, none⟩ (fun _ => rfl) (.slice a40 l40 c40)) (fun k hk h => hne (h ▸ hk))
            unfold wpT
            go_wp2_with fail
            go_meet
            case rel => exact ⟨_, _, rfl, hb6, hr7, hf7, hf33.size, fun k hk => ⟨by
              rcases hm40 k hk with h | h
              · exact hn33 k h
              · have := hf33.size; have hz : (w33.alloc (.cells #[.int .i64 0, .slice none 0 0] 71)).heap.size = w33.heap.size + 1 := by simp
                omega, fun e => hne (e ▸ hk), by have := ho40.lt _ hk; simpa [World.setCell] using this⟩⟩
        · go_simp
          refine hK _ _ (hT ((Fr.refl wr.drew (fun _ => False)).alloc _) (fun k h => h.elim)) ?_
          clear hK K
          have hf0 : Fr wr (wr.alloc (.cells #[.int .i64 0, .slice none 0 0] 71)).drew (fun _ => False) := ((Fr.refl wr (fun _ => False)).alloc _).drew
          obtain ⟨v33, w33, hrun33, ho33, hf33, hm33, -⟩ := app_ints (wr.alloc (.cells #[.int .i64 0, .slice none 0 0] 71)).drew (.slice none 0 0) y0 [] q0 (OwnN.nil _) (Hr0.out.keep hf0) (by simp; have := Hy0.out; omega)
          rw [List.nil_append] at ho33
          have hn33 : ∀ k, v33.ownBlock = some k → wr.heap.size + 1 ≤ k := fun k hk => by
            rcases hm33 k hk with h | h
            · simp [Value.ownBlock] at h
            · simpa using h
          replace hf33 : Fr (wr.alloc (.cells #[.int .i64 0, .slice none 0 0] 71)).drew w33 (fun _ => False) := hf33.mono (fun k _ h => by simp [Value.ownBlock] at h)
          refine wpT_one rfl rfl (fun K hK => ?_)
          refine op_append_run (.const (.slice none 0 0)) (.tmp 32) 28 rfl rfl rfl hrun33 ?_
          refine hK _ _ (hT hf33 (fun k h => h.elim)) ?_
          clear hK K
          simp only [Act.put, List.setIfInBounds_toArray, List.set_cons_zero, List.set_cons_succ]
          obtain ⟨v40, w40, hrun40, ho40, hf40, hm40, -⟩ := app_ints w33 v33 y1 q0 q1 ho33 (Hr1.out.keep (hf0.none hf33)) (by have := Hy0.out; have := Hy1.out; omega)
          obtain ⟨a40, l40, c40, rfl⟩ := ho40.reads.form
          refine wpT_one rfl rfl (fun K hK => ?_)
          refine op_append_run (.tmp 33) (.tmp 39) 28 rfl rfl rfl hrun40 ?_
          refine hK _ _ (hT hf40 (fun k hk => by have := hn33 k hk; omega)) ?_
          clear hK K
          simp only [Act.put, List.setIfInBounds_toArray, List.set_cons_zero, List.set_cons_succ]
          repeat (refine wpT_take (v := ?_) rfl rfl (fun x hx => ?_) ?_; rotate_left; (focus (go_simp; with_reducible rfl)); simp only [Act.put, List.setIfInBounds_toArray, List.set_cons_zero, List.set_cons_succ])
          have hg8 : w40.heap[wr.heap.size]? = some (.cells #[.int .i64 0, .slice none 0 0] 71 (0, 0)) := hf40.kept (hf33.kept (heap_alloc_new _ _) (fun h => h)) (fun h => by have := hn33 _ h; omega)
          have f8 : ∀ j, w40.frozen? ⟨wr.heap.size, j, none⟩ = false := fun j => two_free hg8 j
          have c80 := two_cell0 hg8
          have c81 := two_cell1 hg8
          refine wpT_one rfl rfl (fun K hK => ?_)
          go_simp
          refine hK _ _ ((Fr.refl w40 _).setCell ⟨wr.heap.size, 0, none⟩ (fun _ => Nat.le_refl _) _ |>.setCell ⟨wr.heap.size, 1, none⟩ (fun _ => Nat.le_refl _) _) ?_
          clear hK K
          have hb6 := two_set1 (two_set0 hg8 (u := .int .i64 ((x0 : Int) + (x1 : Int)))) (u := .slice a40 l40 c40)
          have hf6 : Fr wr w40 (fun _ => False) := (hf0.none hf33).newer hf40 (fun k hk => by have := hn33 k hk; omega)
          have hf7 : Fr wr ((w40.setCell ⟨wr.heap.size, 0, none⟩ (.int .i64 ((x0 : Int) + (x1 : Int)))).setCell ⟨wr.heap.size, 1, none⟩ (.slice a40 l40 c40)) (fun _ => False) :=
            (hf6.setCell ⟨wr.heap.size, 0, none⟩ (fun h => by simp at h) _).setCell ⟨wr.heap.size, 1, none⟩ (fun h => by simp at h) _
          have hne : (Value.slice a40 l40 c40).ownBlock ≠ some wr.heap.size := fun h => by
            rcases hm40 _ h with h1 | h1
            · have := hn33 _ h1; omega
            · have := hf33.size; simp at this; omega
          have hr7 := ho40.reads.frame (((Fr.refl w40 (fun k => k = wr.heap.size)).setCell ⟨wr.heap.size, 0, none⟩ (fun _ => rfl) (.int .i64 ((x0 : Int) + (x1 : Int)))).setCell ⟨wr.heap.size, 1, none⟩ (fun _ => rfl) (.slice a40 l40 c40)) (fun k hk h => hne (h ▸ hk))
          unfold wpT
          go_wp2_with fail
          go_meet
          case rel => exact ⟨_, _, rfl, hb6, hr7, hf7, Nat.le_refl _, fun k hk => ⟨by
            rcases hm40 k hk with h | h
            · have := hn33 k h; omega
            · have := hf33.size; simp at this; omega, fun e => hne (e ▸ hk), by have := ho40.lt _ hk; simpa [World.setCell] using this⟩⟩
      case rest =>
        obtain ⟨g, y, rfl, hblk, hry, hfc, hg8, hyb⟩ := hcut
        have hstep := pk_drop_two (ls := fsts ls) (i := i) (by unfold fsts; rw [List.length_map, ← Hnl.out]; exact hlt)
        have e0 : (fsts ls).getD i [] = q0 := by rw [List.getD_eq_getElem?_getD, fsts_get Hp0.out]; rfl
        have e1 : (fsts ls).getD (i + 1) [] = q1 := by rw [List.getD_eq_getElem?_getD, fsts_get Hp1.out]; rfl
        rw [e0, e1] at hstep
        have hst := Hst.out
        rw [hstep] at hst
        have Hst2 : Hid _ := hst
        obtain ⟨X, hX⟩ : ∃ X, X = x0 + x1 := ⟨_, rfl⟩
        rw [← hX] at hblk
        have HX : Hid (X = W wt (q0 ++ q1)) := by show _ = _; rw [W_append, hX, Hx0.out, Hx1.out]
        have hXb : X ≤ 9223372036854775806 := by omega
        obtain ⟨ay, ly, cy, rfl⟩ := hry.form
        have Hblk : Hid _ := hblk
        have Hry : Hid (Reads .i64 wc (.slice ay ly cy) (q0 ++ q1)) := hry
        have Hyb : Hid _ := hyb
        have HyN : Hid (∀ k, (Value.slice ay ly cy).ownBlock = some k → w.heap.size ≤ k) := fun k hk => Nat.le_trans hf.size (hyb k hk).1
        have Hoc : Hid (OwnI wt wc u5 rs) := Ho.out.keep hfc
        have Hu5 : Hid (∀ k, u5.ownBlock = some k → k < wr.heap.size) := Ho.out.lt
        have hfwc := hf.none hfc
        have hglt : g < wc.heap.size := lt_of_block hblk
        clear hst hstep e0 e1 hX hblk hry hyb k0 k1 j0 j1 hw0 hw1 hsum hwr hi1 hi2 hi3 hi4 hi5
        go_wp2_with fail
        go_loopg [5, 6] (nc - n) (fun gg S N wi => ∃ (m : Nat) (ts : List Pk), gg = nc - m ∧ m ≤ nc ∧ N = .int .i64 (m : Int) ∧ OwnI wt wi S ts ∧ ts.length ≤ m + i ∧ fsts ts ++ mg wt ((fsts cs).drop m) ((q0 ++ q1) :: pk ((fsts ls).drop (i + 2))) = mg wt (fsts cs) (pk (fsts ls)) ∧ Fr w wi (fun _ => False) ∧ Off S ts ∧ (∀ k, S.ownBlock = some k → w.heap.size ≤ k ∧ k ≠ g ∧ (Value.slice ay ly cy).ownBlock ≠ some k) ∧
          wi.heap[g]? = some (.cells #[.int .i64 (X : Int), .slice ay ly cy] 71 (0, 0)) ∧ Reads .i64 wi (.slice ay ly cy) (q0 ++ q1) ∧ (∀ k, (Value.slice ay ly cy).ownBlock = some k → k < wi.heap.size) ∧ New w.heap.size cs ts)
        case atStart => exact ⟨n, rs, rfl, hn, rfl, Hoc.out, hrl, Hst2.out, hfwc, Hoff.out, fun k hk => ⟨Hnew.out k hk, by have := Hu5.out k hk; omega, fun h => by have := Hu5.out k hk; have := (Hyb.out k h).1; omega⟩, Hblk.out, Hry.out, fun k hk => (Hyb.out k hk).2.2, Hnw0.out⟩
        case round =>
          obtain ⟨m, ts, hgg, hm, rfl, hoi, htl, hti, hfi, hofi, hSi, hbi, hri, hyl, hnt⟩ := hrel
          have Hnt : Hid _ := hnt
          clear hnt
          have Hylt : Hid _ := hyl
          clear hyl
          have Hgg : Hid _ := hgg
          have Hti : Hid _ := hti
          have hw : ∀ x, Fr wr.drew x (fun _ => False) → x.cell? ⟨g, 0, none⟩ = some (.int .i64 (X : Int)) := fun x hx => two_cell0 (((Fr.refl wr (fun _ => False)).drew.none hx).kept hbi (fun h => h))
          clear hgg hti
          by_cases hmc : m < nc
          · obtain ⟨pc, hpc⟩ : ∃ p, cs[m]? = some p := ⟨_, List.getElem?_eq_getElem (by rw [← Hnc.out]; exact hmc)⟩
            obtain ⟨b2, off2, cp2, e, cc0, cd0, rc0⟩ := (Hc.out.keep hfi).get m pc hpc
            simp only [Value.slice.injEq] at e
            obtain ⟨rfl, -, rfl⟩ := e
            obtain ⟨sc, yc⟩ := pc
            obtain ⟨C, hC⟩ : ∃ C, C = W wt sc := ⟨_, rfl⟩
            rw [← hC] at cc0
            have hb2 : b2 < wr.heap.size := World.block_lt_of_cell? _ _ cc0
            have kc : ∀ x, Fr wr.drew x (fun _ => False) → x.cell? ⟨b2, off2 + m * 2, none⟩ = some (.int .i64 (C : Int)) := fun x hx => by
              rw [World.cell?_of_block (w := wr) (hx.block b2 hb2 (fun h => h))]
              exact cc0
            obtain ⟨ac', lc', cc', rfl⟩ := rc0.form
            have Hpc : Hid _ := hpc
            have HC : Hid _ := hC
            have hm1 : (m : Int) < (nc : Int) := by omega
            clear hpc hC
            by_cases hle : C ≤ X
            · have hd : decide ((C : Int) ≤ (X : Int)) = true := by simp; omega
              have Hbi : Hid _ := hbi
              have Hri : Hid (Reads .i64 wr (.slice ay ly cy) (q0 ++ q1)) := hri
              have Hrc : Hid (Reads .i64 wr (.slice ac' lc' cc') sc) := rc0
              have Hcc : Hid _ := cc0
              have Hcd : Hid _ := cd0
              clear hbi hri rc0 cc0 cd0
              go_wp2
              refine wp_region_all (fun _ => False) [.c ?_, .c ?_, .c ?_, .c ?_, .c ?_, .c ?_, .c ?_, .c ?_, .c ?_, .c ?_, .c ?_, .c ?_, .c ?_, .c ?_] (by kernel_rfl) (by kernel_rfl) rfl ?last ?walk
              case last => repeat (first | exact Lasts.nil | refine Lasts.c ?_)
              case walk =>
                repeat (first | (refine wpAll_take rfl rfl (fun x hx => ?_) ?_; (focus (go_simp; with_reducible rfl)); simp only [Act.put, List.setIfInBounds_toArray, List.set_cons_zero, List.set_cons_succ]) | (refine wpAll_pass rfl rfl ?_ ?_; (focus rfl); simp only [Act.put, List.setIfInBounds_toArray, List.set_cons_zero, List.set_cons_succ]))
                refine wpAll_nil (fun wx hfx _ => ?_)
                replace hfx := (Fr.refl wr (fun _ => False)).drew.none hfx
                have cx0 : wx.cell? ⟨b2, off2 + m * 2, none⟩ = some (.int .i64 (C : Int)) := by rw [World.cell?_of_block (w := wr) (hfx.block b2 hb2 (fun h => h))]; exact Hcc.out
                have cx1 : wx.cell? ⟨b2, off2 + m * 2 + 1, none⟩ = some (.slice ac' lc' cc') := by rw [World.cell?_of_block (w := wr) (hfx.block b2 hb2 (fun h => h))]; exact Hcd.out
                have hox := hoi.keep hfx
                have hscb : ∀ k, (Value.slice ac' lc' cc').ownBlock = some k → 0 < sc.length → k < w.heap.size := fun k hk hl => good_older Hc.out.2 (sc, .slice ac' lc' cc') (List.mem_of_getElem? Hpc.out) k hk hl
                obtain ⟨v5, w5, hrun5, ho5, hf5, hm5⟩ := app_item_lit wt wx u5 ts sc (.slice ac' lc' cc') (C : Int) (by rw [HC.out]) hox (Hrc.out.keep hfx) (by omega) (fun p hp k hk hl => by
                  rcases List.mem_append.1 hp with h | h
                  · exact hofi p h k hk hl
                  · simp at h
                    subst h
                    intro h2
                    have := (hSi k h2).1
                    have := hscb k hk hl
                    omega)
                have hfwx := hfi.none hfx
                have Hro : Hid (OwnI wt w5 v5 (ts ++ [(sc, .slice ac' lc' cc')])) := ho5
                have Hfo : Hid (Fr w w5 (fun _ => False)) := hfwx.newer hf5 (fun k hk => (hSi k hk).1)
                have Hbo : Hid _ := hf5.kept (hfx.kept Hbi.out (fun h => h)) (fun h => (hSi g h).2.1 rfl)
                have Hrr : Hid (Reads .i64 w5 (.slice ay ly cy) (q0 ++ q1)) := (Hri.out.keep hfx).frame hf5 (fun k hk h => (hSi k h).2.2 hk)
                have Hnw : Hid (∀ k, v5.ownBlock = some k → w.heap.size ≤ k ∧ k ≠ g ∧ (Value.slice ay ly cy).ownBlock ≠ some k) := fun k hk => by
                  rcases hm5 k hk with h | h
                  · exact hSi k h
                  · have h1 := hfwx.size
                    have h2 := hfx.size
                    have h3 := lt_of_block Hbi.out
                    refine ⟨by omega, by omega, fun h4 => ?_⟩
                    have := Hylt.out k h4
                    omega
                have Hyo : Hid (∀ k, (Value.slice ay ly cy).ownBlock = some k → k < w5.heap.size) := fun k hk => by have := Hylt.out k hk; have := hfx.size; have := hf5.size; omega
                have Hof : Hid (Off v5 (ts ++ [(sc, .slice ac' lc' cc')])) := fun p hp k hk hl h5 => by
                  have hlt5 := good_older (hox.2.append (fun p hp => by simp at hp; subst hp; exact Hrc.out.keep hfx)) p hp k hk hl
                  rcases hm5 k h5 with h | h
                  · rcases List.mem_append.1 hp with h2 | h2
                    · exact hofi p h2 k hk hl h
                    · simp at h2
                      subst h2
                      have := (hSi k h).1
                      have := hscb k hk hl
                      omega
                  · omega
                clear ho5 hf5 hm5
                go_wp2_with (at_builtin; refine wpList_append_run rfl (.tmp 56) (.tmp 61) 68 rfl rfl rfl hrun5 ?_)
                go_roundg (nc - (m + 1))
                case rel =>
                  refine ⟨m + 1, _, rfl, by omega, by go_num, Hro.out, by simp; omega, ?_, Hfo.out, Hof.out, Hnw.out, Hbo.out, Hrr.out, Hyo.out, New.append Hnt.out (fun p hp => by simp at hp; subst hp; exact .inl (List.mem_of_getElem? Hpc.out))⟩
                  have := Hti.out
                  rw [mg_take_coin wt (fsts_get Hpc.out) (by rw [← HC.out, ← HX.out]; exact hle)] at this
                  rw [← this]
                  simp [fsts]
                case measure => rw [Hgg.out]; omega
            · have hd : decide ((C : Int) ≤ (X : Int)) = false := by simp; omega
              have Hex : Hid (∀ c, (fsts cs)[m]? = some c → W wt (q0 ++ q1) < W wt c) := fun c hc => by
                rw [fsts_get Hpc.out] at hc
                simp only [Option.some.injEq] at hc
                rw [← hc, ← HC.out, ← HX.out]
                omega
              go_wp2
              refine wp_region_all (fun _ => False) [.c ?_, .c ?_, .c ?_, .c ?_, .c ?_, .c ?_, .c ?_, .c ?_, .c ?_, .c ?_, .c ?_, .c ?_, .c ?_, .c ?_] (by kernel_rfl) (by kernel_rfl) rfl ?last ?walk
              case last => repeat (first | exact Lasts.nil | refine Lasts.c ?_)
              case walk =>
                repeat (first | (refine wpAll_take rfl rfl (fun x hx => ?_) ?_; (focus (go_simp; with_reducible rfl)); simp only [Act.put, List.setIfInBounds_toArray, List.set_cons_zero, List.set_cons_succ]) | (refine wpAll_pass rfl rfl ?_ ?_; (focus rfl); simp only [Act.put, List.setIfInBounds_toArray, List.set_cons_zero, List.set_cons_succ]))
                refine wpAll_nil (fun wx hfx _ => ?_)
                replace hfx := (Fr.refl wr (fun _ => False)).drew.none hfx
                have hox := hoi.keep hfx
                have hbx := hfx.kept hbi (fun h => h)
                have hrx := hri.keep hfx
                replace hfx := hfi.none hfx
                obtain ⟨v5, w5, hrun5, ho5, hf5, hm5⟩ := app_item_lit wt wx u5 ts (q0 ++ q1) (.slice ay ly cy) (X : Int) (by rw [HX.out]) hox hrx (by omega) (fun p hp k hk hl => by
                  rcases List.mem_append.1 hp with h | h
                  · exact hofi p h k hk hl
                  · simp at h
                    subst h
                    exact fun h2 => (hSi k h2).2.2 hk)
                have Hro : Hid (OwnI wt w5 v5 (ts ++ [(q0 ++ q1, .slice ay ly cy)])) := ho5
                have Hfo : Hid (Fr w w5 (fun _ => False)) := hfx.newer hf5 (fun k hk => (hSi k hk).1)
                have Hnw : Hid (∀ k, v5.ownBlock = some k → w.heap.size ≤ k) := fun k hk => by
                  rcases hm5 k hk with h | h
                  · exact (hSi k h).1
                  · have := hfx.size; omega
                have Hof : Hid (Off v5 (ts ++ [(q0 ++ q1, .slice ay ly cy)])) := fun p hp k hk hl h5 => by
                  have hlt5 := good_older (hox.2.append (fun p hp => by simp at hp; subst hp; exact hrx)) p hp k hk hl
                  rcases hm5 k h5 with h | h
                  · rcases List.mem_append.1 hp with h2 | h2
                    · exact hofi p h2 k hk hl h
                    · simp at h2
                      subst h2
                      exact (hSi k h).2.2 hk
                  · omega
                have cg0 := two_cell0 hbx
                have cg1 := two_cell1 hbx
                clear ho5 hf5 hm5 hbx hrx hox hfx
                go_wp2_with (at_builtin; refine wpList_append_run rfl (.tmp 65) (.tmp 67) 68 rfl rfl rfl hrun5 ?_)
                go_roundg (nl - (i + 2))
                case rel =>
                  refine ⟨m, i + 2, _, rfl, by omega, hm, rfl, by go_num, Hro.out, by simp; omega, ?_, Hfo.out, Hof.out, Hnw.out, New.append Hnt.out (fun p hp => by simp at hp; subst hp; exact .inr HyN.out)⟩
                  have := Hti.out
                  rw [mg_take_pack wt Hex.out] at this
                  rw [← this]
                  simp [fsts]
                case measure => rw [Hg.out]; omega
          · have hm1 : ¬ (m : Int) < (nc : Int) := by omega
            have hm2 : decide ((m : Int) < (nc : Int)) = false := decide_eq_false hm1
            have Hex : Hid (∀ c, (fsts cs)[m]? = some c → W wt (q0 ++ q1) < W wt c) := fun c hc => by
              have := (List.getElem?_eq_some_iff.1 hc).1
              unfold fsts at this
              rw [List.length_map, ← Hnc.out] at this
              omega
            go_wp2
            refine wp_region_all (fun _ => False) [.c ?_, .c ?_, .c ?_, .c ?_, .c ?_, .c ?_, .c ?_, .c ?_, .c ?_, .c ?_, .c ?_, .c ?_, .c ?_, .c ?_] (by kernel_rfl) (by kernel_rfl) rfl ?last ?walk
            case last => repeat (first | exact Lasts.nil | refine Lasts.c ?_)
            case walk =>
              repeat (first | (refine wpAll_take rfl rfl (fun x hx => ?_) ?_; (focus (go_simp; with_reducible rfl)); simp only [Act.put, List.setIfInBounds_toArray, List.set_cons_zero, List.set_cons_succ]) | (refine wpAll_pass rfl rfl ?_ ?_; (focus rfl); simp only [Act.put, List.setIfInBounds_toArray, List.set_cons_zero, List.set_cons_succ]))
              refine wpAll_nil (fun wx hfx _ => ?_)
              replace hfx := (Fr.refl wr (fun _ => False)).drew.none hfx
              have hox := hoi.keep hfx
              have hbx := hfx.kept hbi (fun h => h)
              have hrx := hri.keep hfx
              replace hfx := hfi.none hfx
              obtain ⟨v5, w5, hrun5, ho5, hf5, hm5⟩ := app_item_lit wt wx u5 ts (q0 ++ q1) (.slice ay ly cy) (X : Int) (by rw [HX.out]) hox hrx (by omega) (fun p hp k hk hl => by
                rcases List.mem_append.1 hp with h | h
                · exact hofi p h k hk hl
                · simp at h
                  subst h
                  exact fun h2 => (hSi k h2).2.2 hk)
              have Hro : Hid (OwnI wt w5 v5 (ts ++ [(q0 ++ q1, .slice ay ly cy)])) := ho5
              have Hfo : Hid (Fr w w5 (fun _ => False)) := hfx.newer hf5 (fun k hk => (hSi k hk).1)
              have Hnw : Hid (∀ k, v5.ownBlock = some k → w.heap.size ≤ k) := fun k hk => by
                rcases hm5 k hk with h | h
                · exact (hSi k h).1
                · have := hfx.size; omega
              have Hof : Hid (Off v5 (ts ++ [(q0 ++ q1, .slice ay ly cy)])) := fun p hp k hk hl h5 => by
                have hlt5 := good_older (hox.2.append (fun p hp => by simp at hp; subst hp; exact hrx)) p hp k hk hl
                rcases hm5 k h5 with h | h
                · rcases List.mem_append.1 hp with h2 | h2
                  · exact hofi p h2 k hk hl h
                  · simp at h2
                    subst h2
                    exact (hSi k h).2.2 hk
                · omega
              have cg0 := two_cell0 hbx
              have cg1 := two_cell1 hbx
              clear ho5 hf5 hm5 hbx hrx hox hfx
              go_wp2_with (at_builtin; refine wpList_append_run rfl (.tmp 65) (.tmp 67) 68 rfl rfl rfl hrun5 ?_)
              go_roundg (nl - (i + 2))
              case rel =>
                refine ⟨m, i + 2, _, rfl, by omega, hm, rfl, by go_num, Hro.out, by simp; omega, ?_, Hfo.out, Hof.out, Hnw.out, New.append Hnt.out (fun p hp => by simp at hp; subst hp; exact .inr HyN.out)⟩
                have := Hti.out
                rw [mg_take_pack wt Hex.out] at this
                rw [← this]
                simp [fsts]
              case measure => rw [Hg.out]; omega
    · have hlast : pk ((fsts ls).drop i) = [] := by
        have hl1 : ((fsts ls).drop i).length ≤ 1 := by rw [List.length_drop]; unfold fsts; rw [List.length_map, ← Hnl.out]; omega
        match h : (fsts ls).drop i with
        | [] => rfl
        | [_] => rfl
        | _ :: _ :: _ => rw [h] at hl1; simp at hl1
      have hdrop := (Hc.out.keep hf).drop Hnc.out.symm n hn
      have hold : ∀ p ∈ rs ++ cs.drop n, ∀ k, p.2.ownBlock = some k → 0 < p.1.length → u5.ownBlock ≠ some k := fun p hp k hk hl h5 => by
        rcases List.mem_append.1 hp with h | h
        · exact Hoff.out p h k hk hl h5
        · have := good_older Hc.out.2 p (List.mem_of_mem_drop h) k hk hl
          have := Hnew.out k h5
          omega
      obtain ⟨v5, w5, hrun5, ho5, hf5, hm5⟩ := app_items wt wr u5 _ rs (cs.drop n) Ho.out hdrop (by rw [List.length_drop, ← Hnc.out]; omega) hold
      have Hres : Hid (fsts (rs ++ cs.drop n) = mg wt (fsts cs) (pk (fsts ls))) := by
        have := Hst.out
        rw [hlast, mg_nil_right] at this
        show _ = _
        rw [← this]
        simp [fsts, List.map_drop]
      have Hro : Hid (OwnI wt w5 v5 (rs ++ cs.drop n)) := ho5
      have Hfo : Hid (Fr w w5 (fun _ => False)) := hf.newer hf5 (fun k hk => Hnew.out k hk)
      have Hof : Hid (Off v5 (rs ++ cs.drop n)) := fun p hp k hk hl h5 => by
        have hlt5 := good_older (Ho.out.2.append hdrop.2) p hp k hk hl
        rcases hm5 k h5 with h | h
        · exact hold p hp k hk hl h
        · omega
      clear hlast hdrop hold ho5 hf5 hm5
      go_wp2_with (at_builtin; refine wpList_append_run rfl (.tmp 69) (.tmp 72) 68 rfl rfl rfl hrun5 ?_)
      all_goals (go_ret; first | exact ⟨v5, rfl, rs ++ cs.drop n, Hro.out, Hres.out, Hfo.out, Hof.out, New.append Hnw0.out (fun p hp => .inl (List.mem_of_mem_drop hp))⟩ | exact ⟨v5, rs ++ cs.drop n, rfl, Hro.out, Hres.out, Hfo.out, Hof.out, New.append Hnw0.out (fun p hp => .inl (List.mem_of_mem_drop hp))⟩)

end Go.Proofs.Ytclfbdfgmeliaaa

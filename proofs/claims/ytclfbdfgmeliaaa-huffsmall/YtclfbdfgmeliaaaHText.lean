/-
  The laws' own text of numbers: its contract.
-/
import Derived.Test.YtclfbdfgmeliaaaBytes
import Derived.Test.YtclfbdfgmeliaaaTree
import Derived.Test.YtclfbdfgmeliaaaHRCnt
namespace Go.Proofs.Ytclfbdfgmeliaaa
open Go.RowKit

/-- The byte that a number stands for, and how often. -/
def tb (x k : Nat) : Nat := [97, 98, x, x / 16, 0, 255].getD ((x + k) % 6) 0
def tn (x k : Nat) : Nat := x % 8 / (k % 3 + 1) + 1
def textOf (ls : List Nat) (k : Nat) : List Nat := ls.flatMap fun x => List.replicate (tn x k) (tb x k)

theorem tb_lt (x k : Nat) (h : x < 256) : tb x k < 256 := by
  unfold tb
  have : (x + k) % 6 < 6 := Nat.mod_lt _ (by omega)
  match (x + k) % 6, this with
  | 0, _ => simp
  | 1, _ => simp
  | 2, _ => simpa using h
  | 3, _ => simp; omega
  | 4, _ => simp
  | 5, _ => simp
theorem tn_le (x k : Nat) : tn x k ≤ 8 := by
  unfold tn
  have h1 : x % 8 / (k % 3 + 1) ≤ x % 8 := Nat.div_le_self _ _
  omega
theorem text_lt (ls : List Nat) (k : Nat) (h : ∀ x ∈ ls, x < 256) : ∀ y ∈ textOf ls k, y < 256 := fun y hy => by
  obtain ⟨x, hx, hy⟩ := List.mem_flatMap.1 hy
  have := List.eq_of_mem_replicate hy
  rw [this]
  exact tb_lt x k (h x hx)
theorem text_len (ls : List Nat) (k : Nat) : (textOf ls k).length ≤ 8 * ls.length := by
  induction ls with
  | nil => simp [textOf]
  | cons x ls ih =>
    have := tn_le x k
    unfold textOf at ih ⊢
    rw [List.flatMap_cons, List.length_append, List.length_replicate, List.length_cons]
    omega
theorem text_step (ls : List Nat) (k i : Nat) (h : i < ls.length) : textOf (ls.take (i + 1)) k = textOf (ls.take i) k ++ List.replicate (tn (ls.getD i 0) k) (tb (ls.getD i 0) k) := by
  unfold textOf
  rw [take_step h, List.flatMap_append]
  simp

set_option maxRecDepth 4000 in
set_option maxHeartbeats 1600000 in
theorem text_any (v : Value) (ls : List Nat) (k : Nat) (w : World) (h : Reads .u8 w v ls) (hb : ∀ x ∈ ls, x < 256) (hk : k < 256) (hl : ls.length ≤ 1000) :
    Calls Try.prog 9 #[v, .int .u8 (k : Int)] w fun e w' => ∃ sv, e = .returned sv ∧ Own w' sv (textOf ls k) ∧ Fr w w' (fun _ => False) ∧ (∀ k, sv.ownBlock = some k → w.heap.size ≤ k) := by
  obtain ⟨a0, c0, rfl, hc0, -⟩ := id h
  rw [length_row] at h hc0 ⊢
  obtain ⟨n, hn⟩ : ∃ n, n = ls.length := ⟨_, rfl⟩
  rw [← hn] at h hl hc0 ⊢
  have Hr : Hid (Reads .u8 w (.slice a0 n c0) ls) := h
  have Hn : Hid _ := hn
  have Hb : Hid _ := hb
  clear h hn hb
  go_enter Try.func9, Try.ntmps9
  go_wp2_with fail
  go_loopg [5, 6] n (fun g B I wr => ∃ i : Nat, g = n - i ∧ i ≤ n ∧ I = .int .i64 (i : Int) ∧ Own wr B (textOf (ls.take i) k) ∧ Fr w wr (fun _ => False) ∧ (∀ k, B.ownBlock = some k → w.heap.size ≤ k))
  case atStart => exact ⟨0, rfl, by omega, rfl, Own.nil _, Fr.refl _ _, fun k hk => by simp [Value.ownBlock] at hk⟩
  case round =>
    obtain ⟨i, hg, hi, rfl, ho, hf, hnw⟩ := hrel
    have Hg : Hid _ := hg
    have Ho : Hid (Own wr u5 (textOf (ls.take i) k)) := ho
    have Hf : Hid (Fr w wr (fun _ => False)) := hf
    have Hnw : Hid _ := hnw
    clear hg ho hf hnw
    by_cases hlt : i < n
    · obtain ⟨bb, ob, rfl, hbb, cx⟩ := Hr.out.at Hn.out i hlt
      obtain ⟨x, hx⟩ : ∃ x, x = ls.getD i 0 := ⟨_, rfl⟩
      have hx256 : x < 256 := by rw [hx]; exact Hb.out _ (getD_mem (by rw [← Hn.out]; exact hlt))
      have Hstep : Hid (textOf (ls.take (i + 1)) k = textOf (ls.take i) k ++ List.replicate (tn x k) (tb x k)) := by rw [hx]; exact text_step ls k i (by rw [← Hn.out]; exact hlt)
      rw [← hx] at cx
      have Hcx : Hid (∀ z, Fr w z (fun _ => False) → z.cell? ⟨bb, ob + i, none⟩ = some (.int .u8 (x : Int))) := fun z hz => by
        rw [World.cell?_of_block (w := w) (hz.block bb hbb (fun h => h))]
        exact cx
      have cx1 := Hcx.out wr Hf.out
      have hlen := text_len (ls.take i) k
      rw [List.length_take] at hlen
      obtain ⟨x8, hx8⟩ : ∃ y, y = x % 8 := ⟨_, rfl⟩
      obtain ⟨k3, hk3⟩ : ∃ y, y = k % 3 + 1 := ⟨_, rfl⟩
      obtain ⟨q, hq⟩ : ∃ y, y = x8 / k3 := ⟨_, rfl⟩
      obtain ⟨N, hN⟩ : ∃ y, y = tn x k := ⟨_, rfl⟩
      have hNq : N = q + 1 := by rw [hN, hq, hx8, hk3]; rfl
      have hN8 : N ≤ 8 := by rw [hN]; exact tn_le x k
      have r1 : (x : Int).tmod 8 = (x8 : Int) := by rw [Int.tmod_eq_emod_of_nonneg (by omega)]; omega
      have r2 : (k : Int).tmod 3 = (k3 : Int) - 1 := by rw [Int.tmod_eq_emod_of_nonneg (by omega)]; omega
      have r1b : (x : Int) % 8 = (x8 : Int) := by omega
      have r2b : (k : Int) % 3 = (k3 : Int) - 1 := by omega
      have r3 : (k3 : Int) - 1 + 1 = (k3 : Int) := by omega
      have hk3b : 0 < k3 ∧ k3 ≤ 3 := by omega
      have r4 : ((k3 : Int) == 0) = false := by rw [beq_eq_false_iff_ne]; omega
      have r5 : (x8 : Int).tdiv (k3 : Int) = (q : Int) := by rw [Int.tdiv_eq_ediv_of_nonneg (by omega), hq]; simp
      have r6 : (q : Int) + 1 = (N : Int) := by omega
      have hi1 : (i : Int) < (n : Int) := by omega
      rw [← hN] at Hstep
      have hx8b : x8 < 8 := by omega
      have hqb : q < 8 := by omega
      obtain ⟨x16, hx16⟩ : ∃ y, y = x / 16 := ⟨_, rfl⟩
      obtain ⟨m, hm⟩ : ∃ y, y = (x + k) % 6 := ⟨_, rfl⟩
      obtain ⟨y, hy⟩ : ∃ y, y = tb x k := ⟨_, rfl⟩
      have r7 : (x : Int).tdiv 16 = (x16 : Int) := by rw [Int.tdiv_eq_ediv_of_nonneg (by omega)]; omega
      have r7b : (x : Int) / 16 = (x16 : Int) := by omega
      have r8 : ((x : Int) + (k : Int)).tmod 6 = (m : Int) := by rw [Int.tmod_eq_emod_of_nonneg (by omega)]; omega
      have r8b : ((x : Int) + (k : Int)) % 6 = (m : Int) := by omega
      have hm6 : m < 6 := by omega
      have q1 : IntKind.u8.wrap (x16 : Int) = (x16 : Int) := by rw [IntKind.wrap_u8]; omega
      have q2 : IntKind.i64.wrap (x : Int) = (x : Int) := IntWalk.i64_in _ (by omega)
      have q3 : IntKind.i64.wrap (k : Int) = (k : Int) := IntWalk.i64_in _ (by omega)
      have q4 : IntKind.i64.wrap ((x : Int) + (k : Int)) = (x : Int) + (k : Int) := IntWalk.i64_in _ (by omega)
      have q5 : IntKind.i64.wrap (m : Int) = (m : Int) := IntWalk.i64_in _ (by omega)
      have hm6i : (m : Int) < 6 := by omega
      have hx16b : x16 < 16 := by omega
      have Hy : Hid ([97, 98, x, x16, 0, 255].getD m 0 = y) := by show _ = _; rw [hy, hm, hx16]; rfl
      rw [← hy] at Hstep
      have hyb : y < 256 := by rw [hy]; exact tb_lt x k hx256
      obtain ⟨T0, hT0⟩ : ∃ y, y = textOf (ls.take i) k := ⟨_, rfl⟩
      rw [← hT0] at Hstep Ho hlen
      have hT0b : T0.length ≤ 8000 := by omega
      clear hx hx8 hk3 hq hNq cx hN hx16 hm hy hT0 hlen
      go_wp2_with fail
      go_loopg [5, 8] N (fun g B J w2 => ∃ j : Nat, g = N - j ∧ j ≤ N ∧ J = .int .i64 (j : Int) ∧ Own w2 B (T0 ++ List.replicate j y) ∧ Fr w w2 (fun _ => False) ∧ (∀ k, B.ownBlock = some k → w.heap.size ≤ k))
      case atStart => exact ⟨0, rfl, by omega, rfl, by simpa using Ho.out, Hf.out, Hnw.out⟩
      case round =>
        clear cx1 Ho Hf Hnw
        obtain ⟨j, hg2, hj, rfl, ho2, hf2, hnw2⟩ := hrel
        have Hg2 : Hid _ := hg2
        have Ho2 : Hid (Own wr u5 (T0 ++ List.replicate j y)) := ho2
        have Hf2 : Hid (Fr w wr (fun _ => False)) := hf2
        have Hnw2 : Hid (∀ k, u5.ownBlock = some k → w.heap.size ≤ k) := hnw2
        clear hg2 ho2 hf2 hnw2
        by_cases hjt : j < N
        · have hj1 : (j : Int) < (N : Int) := by omega
          have kx : ∀ z, Fr wr.drew z (fun k => u5.ownBlock = some k) → z.cell? ⟨bb, ob + i, none⟩ = some (.int .u8 (x : Int)) := fun z hz => Hcx.out z (Hf2.out.drew.newer hz Hnw2.out)
          have hlB : (T0 ++ List.replicate j y).length ≤ 9000 := by rw [List.length_append, List.length_replicate]; omega
          obtain ⟨wA, hwA⟩ : ∃ wA, wA = wr.drew.alloc (.cells #[.int .u8 97, .int .u8 98, .int .u8 (x : Int), .int .u8 (x16 : Int), .int .u8 0, .int .u8 255] 5) := ⟨_, rfl⟩
          have hfA : Fr wr.drew wA (fun k => u5.ownBlock = some k) := by rw [hwA]; exact (Fr.refl _ _).alloc _
          have hfA' : Fr wr wA (fun _ => False) := by rw [hwA]; exact ((Fr.refl wr (fun _ => False)).drew).alloc _
          have hoA : Own wA u5 (T0 ++ List.replicate j y) := Ho2.out.frame hfA' (fun _ _ h => h)
          have kc : ∀ z, Fr wA z (fun k => u5.ownBlock = some k) → z.cell? ⟨wr.heap.size, m, none⟩ = some (.int .u8 (y : Int)) := fun z hz => by
            have h1 : Reads .u8 wA (.slice (some ⟨wr.heap.size, 0, none⟩) 6 6) [97, 98, x, x16, 0, 255] := by rw [hwA]; exact holds_lit wr.drew 5 [.int .u8 97, .int .u8 98, .int .u8 (x : Int), .int .u8 (x16 : Int), .int .u8 0, .int .u8 255] (by simp)
            have h2 := h1.frame hz (fun k hk h3 => by
              simp [Value.ownBlock] at hk
              have := Ho2.out.lt k h3
              omega)
            obtain ⟨b, off, e, -, hc⟩ := h2.at rfl m hm6
            simp only [Option.some.injEq, Addr.mk.injEq] at e
            rw [Hy.out, ← e.1, ← e.2.1, Nat.zero_add] at hc
            exact hc
          obtain ⟨v7, w7, hrun7, ho7, hf7c, hm7c, -⟩ := app_bytes (wA.alloc (.cells #[.int .u8 (y : Int)] 5)) u5 (.slice (some ⟨wA.heap.size, 0, none⟩) 1 1) _ [y] (hoA.alloc _) (holds_lit wA 5 [.int .u8 (y : Int)] (by simp)) (by simp; omega)
          have hf7 : Fr wA w7 (fun k => u5.ownBlock = some k) := ((Fr.refl wA _).alloc _).trans hf7c (fun _ _ h => h)
          have hm7 : Moved wA u5 v7 := hm7c.mono' (by simp)
          have Ho7 : Hid (Own w7 v7 (T0 ++ List.replicate (j + 1) y)) := by rw [List.replicate_succ', ← List.append_assoc]; exact ho7
          have Hf7 : Hid (Fr w w7 (fun _ => False)) := (Hf2.out.none hfA').newer hf7 Hnw2.out
          have Hn7 : Hid (∀ k, v7.ownBlock = some k → w.heap.size ≤ k) := fun k hk => by
            rcases hm7 k hk with h2 | h2
            · exact Hnw2.out k h2
            · have := Hf2.out.size; have := hfA'.size; omega
          have HfB : Hid (Fr wA w7 (fun k => u5.ownBlock = some k)) := hf7
          have HfA : Hid (Fr wr.drew wA (fun k => u5.ownBlock = some k)) := hfA
          have HfC : Hid (Fr (wA.alloc (.cells #[.int .u8 (y : Int)] 5)) w7 (fun k => u5.ownBlock = some k)) := hf7c
          clear ho7 hf7 hm7 hf7c hm7c hfA hfA' hoA
          have HwA : Hid (wA = (wr.alloc (.cells #[.int .u8 97, .int .u8 98, .int .u8 (x : Int), .int .u8 (x16 : Int), .int .u8 0, .int .u8 255] 5)).drew) := hwA
          clear hwA
          go_wp2
          refine wp_region_tree (fun k => u5.ownBlock = some k) (.take 0 (.take 1 (.take 2 (.take 3 (.take 4 (.take 5 (.take 6 (.take 7 (.take 8 (.take 9 (.take 11 (.take 12 (.take 13 (.take 14 (.take 15 (.take 16 (.take 17 (.take 18 (.take 19 (.one 10 (.take 20 (.take 21 (.one 22 (.one 23 (.take 24 .nil))))))))))))))))))))))))) (by kernel_rfl) (by kernel_rfl) (by decide) (by kernel_rfl) ?_
          repeat (refine wpT_take (v := ?_) rfl rfl (fun x hx => ?_) ?_; rotate_left; (focus (go_simp; with_reducible rfl)); simp only [Act.put, List.setIfInBounds_toArray, List.set_cons_zero, List.set_cons_succ])
          refine wpT_one rfl rfl (fun K hK => ?_)
          go_simp
          rw [← HwA.out]
          refine hK _ _ HfA.out ?_
          clear hK K
          repeat (refine wpT_take (v := ?_) rfl rfl (fun x hx => ?_) ?_; rotate_left; (focus (go_simp; with_reducible rfl)); simp only [Act.put, List.setIfInBounds_toArray, List.set_cons_zero, List.set_cons_succ])
          refine wpT_one rfl rfl (fun K hK => ?_)
          go_simp
          refine hK _ _ ((Fr.refl _ _).alloc _) ?_
          clear hK K
          refine wpT_one rfl rfl (fun K hK => ?_)
          refine op_append_run (.tmp 32) (.tmp 54) 22 rfl rfl rfl hrun7 ?_
          refine hK _ _ HfC.out ?_
          clear hK K hrun7
          simp only [Act.put, List.setIfInBounds_toArray, List.set_cons_zero, List.set_cons_succ]
          repeat (refine wpT_take (v := ?_) rfl rfl (fun x hx => ?_) ?_; rotate_left; (focus (go_simp; with_reducible rfl)); simp only [Act.put, List.setIfInBounds_toArray, List.set_cons_zero, List.set_cons_succ])
          unfold wpT
          clear kx kc
          go_wp2_with fail
          go_roundg (N - (j + 1))
          case rel => exact ⟨j + 1, rfl, by omega, by go_num, Ho7.out, Hf7.out, Hn7.out⟩
          case measure => rw [Hg2.out]; omega
        · have hj1 : ¬ (j : Int) < (N : Int) := by omega
          have HoN : Hid (Own wr u5 (textOf (ls.take (i + 1)) k)) := by
            rw [Hstep.out, show N = j by omega]
            exact Ho2.out
          go_wp2_with fail
          go_roundg (n - (i + 1))
          case rel => exact ⟨i + 1, rfl, by omega, by go_num, HoN.out, Hf2.out, Hnw2.out⟩
          case measure => rw [Hg.out]; omega
    · have hi1 : ¬ (i : Int) < (n : Int) := by omega
      have hti : ls.take i = ls := List.take_of_length_le (by rw [← Hn.out]; omega)
      rw [hti] at Ho
      clear hti
      go_wp2_with fail
      go_ret
      exact ⟨_, rfl, Ho.out, Hf.out, Hnw.out⟩

end Go.Proofs.Ytclfbdfgmeliaaa

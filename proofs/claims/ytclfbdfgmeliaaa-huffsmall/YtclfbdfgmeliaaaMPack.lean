/-
  The contract of merge's packages.
-/
import Derived.Test.YtclfbdfgmeliaaaMItems
import Derived.Test.YtclfbdfgmeliaaaTree
namespace Go.Proofs.Ytclfbdfgmeliaaa
open Go.RowKit

/-- A list of packages as items that can be read. -/
def RdL (wt : Nat → Nat) (w : World) (v : Value) (ls : List (List Nat)) : Prop := RdX w v (ls.map (itm wt))
def OwnL (wt : Nat → Nat) (w : World) (v : Value) (ls : List (List Nat)) : Prop := OwnX w v (ls.map (itm wt))

theorem pk_step {ls : List (List Nat)} {i : Nat} {a b : List Nat} (ha : ls[i]? = some a) (hb : ls[i + 1]? = some b) : pk (ls.drop i) = (a ++ b) :: pk (ls.drop (i + 2)) := by
  obtain ⟨h1, rfl⟩ := List.getElem?_eq_some_iff.1 ha
  obtain ⟨h2, rfl⟩ := List.getElem?_eq_some_iff.1 hb
  rw [List.drop_eq_getElem_cons h1, List.drop_eq_getElem_cons h2, pk]
theorem pk_end {ls : List (List Nat)} {i : Nat} (h : ls.length ≤ i + 1) : pk (ls.drop i) = [] := by
  have hl : (ls.drop i).length ≤ 1 := by rw [List.length_drop]; omega
  match hh : ls.drop i with
  | [] => rfl
  | [_] => rfl
  | _ :: _ :: _ => rw [hh] at hl; simp at hl

set_option maxRecDepth 4000 in
set_option maxHeartbeats 800000 in
theorem packages_any (wt : Nat → Nat) (v : Value) (ls : List (List Nat)) (w : World) (h : RdL wt w v ls) (hl : ls.length ≤ 1000) (hW : ∀ y ∈ ls, W wt y ≤ 4611686018427387903) (hne : ∀ y ∈ ls, y ≠ []) :
    Calls Try.prog 53 #[v] w fun e w' => ∃ sv, e = .returned sv ∧ OwnL wt w' sv (pk ls) ∧ Fr w w' (fun _ => False) := by
  obtain ⟨a0, c0, rfl, hc0⟩ := RdX.form h
  rw [List.length_map] at hc0 h ⊢
  have Hz : Hid (RdL wt w (.slice a0 ls.length c0) ls) := h
  obtain ⟨n, hn⟩ : ∃ n, n = ls.length := ⟨_, rfl⟩
  rw [← hn] at Hz hc0 hl ⊢
  have Hn : Hid _ := hn
  have HW : Hid _ := hW
  have Hne : Hid _ := hne
  clear h hn hW hne
  go_enter Try.func53, Try.ntmps53
  go_wp2_with fail
  go_loopg [3, 4] n (fun g S I wr => ∃ (i k : Nat) (rs : List (List Nat)), g = n - i ∧ i ≤ n ∧ k = i + 1 ∧ I = .int .i64 (k : Int) ∧ OwnL wt wr S rs ∧ rs.length ≤ i ∧ rs ++ pk (ls.drop i) = pk ls ∧ Fr w wr (fun _ => False) ∧ (∀ k, S.ownBlock = some k → w.heap.size ≤ k))
  case atStart => exact ⟨0, 1, [], by omega, by omega, rfl, rfl, OwnX.nil _, by simp, by simp, Fr.refl _ _, fun k hk => (by simp [Value.ownBlock] at hk)⟩
  case round =>
    obtain ⟨i, k, rs, hg, hi, hki, rfl, ho, hrl, hst, hf, hnew⟩ := hrel
    have Hg : Hid _ := hg
    have Hst : Hid _ := hst
    have Ho : Hid (OwnL wt wr u3 rs) := ho
    have Hnew : Hid _ := hnew
    clear hg hst ho hnew
    by_cases hlt : k < n
    · obtain ⟨p0, hp0⟩ : ∃ p, ls[i]? = some p := ⟨_, List.getElem?_eq_getElem (by rw [← Hn.out]; omega)⟩
      obtain ⟨p1, hp1⟩ : ∃ p, ls[k]? = some p := ⟨_, List.getElem?_eq_getElem (by rw [← Hn.out]; omega)⟩
      obtain ⟨b, off, cp, e, hb0, kx⟩ := (RdX.keep Hz.out hf).get i (itm wt p0) (by rw [List.getElem?_map, hp0]; rfl)
      obtain ⟨b', off', cp', e', -, ky⟩ := (RdX.keep Hz.out hf).get k (itm wt p1) (by rw [List.getElem?_map, hp1]; rfl)
      have hbw : b < w.heap.size := by
        have := RdX.lt Hz.out (by rw [List.length_map, ← Hn.out]; omega) b (by simp only [Value.slice.injEq] at e; rw [e.1]; rfl)
        exact this
      simp only [Value.slice.injEq] at e e'
      obtain ⟨rfl, -, rfl⟩ := e
      obtain ⟨e', -, -⟩ := e'
      simp only [Option.some.injEq, Addr.mk.injEq, and_true] at e'
      obtain ⟨rfl, rfl⟩ := e'
      have hw0 : W wt p0 ≤ 4611686018427387903 := HW.out _ (List.mem_of_getElem? hp0)
      have hw1 : W wt p1 ≤ 4611686018427387903 := HW.out _ (List.mem_of_getElem? hp1)
      have Hit : Hid (itm wt (p0 ++ p1) = (((W wt p0 + W wt p1 : Nat) : Int), -1)) := by
        show _ = _
        unfold itm
        have h0 := List.length_pos_iff.2 (Hne.out _ (List.mem_of_getElem? hp0))
        have h1 := List.length_pos_iff.2 (Hne.out _ (List.mem_of_getElem? hp1))
        rw [symOf_pack (by simp [isP]; omega), W_append]
      have Hs2 : Hid (rs ++ [p0 ++ p1] ++ pk (ls.drop (i + 2)) = pk ls) := by
        show _ = _
        rw [← Hst.out, pk_step hp0 (by rw [← hki]; exact hp1)]
        simp
      unfold itm at kx ky
      generalize W wt p0 = x0 at hw0 Hit kx
      generalize W wt p1 = x1 at hw1 Hit ky
      have c0 := (kx wr (Fr.refl _ _)).1
      have c1 := (ky wr (Fr.refl _ _)).1
      have hkeep : ∀ (j : Nat) (u : Value), wr.cell? ⟨b, j, none⟩ = some u → ∀ x, Fr wr.drew x (fun k => u3.ownBlock = some k) → x.cell? ⟨b, j, none⟩ = some u := fun j u hu x hx => by
        rw [World.cell?_of_block (w := wr) (hx.block b hb0 (fun h => by have := Hnew.out b h; omega))]
        exact hu
      have k0 := hkeep _ _ c0
      have k1 := hkeep _ _ c1
      have hm1 : IntKind.i64.wrap ((k : Int) - 1) = (i : Int) := by rw [IntWalk.i64_in _ (by omega)]; omega
      have hsum : IntKind.i64.wrap ((x0 : Int) + (x1 : Int)) = ((x0 + x1 : Nat) : Int) := by rw [IntWalk.i64_in _ (by omega)]; omega
      have hi1 : (i : Int) < (n : Int) := by omega
      have hi2 : (k : Int) < (n : Int) := by omega
      have hi3 : i < n := by omega
      have Hki : Hid _ := hki
      clear kx ky c0 c1 hkeep hp0 hp1 hki
      go_wp2
      refine wp_region_tree (fun j => u3.ownBlock = some j) (.take 0 (.take 1 (.take 2 (.take 3 (.take 4 (.take 5 (.take 6 (.take 7 (.take 8 (.take 9 (.take 10 (.take 11 (.take 12 (.take 13 (.one 14 (.one 15 (.take 16 .nil))))))))))))))))) (by kernel_rfl) (by kernel_rfl) (by decide) (by kernel_rfl) ?_
      repeat (refine wpT_take (v := ?_) rfl rfl (fun x hx => ?_) ?_; rotate_left; (focus (go_simp; with_reducible rfl)); simp only [Act.put, List.setIfInBounds_toArray, List.set_cons_zero, List.set_cons_succ])
      refine wpT_one rfl rfl (fun K hK => ?_)
      go_simp
      refine hK _ _ (((Fr.refl wr.drew (fun _ => False)).alloc _).mono (fun _ _ h => h.elim)) ?_
      clear hK K
      have hf2 : Fr wr (wr.alloc (.cells #[.int .i64 ((x0 + x1 : Nat) : Int), .int .i64 (-1)] 77)).drew (fun _ => False) := ((Fr.refl wr (fun _ => False)).alloc _).drew
      have hu2 : RdX (wr.alloc (.cells #[.int .i64 ((x0 + x1 : Nat) : Int), .int .i64 (-1)] 77)).drew (.slice (some ⟨wr.heap.size, 0, none⟩) 1 1) [(((x0 + x1 : Nat) : Int), -1)] := RdX.keep (holdsN_lit 2 wr 77 1 (xrow [(((x0 + x1 : Nat) : Int), -1)]) (by simp [xrow, enc2]) (by omega)) (Fr.refl _ _).drew
      obtain ⟨v5, w5, hrun5, ho5, hf5, hm5⟩ := app_x _ u3 _ _ _ (OwnX.keep Ho.out hf2) hu2 (by simp; omega)
      refine wpT_one rfl rfl (fun K hK => ?_)
      refine op_append_run (.tmp 11) (.tmp 25) 74 rfl rfl rfl hrun5 ?_
      refine hK _ _ hf5 ?_
      clear hK K
      simp only [Act.put, List.setIfInBounds_toArray, List.set_cons_zero, List.set_cons_succ]
      repeat (refine wpT_take (v := ?_) rfl rfl (fun x hx => ?_) ?_; rotate_left; (focus (go_simp; with_reducible rfl)); simp only [Act.put, List.setIfInBounds_toArray, List.set_cons_zero, List.set_cons_succ])
      have hf6 : Fr w w5 (fun _ => False) := (hf.none hf2).newer hf5 (fun j hj => Hnew.out j hj)
      unfold wpT
      go_wp2
      go_roundg (n - (i + 2))
      case rel =>
        refine ⟨i + 2, k + 2, rs ++ [p0 ++ p1], rfl, by have := Hki.out; omega, by have := Hki.out; omega, by go_num, ?_, by simp; omega, Hs2.out, hf6, fun j hj => ?_⟩
        · unfold OwnL
          rw [List.map_append, List.map_singleton, Hit.out]
          exact ho5
        · rcases hm5 j hj with h | h
          · exact Hnew.out j h
          · have := (hf.none hf2).size
            omega
      case measure => rw [Hg.out]; omega
    · have Hend : Hid (rs = pk ls) := by
        show _ = _
        have := Hst.out
        rw [pk_end (by rw [← Hn.out]; omega), List.append_nil] at this
        exact this
      go_wp2
      go_ret
      exact ⟨_, rfl, by rw [← Hend.out]; exact Ho.out, hf⟩

end Go.Proofs.Ytclfbdfgmeliaaa

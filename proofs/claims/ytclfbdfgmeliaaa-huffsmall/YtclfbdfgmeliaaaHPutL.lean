/-
  The contract of huff's putLengths: the head of the lengths.
-/
import Derived.Test.YtclfbdfgmeliaaaHRPut
import Derived.Test.YtclfbdfgmeliaaaVPut
import Derived.Test.YtclfbdfgmeliaaaNums
namespace Go.Proofs.Ytclfbdfgmeliaaa
open Go.RowKit

theorem rowsTo_len (l : List Nat) : ∀ s, (rowsTo l s).length = 2 * someTo l s
  | 0 => rfl
  | s + 1 => by
    have := rowsTo_len l s
    unfold rowsTo someTo
    split
    · rw [List.length_append, this]; simp; omega
    · exact this
theorem rowsTo_lt (l : List Nat) (h15 : ∀ s, ln l s ≤ 15) : ∀ s, s ≤ 256 → ∀ u ∈ rowsTo l s, u < 18446744073709551616
  | 0, _, u, hu => by cases hu
  | s + 1, hs, u, hu => by
    unfold rowsTo at hu
    split at hu
    · rcases List.mem_append.1 hu with h | h
      · exact rowsTo_lt l h15 s (by omega) u h
      · have := h15 s
        simp at h
        omega
    · exact rowsTo_lt l h15 s (by omega) u hu
/-- append of two numbers that are written out. -/
theorem app_num2 (w : World) (v : Value) (us : List Nat) (x y : Nat) (h : OwnU w v us) (hb : us.length ≤ 10000000000) :
    ∃ v' w', (Builtin.append_ #[66, 66] 66 #[v, .slice (some ⟨w.heap.size, 0, none⟩) 2 2]).run Try.prog (w.alloc (.cells #[.int .u64 (x : Int), .int .u64 (y : Int)] 42)) = .ok v' w' ∧ OwnU w' v' (us ++ [x, y]) ∧ Fr w w' (fun k => v.ownBlock = some k) ∧ Moved w v v' := by
  obtain ⟨i0, hi, hz0, hz1, hz2⟩ := info_parts Try.info42
  obtain ⟨v', w', h1, h2, h3, h4, -, -⟩ := run_append_holds (P := Try.prog) (w.alloc (.cells #[.int .u64 (x : Int), .int .u64 (y : Int)] 42)) 66 66 42 i0 (.int .u64 0) 8 Try.underlying66 hi hz0 hz1 hz2 rfl (by decide) v _ _ (World.ownsRow.alloc h _) _ _ (holds_lit w 42 [.int .u64 (x : Int), .int .u64 (y : Int)] (by simp)) (row_one .u64 [x, y]) (by simp; omega)
  refine ⟨v', w', h1, ?_, ((Fr.refl w _).alloc _).trans h3 (fun _ _ h => h), h4.mono' (by simp)⟩
  unfold OwnU
  rw [List.length_append, row_append]
  exact h2
theorem OwnU.frame {w w' : World} {v : Value} {us : List Nat} {S : Nat → Prop} (h : OwnU w v us) (f : Fr w w' S) (hs : ∀ k, v.ownBlock = some k → ¬ S k) : OwnU w' v us := f.owns h hs

set_option maxRecDepth 4000 in
set_option maxHeartbeats 1600000 in
theorem putLengths_any (v : Value) (l : List Nat) (w : World) (h : Reads .i64 w v l) (hll : l.length = 256) (h15 : ∀ s, ln l s ≤ 15) :
    Calls Try.prog 24 #[v] w fun e w' => ∃ sv, e = .returned sv ∧ Own w' sv (headOf l) ∧ Fr w w' (fun _ => False) ∧ (∀ k, sv.ownBlock = some k → w.heap.size ≤ k) := by
  obtain ⟨al, cl, rfl, hcl, -⟩ := id h
  rw [length_row, hll] at h hcl ⊢
  have Hrl : Hid (Reads .i64 w (.slice al 256 cl) l) := h
  have Hll : Hid _ := hll
  have H15 : Hid _ := h15
  clear h hll h15
  go_enter Try.func24, Try.ntmps24
  go_wp2_with fail
  go_loopg [3, 4, 10] 256 (fun g' Rw Fe S wi => ∃ s : Nat, g' = 256 - s ∧ s ≤ 256 ∧ S = .int .i64 (s : Int) ∧ Fe = .int .i64 ((nextTo l s : Nat) : Int) ∧ OwnU wi Rw (rowsTo l s) ∧ (∀ k, Rw.ownBlock = some k → w.heap.size ≤ k) ∧ Fr w wi (fun _ => False))
  case atStart => exact ⟨0, rfl, by omega, rfl, rfl, OwnU.nil _, fun k hk => by simp [Value.ownBlock] at hk, Fr.refl _ _⟩
  case round =>
    obtain ⟨s, hg', hs, rfl, rfl, ho, hnw, hf⟩ := hrel
    have Hg' : Hid _ := hg'
    have Ho : Hid (OwnU wr u3 (rowsTo l s)) := ho
    have Hnw : Hid _ := hnw
    have Hf : Hid (Fr w wr (fun _ => False)) := hf
    clear hg' ho hnw hf
    obtain ⟨nx, hnx⟩ : ∃ nx, nx = nextTo l s := ⟨_, rfl⟩
    have hnxs : nx ≤ s := by rw [hnx]; exact nextTo_le l s
    rw [← hnx]
    have Hnx : Hid _ := hnx
    clear hnx
    have Hrln := rowsTo_len l s
    have hsm := someTo_le l s
    by_cases hlt : s < 256
    · obtain ⟨bl, ol, rfl, hbl, cy⟩ := (Hrl.out.keep Hf.out).at Hll.out.symm s hlt
      obtain ⟨y, hy⟩ : ∃ y, y = ln l s := ⟨_, rfl⟩
      rw [show l.getD s 0 = y from hy.symm] at cy
      have hy15 := H15.out s
      rw [← hy] at hy15
      have hs1 : (s : Int) < 256 := by omega
      have Hy : Hid _ := hy
      clear hy hbl
      by_cases hy0 : 0 < y
      · have hd : decide ((0 : Int) < (y : Int)) = true := decide_eq_true (by omega)
        obtain ⟨gp, hgp⟩ : ∃ gp, gp = s - nx := ⟨_, rfl⟩
        have q1 : (s : Int) - (nx : Int) = (gp : Int) := by omega
        have q1b : gp ≤ 255 := by omega
        have wg : IntKind.u64.wrap (gp : Int) = (gp : Int) := by rw [IntKind.wrap_u64]; omega
        have wy : IntKind.u64.wrap (y : Int) = (y : Int) := by rw [IntKind.wrap_u64]; omega
        have Hrow : Hid (rowsTo l (s + 1) = rowsTo l s ++ [gp, y]) := by
          show _ = _
          rw [rowsTo, if_pos (by rw [← Hy.out]; exact hy0), ← Hnx.out, ← hgp, ← Hy.out]
        have Hnn : Hid (nextTo l (s + 1) = s + 1) := by
          show _ = _
          rw [nextTo, if_pos (by rw [← Hy.out]; exact hy0)]
        obtain ⟨v5, w5, hrun5, ho5, hf5, hm5⟩ := app_num2 wr u3 _ gp y Ho.out (by omega)
        rw [← Hrow.out] at ho5
        have Ho5 : Hid (OwnU w5 v5 (rowsTo l (s + 1))) := ho5
        have Hnw5 : Hid (∀ k, v5.ownBlock = some k → w.heap.size ≤ k) := fun k hk => by
          rcases hm5 k hk with h2 | h2
          · exact Hnw.out k h2
          · have := Hf.out.size; omega
        have Hf5 : Hid (Fr w w5 (fun _ => False)) := Hf.out.newer hf5 Hnw.out
        clear hgp ho5 hf5 hm5
        go_wp2_with (at_builtin; refine wpList_append_run rfl (.tmp 17) (.tmp 24) 66 rfl rfl rfl hrun5 ?_)
        go_roundg (256 - (s + 1))
        case rel => exact ⟨s + 1, rfl, by omega, by go_num, by rw [Hnn.out]; go_num, Ho5.out, Hnw5.out, Hf5.out⟩
        case measure => rw [Hg'.out]; omega
      · have hd : decide ((0 : Int) < (y : Int)) = false := decide_eq_false (by omega)
        have Hnn : Hid (nextTo l (s + 1) = nx ∧ rowsTo l (s + 1) = rowsTo l s) := by
          refine ⟨?_, ?_⟩
          · rw [nextTo, if_neg (by rw [← Hy.out]; exact hy0), Hnx.out]
          · rw [rowsTo, if_neg (by rw [← Hy.out]; exact hy0)]
        go_wp2_with fail
        go_roundg (256 - (s + 1))
        case rel => exact ⟨s + 1, rfl, by omega, by go_num, by rw [Hnn.out.1], by rw [Hnn.out.2]; exact Ho.out, Hnw.out, Hf.out⟩
        case measure => rw [Hg'.out]; omega
    · obtain rfl : s = 256 := by omega
      obtain ⟨Nn, hNn⟩ : ∃ m, m = someTo l 256 := ⟨_, rfl⟩
      rw [← hNn] at hsm Hrln
      obtain ⟨a3, l3, c3, rfl⟩ := Ho.out.reads.form
      have hl3 : l3 = 2 * Nn := by
        obtain ⟨a', c', e, -, -⟩ := Ho.out.reads
        simp only [Value.slice.injEq] at e
        rw [e.2.1, length_row, Hrln]
      have hdiv : ((l3 : Nat) : Int).tdiv 2 = (Nn : Int) := by rw [hl3, Int.tdiv_eq_ediv_of_nonneg (by omega)]; omega
      have wN : IntKind.u64.wrap (Nn : Int) = (Nn : Int) := by rw [IntKind.wrap_u64]; omega
      have HNn : Hid _ := hNn
      have Hl3 : Hid _ := hl3
      have hNb : Nn ≤ 256 := hsm
      clear hNn hl3 hsm Hrln
      go_wp2_with fail
      refine (vputs_any _ [Nn] _ (holds_lit wr 42 [.int .u64 (Nn : Int)] (by simp)) (by simp; omega) (by simp)).mono ?_
      rintro e w4 ⟨s4, rfl, ho4, hf4, hn4⟩
      have hf4' : Fr wr w4 (fun _ => False) := ((Fr.refl wr (fun _ => False)).alloc _).none hf4
      have hoR : OwnU w4 (.slice a3 l3 c3) (rowsTo l 256) := Ho.out.frame hf4' (fun _ _ h => h)
      have e1 : encs [Nn] = enc Nn := by simp [encs]
      rw [e1] at ho4
      have Ho4 : Hid (Own w4 s4 (enc Nn)) := ho4
      have Hn4 : Hid (∀ k, s4.ownBlock = some k → w.heap.size ≤ k) := fun k hk => by have h5 := hn4 k hk; simp at h5; have := Hf.out.size; omega
      have Hf4 : Hid (Fr w w4 (fun _ => False)) := Hf.out.none hf4'
      have HoR : Hid (OwnU w4 (.slice a3 l3 c3) (rowsTo l 256)) := hoR
      clear ho4 hf4 hn4 hf4' hoR e1
      go_wp2_with fail
      refine (vputs_any _ (rowsTo l 256) w4 HoR.out.reads (rowsTo_lt l H15.out 256 (Nat.le_refl _)) (by have := rowsTo_len l 256; have := someTo_le l 256; omega)).mono ?_
      rintro e w5 ⟨s5, rfl, ho5, hf5, hn5⟩
      have ho45 : Own w5 s4 (enc Nn) := Ho4.out.frame hf5 (fun _ _ h => h)
      have hel2 := enc_le Nn (by omega)
      obtain ⟨v6, w6, hrun6, ho6, hf6, hm6, -⟩ := app_bytes w5 s4 s5 _ _ ho45 ho5.reads (by have := rowsTo_small l H15.out 256 (Nat.le_refl _); omega)
      have Hres : Hid (Own w6 v6 (headOf l)) := by unfold headOf; rw [← HNn.out]; exact ho6
      have Hf6 : Hid (Fr w w6 (fun _ => False)) := (Hf4.out.none hf5).newer hf6 Hn4.out
      have Hn6 : Hid (∀ k, v6.ownBlock = some k → w.heap.size ≤ k) := fun k hk => by
        rcases hm6 k hk with h2 | h2
        · exact Hn4.out k h2
        · have := Hf4.out.size; have := hf5.size; omega
      clear ho5 hf5 hn5 ho45 hel2 ho6 hf6 hm6
      go_wp2_with (at_builtin; refine wpList_append_run rfl (.tmp 35) (.tmp 37) 22 rfl rfl rfl hrun6 ?_)
      go_ret
      exact ⟨_, rfl, Hres.out, Hf6.out, Hn6.out⟩

end Go.Proofs.Ytclfbdfgmeliaaa

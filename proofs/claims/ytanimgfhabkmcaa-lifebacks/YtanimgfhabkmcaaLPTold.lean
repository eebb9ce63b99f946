/-
  The contract of life's told: the events of lives, one life behind another.
-/
import Derived.Test.YtanimgfhabkmcaaLPSmall
namespace Go.Proofs.Ytanimgfhabkmcaa
open Go.RowKit

theorem told_step {l : List Lf} {i : Nat} {x : Lf} (h : l[i]? = some x) : (l.take (i + 1)).flatMap lEv = (l.take i).flatMap lEv ++ lEv x := by
  rw [List.take_add_one, h, List.flatMap_append]
  simp
theorem told_len (l : List Lf) (i : Nat) : ((l.take i).flatMap lEv).length ≤ 2 * i := by
  refine Nat.le_trans (flat_length _) ?_
  rw [List.length_take]
  omega

set_option maxRecDepth 4000 in
set_option maxHeartbeats 1600000 in
theorem told_any (v : Value) (l : List Lf) (w : World) (h : RdL w v l) (hl : l.length ≤ 400000) : Calls Try.prog 40 #[v] w fun r w' => (∃ v', r = .returned v' ∧ OwnV w' v' (l.flatMap lEv) ∧ ∀ k, v'.ownBlock = some k → w.heap.size ≤ k) ∧ Fr w w' (fun _ => False) := by
  obtain ⟨a0, c0, rfl, hc0⟩ := h.form
  obtain ⟨m, hm⟩ : ∃ m, m = l.length := ⟨_, rfl⟩
  rw [← hm] at h hl hc0 ⊢
  obtain ⟨T, hT⟩ : ∃ T, T = l.flatMap lEv := ⟨_, rfl⟩
  rw [← hT]
  have HT : Hid _ := hT
  have Hr : Hid (RdL w (.slice a0 m c0) l) := h
  have Hm : Hid _ := hm
  clear h hm hT
  go_enter Try.func40, Try.ntmps40
  go_wp2_with fail
  go_loopg [3, 8] m (fun g V I wr => ∃ (i : Nat), g = m - i ∧ i ≤ m ∧ I = .int .i64 (i : Int) ∧ OwnV wr V ((l.take i).flatMap lEv) ∧ (∀ k, V.ownBlock = some k → w.heap.size ≤ k) ∧ Fr w wr (fun _ => False))
  case atStart => exact ⟨0, by omega, by omega, rfl, OwnV.nil _, fun k hk => (by simp [Value.ownBlock] at hk), Fr.refl _ _⟩
  case round =>
    obtain ⟨i, hg, hi, rfl, hov, hvn, hf⟩ := hrel
    have Hg : Hid _ := hg
    have Hov : Hid (OwnV wr u3 ((l.take i).flatMap lEv)) := hov
    have Hvn : Hid (∀ k, u3.ownBlock = some k → w.heap.size ≤ k) := hvn
    have Hf : Hid (Fr w wr (fun _ => False)) := hf
    obtain ⟨a3, c3, hu3, -⟩ := hov.rd.form
    obtain ⟨n3, hn3⟩ : ∃ n, n = ((l.take i).flatMap lEv).length := ⟨_, rfl⟩
    rw [← hn3] at hu3
    subst hu3
    have Hlen : Hid (((l.take i).flatMap lEv).length ≤ 2 * i) := told_len l i
    clear hg hov hvn hf hn3
    by_cases hlt : i < m
    · have hin : (i : Int) < (m : Int) := by omega
      have hin' : decide (i < m) = true := decide_eq_true hlt
      obtain ⟨⟨⟨e1, e2⟩, s, q⟩, ha⟩ : ∃ a, l[i]? = some a := ⟨_, List.getElem?_eq_getElem (by rw [← Hm.out]; omega)⟩
      have Hst : Hid _ := told_step ha
      obtain ⟨bk, off, cap, e3, hbk, hca⟩ := Hr.out.get i _ ha
      simp only [Value.slice.injEq] at e3
      obtain ⟨rfl, -, rfl⟩ := e3
      obtain ⟨k0, k1, k2, k3⟩ := hca wr (Hf.out.mono (fun _ _ h => h.elim))
      have hi0 : (0 : Int) ≤ (i : Int) := by omega
      clear hca ha hbk
      go_upto_region 5 with fail
      obtain ⟨pe, hpe⟩ : ∃ p, p = wr.heap.size := ⟨_, rfl⟩
      obtain ⟨wE, hwE⟩ : ∃ x, x = wr.alloc (.cells #[.int .u32 (e1 : Int), .int .u32 (e2 : Int), .int .i64 s, .int .i64 q] 56) := ⟨_, rfl⟩
      rw [← hwE, ← hpe]
      have Hpe : Hid (wE.heap[pe]? = some (lifeCells ((e1, e2), s, q))) := by show _ = _; rw [hwE, hpe]; exact heap_alloc_new _ _
      have HrE : Hid (Fr wr wE (fun _ => False)) := by show Fr _ _ _; rw [hwE]; exact (Fr.refl _ _).alloc _
      have Hpw : Hid (wr.heap.size = pe) := hpe.symm
      clear k0 k1 k2 k3 hwE hpe
      obtain ⟨k0, k1, k2, k3⟩ := four_cells Hpe.out
      obtain ⟨v4, w4, hrun4, ho4, hf4, hm4⟩ := app_event wE (.slice a3 n3 c3) ((l.take i).flatMap lEv) (s, (e1, e2), true) (Hov.out.frame HrE.out (fun _ _ h => h)) (by have := Hlen.out; omega)
      obtain ⟨ao4, l4, cp4, rfl⟩ : ∃ a l c, v4 = .slice a l c := by obtain ⟨a, c, e, -⟩ := ho4.rd.form; exact ⟨a, _, c, e⟩
      have Ho4 : Hid (OwnV w4 (.slice ao4 l4 cp4) ((l.take i).flatMap lEv ++ [(s, (e1, e2), true)])) := ho4
      have Hf4 : Hid (Fr wE w4 (fun k => (Value.slice a3 n3 c3).ownBlock = some k)) := ((Fr.refl wE (fun k => (Value.slice a3 n3 c3).ownBlock = some k)).alloc _).trans hf4 (fun _ _ h => h)
      have Hvn4 : Hid (∀ k, (Value.slice ao4 l4 cp4).ownBlock = some k → w.heap.size ≤ k) := fun k hk => by
        rcases hm4 k hk with h2 | h2
        · exact Hvn.out k h2
        · have h3 := Hf.out.size; have h4 := HrE.out.size; omega
      have Hfw4 : Hid (Fr w w4 (fun _ => False)) := (Hf.out.none HrE.out).newer Hf4.out (fun k hk => Hvn.out k hk)
      have Hpe4 : Hid (w4.heap[pe]? = some (lifeCells ((e1, e2), s, q))) := Hf4.out.kept Hpe.out (fun h => by have := (Hov.out.lt pe h); have := Hpw.out; omega)
      have Hpe0 : Hid (w.heap.size ≤ pe) := by show _ ≤ _; rw [← Hpw.out]; exact Hf.out.size
      clear ho4 hf4 hm4
      obtain ⟨j0, j1, j2, j3⟩ := four_cells Hpe4.out
      have he := ends_any ((e1, e2), s, q)
      unfold lifeV at he
      dsimp only at he
      go_wp2_with (at_builtin; refine wpList_append_run rfl (.tmp 12) (.tmp 18) 23 rfl rfl rfl hrun4 ?_)
      clear k0 k1 k2 k3 hrun4
      refine (he _).mono ?_
      by_cases h3 : 0 ≤ q
      · rw [decide_eq_true h3]
        have HsE : Hid (lEv ((e1, e2), s, q) = [(s, (e1, e2), true), (q, (e1, e2), false)]) := by show _ = _; unfold lEv; rw [if_pos h3]
        rintro r w5 ⟨rfl, hf5⟩
        have Hpe5 : Hid (w5.heap[pe]? = some (lifeCells ((e1, e2), s, q))) := hf5.kept Hpe4.out (fun h => h)
        have Ho5 : Hid (OwnV w5 (.slice ao4 l4 cp4) ((l.take i).flatMap lEv ++ [(s, (e1, e2), true)])) := Ho4.out.frame hf5 (fun _ _ h => h)
        have Hfw5 : Hid (Fr w w5 (fun _ => False)) := Hfw4.out.none hf5
        clear hf5 he j0 j1 j2 j3 h3
        obtain ⟨j0, j1, j2, j3⟩ := four_cells Hpe5.out
        obtain ⟨v6, w6, hrun6, ho6, hf6, hm6⟩ := app_event w5 (.slice ao4 l4 cp4) _ (q, (e1, e2), false) Ho5.out (by have := Hlen.out; rw [List.length_append, List.length_singleton]; omega)
        obtain ⟨ao6, l6, cp6, rfl⟩ : ∃ a l c, v6 = .slice a l c := by obtain ⟨a, c, e, -⟩ := ho6.rd.form; exact ⟨a, _, c, e⟩
        have Ho6 : Hid (OwnV w6 (.slice ao6 l6 cp6) ((l.take (i + 1)).flatMap lEv)) := by
          show OwnV _ _ _
          rw [Hst.out, HsE.out]
          have := ho6
          rw [List.append_assoc] at this
          exact this
        have Hf6 : Hid (Fr w5 w6 (fun k => (Value.slice ao4 l4 cp4).ownBlock = some k)) := ((Fr.refl w5 (fun k => (Value.slice ao4 l4 cp4).ownBlock = some k)).alloc _).trans hf6 (fun _ _ h => h)
        have Hvn6 : Hid (∀ k, (Value.slice ao6 l6 cp6).ownBlock = some k → w.heap.size ≤ k) := fun k hk => by
          rcases hm6 k hk with h2 | h2
          · exact Hvn4.out k h2
          · have h3 := Hfw5.out.size; omega
        have Hfw6 : Hid (Fr w w6 (fun _ => False)) := Hfw5.out.newer Hf6.out (fun k hk => Hvn4.out k hk)
        clear ho6 hf6 hm6
        go_wp2_with (at_builtin; refine wpList_append_run rfl (.tmp 22) (.tmp 28) 23 rfl rfl rfl hrun6 ?_)
        go_roundg (m - (i + 1))
        case rel => exact ⟨i + 1, rfl, by omega, by go_num, Ho6.out, Hvn6.out, Hfw6.out⟩
        case measure => rw [Hg.out]; omega
      · rw [decide_eq_false h3]
        have HsE : Hid (lEv ((e1, e2), s, q) = [(s, (e1, e2), true)]) := by show _ = _; unfold lEv; rw [if_neg h3]
        rintro r w5 ⟨rfl, hf5⟩
        have Ho5 : Hid (OwnV w5 (.slice ao4 l4 cp4) ((l.take (i + 1)).flatMap lEv)) := by
          show OwnV _ _ _
          rw [Hst.out, HsE.out]
          exact Ho4.out.frame hf5 (fun _ _ h => h)
        have Hfw5 : Hid (Fr w w5 (fun _ => False)) := Hfw4.out.none hf5
        clear hf5 he j0 j1 j2 j3 h3
        go_wp2_with fail
        go_roundg (m - (i + 1))
        case rel => exact ⟨i + 1, rfl, by omega, by go_num, Ho5.out, Hvn4.out, Hfw5.out⟩
        case measure => rw [Hg.out]; omega
    · have hin : ¬ (i : Int) < (m : Int) := by omega
      have hin' : decide (i < m) = false := decide_eq_false hlt
      have Hall : Hid ((l.take i).flatMap lEv = T) := by show _ = _; rw [List.take_of_length_le (by rw [← Hm.out]; omega), HT.out]
      have Hov2 : Hid (OwnV wr (.slice a3 n3 c3) T) := by show OwnV _ _ _; rw [← Hall.out]; exact Hov.out
      go_wp2_with fail
      go_ret
      exact ⟨⟨_, rfl, Hov2.out, Hvn.out⟩, Hf.out⟩

end Go.Proofs.Ytanimgfhabkmcaa

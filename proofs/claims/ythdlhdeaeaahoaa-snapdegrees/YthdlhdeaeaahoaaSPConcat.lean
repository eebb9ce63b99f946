/-
  The contracts of slices.Grow and slices.Concat over edges.
-/
import Derived.Test.YthdlhdeaeaahoaaJ1
import Derived.Lib.AppendZeros
import Derived.Deep.CutRange
namespace Go.Proofs.Ythdlhdeaeaahoaa
open Go.RowKit

theorem typ_int : Try.prog.underlying 3 = some (.int .i64) := Try.underlying3

set_option maxRecDepth 4000 in
set_option maxHeartbeats 800000 in
theorem grow_any (n : Nat) (w : World) (hn : n ≤ 10000000) : Calls Try.prog 49 #[.slice none 0 0, .int .i64 (n : Int)] w fun r w' => (∃ v', r = .returned v' ∧ OwnE w' v' [] ∧ (∀ k, v'.ownBlock = some k → w.heap.size ≤ k)) ∧ Fr w w' (fun _ => False) := by
  by_cases h0 : n = 0
  · subst h0
    go_enter Try.func49, Try.ntmps49
    go_wp2_with fail
    go_ret
    exact ⟨⟨_, rfl, OwnE.nil _, fun k hk => by simp [Value.ownBlock] at hk⟩, Fr.refl _ _⟩
  · obtain ⟨i0, hi, hz0, hz1, hz2⟩ := info_parts infoEdge
    have h1 : ¬ ((n : Int) < 0) := by omega
    have h4 : (0 : Int) < (n : Int) := by omega
    have hrun := fun ty => Lib.run_append_nil_zeros (P := Try.prog) w 33 3 ty 48 i0 _ .i64 .i64 Try.underlying33 typ_int hi hz0 n (by omega) (by rw [hz1]; decide) (by omega) (by rw [hz2]; omega)
    obtain ⟨G, hG⟩ : ∃ G, G = grownCap w n 0 48 := ⟨_, rfl⟩
    have hnG : n ≤ G := by rw [hG]; exact grownCap_ge w _ _ _
    have hGm : G ≤ maxLen := by rw [hG]; exact grownCap_le_maxLen w n 0 48 (by unfold maxLen; omega)
    rw [← hG] at hrun
    obtain ⟨C, hC⟩ : ∃ C, C = Builtin.zeroCells (Value.agg #[.int .u32 0, .int .u32 0]).cells n ++ Builtin.zeroCells (Value.agg #[.int .u32 0, .int .u32 0]).cells (G - n) := ⟨_, rfl⟩
    have hCs : C.size = G * 2 := by
      rw [hC, Array.size_append]
      simp [Builtin.zeroCells, Value.cells, -Array.size_append]
      omega
    rw [← hC] at hrun
    obtain ⟨w2, hw2⟩ : ∃ x, x = w.drew.alloc (.cells C 48) := ⟨_, rfl⟩
    rw [← hw2] at hrun
    have hbl : w2.heap[w.heap.size]? = some (.cells C 48 (0, 0)) := by rw [hw2]; exact heap_alloc_new _ _
    have Hf : Hid (Fr w w2 (fun _ => False)) := by show Fr _ _ _; rw [hw2]; exact (Fr.refl w (fun _ => False)).drew.alloc _
    have Ho : Hid (OwnE w2 (.slice (some ⟨w.heap.size, 0, none⟩) 0 G) []) := ⟨rfl, .inr ⟨_, G, C, rfl, Nat.zero_le _, hbl, Nat.zero_le _, hGm, hCs, rfl⟩⟩
    clear hw2 hC hG hCs hbl hi hz0 hz1 hz2
    have hG1 : (0 : Int) ≤ (G : Int) := by omega
    go_enter Try.func49, Try.ntmps49
    go_wp2_with (at_builtin; refine Lib.wpList_append_run _ rfl _ _ _ _ rfl _ _ rfl rfl _ _ (hrun _) ?_)
    go_ret
    exact ⟨⟨_, rfl, Ho.out, fun k hk => by simp only [Value.ownBlock] at hk; cases hk; exact Nat.le_refl _⟩, Hf.out⟩

theorem flat_take {ls : List (List Eg)} {i : Nat} {l : List Eg} (h : ls[i]? = some l) : (ls.take (i + 1)).flatten = (ls.take i).flatten ++ l := by
  rw [List.take_add_one, h, List.flatten_append]
  simp
theorem flat_take_le (ls : List (List Eg)) (i : Nat) : (ls.take i).flatten.length ≤ ls.flatten.length := by
  conv => rhs; rw [← List.take_append_drop i ls, List.flatten_append, List.length_append]
  omega

set_option maxRecDepth 4000 in
set_option maxHeartbeats 1600000 in
theorem concat_any (v : Value) (vs : List Value) (ls : List (List Eg)) (w : World) (h : Holds w v vs) (hl : vs.length = ls.length) (hr : ∀ (i : Nat) u l, vs[i]? = some u → ls[i]? = some l → RdE w u l) (hb : ls.flatten.length ≤ 1000000) (hm : ls.length ≤ 1000) :
    Calls Try.prog 39 #[v] w fun r w' => (∃ v', r = .returned v' ∧ OwnE w' v' ls.flatten ∧ (∀ k, v'.ownBlock = some k → w.heap.size ≤ k)) ∧ Fr w w' (fun _ => False) := by
  obtain ⟨a0, c0, rfl, hc0, hcells⟩ := h
  obtain ⟨n, hn⟩ : ∃ n, n = vs.length := ⟨_, rfl⟩
  rw [← hn] at hl hc0 hcells ⊢
  obtain ⟨R, hR⟩ : ∃ R, R = ls.flatten := ⟨_, rfl⟩
  rw [← hR] at hb ⊢
  have HR : Hid _ := hR
  have Hn : Hid _ := hn
  have Hl : Hid _ := hl
  have Hb : Hid _ := hb
  have Hc : Hid _ := hcells
  have Hr : Hid _ := hr
  have Hm : Hid (n ≤ 1000) := by show _ ≤ _; omega
  have Hle : Hid (∀ i, (ls.take i).flatten.length ≤ R.length) := fun i => by rw [hR]; exact flat_take_le ls i
  have HT : Hid ((ls.take n).flatten = R) := by show _ = _; rw [hl, List.take_of_length_le (Nat.le_refl _), ← hR]
  clear hR hn hl hb hcells hr hm
  have Hat : Hid (∀ i, i < n → ∀ z, Fr w z (fun _ => False) → ∃ b off a l c L, a0 = some ⟨b, off, none⟩ ∧ z.cell? ⟨b, off + i, none⟩ = some (.slice a l c) ∧ ls[i]? = some L ∧ L.length = l ∧ RdE z (.slice a l c) L) := by
    intro i hi z hz
    obtain ⟨b, off, rfl, hcell⟩ := Hc.out (by omega)
    obtain ⟨u, hu⟩ : ∃ u, vs[i]? = some u := ⟨_, List.getElem?_eq_getElem (by rw [← Hn.out]; exact hi)⟩
    obtain ⟨L, hL⟩ : ∃ L, ls[i]? = some L := ⟨_, List.getElem?_eq_getElem (by rw [← Hl.out]; exact hi)⟩
    have h1 := Hr.out i u L hu hL
    obtain ⟨a, c, rfl, -⟩ := h1.form
    have h2 := hcell i _ hu
    have h3 := World.block_lt_of_cell? _ _ h2
    exact ⟨b, off, a, _, c, L, rfl, (World.cell?_of_block (w := w) (hz.block _ h3 (fun h => h))).trans h2, hL, rfl, h1.keep hz⟩
  go_enter Try.func39, Try.ntmps39
  go_wp2_with fail
  go_loopg [3, 5, 11] n (fun g S T I wr => ∃ i s : Nat, g = n - i ∧ i ≤ n ∧ S = .int .i64 (s : Int) ∧ I = .int .i64 (i : Int) ∧ s = (ls.take i).flatten.length ∧ wr = w)
  case atStart => exact ⟨0, 0, by omega, by omega, rfl, rfl, by simp, rfl⟩
  case round =>
    obtain ⟨i, s, hg, hi, rfl, rfl, hs, rfl⟩ := hrel
    have Hg : Hid _ := hg
    have hsb : s ≤ 1000000 := by have h1 := Hle.out i; have h2 := Hb.out; omega
    have Hs : Hid _ := hs
    clear hg hs
    by_cases hlt : i < n
    · have hin : (i : Int) < (n : Int) := by omega
      have hin' : decide (i < n) = true := decide_eq_true hlt
      obtain ⟨bk, off, a, l, c, L, hae, kc, hL, hLl, -⟩ := Hat.out i hlt wr (Fr.refl _ _)
      have hs2 : s + l = (ls.take (i + 1)).flatten.length := by rw [flat_take hL, List.length_append, ← Hs.out, hLl]
      have hs2b : s + l ≤ 1000000 := by have h1 := Hle.out (i + 1); have h2 := Hb.out; omega
      have Hs2 : Hid _ := hs2
      have hw1 : wrap64 ((s : Int) + (l : Int)) = ((s + l : Nat) : Int) := by rw [IntWalk.wrap64_in _ (by omega)]; omega
      have hw2 : ¬ (((s + l : Nat) : Int) < 0) := by omega
      have hi0 : (0 : Int) ≤ (i : Int) := by omega
      subst hae
      clear hs2 hL hLl
      go_wp2_with fail
      go_roundg (n - (i + 1))
      case rel => exact ⟨i + 1, s + l, rfl, by omega, by simp, by have h1 := Hm.out; rw [IntWalk.wrap64_in _ (by omega)]; simp, Hs2.out, rfl⟩
      case measure => rw [Hg.out]; omega
    · have hin : ¬ (i : Int) < (n : Int) := by omega
      have hin' : decide (i < n) = false := decide_eq_false hlt
      obtain rfl : i = n := by omega
      have HsR : Hid (s = R.length) := by show _ = _; rw [Hs.out, HT.out]
      obtain ⟨w0, rfl⟩ : ∃ x, x = wr := ⟨_, rfl⟩
      have hgr := grow_any s w0 (by omega)
      clear Hc Hr
      go_wp2_with fail
      refine hgr.mono ?_
      rintro r x1 ⟨⟨v1, rfl, ho, hnw⟩, g⟩
      obtain ⟨a1, c1, rfl, -⟩ := ho.rd.form
      have Ho1 : Hid (OwnE x1 (.slice a1 0 c1) []) := ho
      have Hn1 : Hid (∀ k, (Value.slice a1 0 c1).ownBlock = some k → w0.heap.size ≤ k) := hnw
      have Hx1 : Hid (Fr w0 x1 (fun _ => False)) := g
      clear hgr ho hnw g Hs
      go_wp2_with fail
      go_loopg [6, 8, 27] i (fun g V T J wr => ∃ j : Nat, g = i - j ∧ j ≤ i ∧ J = .int .i64 (j : Int) ∧ OwnE wr V (ls.take j).flatten ∧ (∀ k, V.ownBlock = some k → w0.heap.size ≤ k) ∧ Fr w0 wr (fun _ => False))
      case atStart => exact ⟨0, by omega, by omega, rfl, Ho1.out, Hn1.out, Hx1.out⟩
      case round =>
        obtain ⟨j, hg, hj, rfl, hov, hvn, hf⟩ := hrel
        have Hg : Hid _ := hg
        have Hvn : Hid (∀ k, u6.ownBlock = some k → w0.heap.size ≤ k) := hvn
        have Hov : Hid (OwnE wr u6 (ls.take j).flatten) := hov
        have Hf : Hid (Fr w0 wr (fun _ => False)) := hf
        obtain ⟨a3, c3, hu3, -⟩ := hov.rd.form
        obtain ⟨n3, hn3⟩ : ∃ n, n = (ls.take j).flatten.length := ⟨_, rfl⟩
        rw [← hn3] at hu3
        subst hu3
        clear hg hvn hov hf hn3
        by_cases hlt2 : j < i
        · have hjn : (j : Int) < (i : Int) := by omega
          have hjn' : decide (j < i) = true := decide_eq_true hlt2
          obtain ⟨bk, off, a, l, c, L, hae, kc, hL, hLl, hrL⟩ := Hat.out j hlt2 wr Hf.out
          obtain ⟨v4, w4, hrun4, ho4, hf4, hm4⟩ := app_edges wr _ (.slice a l c) _ L Hov.out hrL (by have h1 := Hle.out j; have h2 := Hb.out; have h3 := Hle.out (j + 1); rw [flat_take hL, List.length_append] at h3; omega)
          obtain ⟨a4, c4, hv4, -⟩ := ho4.rd.form
          obtain ⟨n4, hn4⟩ : ∃ n, n = ((ls.take j).flatten ++ L).length := ⟨_, rfl⟩
          rw [← hn4] at hv4
          subst hv4
          have Ho4 : Hid (OwnE w4 (.slice a4 n4 c4) (ls.take (j + 1)).flatten) := by show OwnE _ _ _; rw [flat_take hL]; exact ho4
          have Hvn4 : Hid (∀ k, (Value.slice a4 n4 c4).ownBlock = some k → w0.heap.size ≤ k) := fun k hk => by
            rcases hm4 k hk with h2 | h2
            · exact Hvn.out k h2
            · have h3 := Hf.out.size; omega
          have Hf4 : Hid (Fr w0 w4 (fun _ => False)) := Hf.out.newer hf4 (fun k hk => Hvn.out k hk)
          have hj0 : (0 : Int) ≤ (j : Int) := by omega
          subst hae
          clear hL hLl hrL ho4 hf4 hm4 hn4
          go_wp2_with (at_builtin; refine wpList_append_run rfl (.tmp 31) (.tmp 32) 33 rfl rfl rfl hrun4 ?_)
          go_roundg (i - (j + 1))
          case rel => exact ⟨j + 1, rfl, by omega, by have h1 := Hm.out; rw [IntWalk.wrap64_in _ (by omega)]; simp, Ho4.out, Hvn4.out, Hf4.out⟩
          case measure => rw [Hg.out]; omega
        · have hjn : ¬ (j : Int) < (i : Int) := by omega
          have hjn' : decide (j < i) = false := decide_eq_false hlt2
          obtain rfl : j = i := by omega
          have HoR : Hid (OwnE wr (.slice a3 n3 c3) R) := by show OwnE _ _ _; rw [← HT.out]; exact Hov.out
          go_wp2_with fail
          go_ret
          exact ⟨⟨_, rfl, HoR.out, Hvn.out⟩, Hf.out⟩

end Go.Proofs.Ythdlhdeaeaahoaa

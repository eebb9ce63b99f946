/-
  The contract of merge's tally: how often each symbol is in the first items of the last list.
-/
import Derived.Test.YtclfbdfgmeliaaaMLists
namespace Go.Proofs.Ytclfbdfgmeliaaa
open Go.RowKit

/-- What is left to be counted. -/
def leftOf (wt : Nat → Nat) (cs : List Nat) (j t s : Nat) : Nat := if j = 0 then 0 else occ ((lv wt cs (j - 1)).take t) s
theorem left_step (wt : Nat → Nat) (cs : List Nat) (k t s : Nat) : leftOf wt cs (k + 1) t s = ((lv wt cs k).take t).count [s] + leftOf wt cs k (2 * packs ((lv wt cs k).take t)) s := by
  unfold leftOf
  rw [if_neg (by omega), show k + 1 - 1 = k by omega]
  cases k with
  | zero => rw [if_pos rfl, lv_tally0]; omega
  | succ k => rw [if_neg (by omega), (lv_tally wt cs k t s).2]; rfl

set_option maxRecDepth 4000 in
set_option maxHeartbeats 800000 in
theorem tally_any (wt : Nat → Nat) (cs : List Nat) (va : Value) (gl capl : Nat) (vs : List Value) (N n t0 : Nat) (w : World) (ha : OwnA wt cs w va vs) (hvn : vs.length = n) (hn1 : 1 ≤ n) (hn : n ≤ 15) (hl : OwnC w (.slice (some ⟨gl, 0, none⟩) N capl) (fnRow N (fun _ => 0))) (hcs : ∀ s ∈ cs, s < N) (hc1 : 1 ≤ cs.length) (hcl : cs.length ≤ 256) (ht : t0 ≤ (lv wt cs (n - 1)).length) :
    Calls Try.prog 36 #[.slice (some ⟨gl, 0, none⟩) N capl, va, .int .i64 (t0 : Int)] w fun e w' => e = .returned (.tuple #[]) ∧ OwnC w' (.slice (some ⟨gl, 0, none⟩) N capl) (fnRow N (fun s => occ ((lv wt cs (n - 1)).take t0) s)) ∧ Fr w w' (fun k => k = gl) := by
  have hgw : gl < w.heap.size := (World.ownsRow.lt hl gl rfl).2
  have hapA := own_apart hl ha.1 (by decide)
  have Hap : Hid (∀ u ∈ vs, ∀ k, u.ownBlock = some k → k ≠ gl) := fun u hu k hk e => by
    obtain ⟨i, hi⟩ := List.mem_iff_getElem?.1 hu
    exact own_apart hl (ha.2.1 i u hi) (by decide) k hk (by rw [e]; rfl)
  rcases ha.1.2 with ⟨rfl, h0⟩ | ⟨ga, capa, cura, rfl, hresta⟩
  · omega
  have hga : ga ≠ gl := fun e => hapA ga rfl (by rw [e]; rfl)
  have Ha : Hid (OwnA wt cs w (.slice (some ⟨ga, 0, none⟩) vs.length capa) vs) := ha
  rw [hvn] at Ha ⊢
  have Hl : Hid (OwnC w (.slice (some ⟨gl, 0, none⟩) N capl) (fnRow N (fun _ => 0))) := hl
  have Hvn : Hid _ := hvn
  have Hcs : Hid _ := hcs
  have Ht : Hid _ := ht
  clear ha hl hresta hvn hcs ht hapA
  go_enter Try.func36, Try.ntmps36
  have hn1' : IntKind.i64.wrap ((n : Int) - 1) = (n : Int) - 1 := IntWalk.i64_in _ (by omega)
  go_wp2_with fail
  go_loopg [2, 6] n (fun g T I wr => ∃ (j t : Nat) (z : Int) (f : Nat → Nat), g = j ∧ j ≤ n ∧ z = (j : Int) - 1 ∧ I = .int .i64 z ∧ T = .int .i64 (t : Int) ∧ OwnC wr (.slice (some ⟨gl, 0, none⟩) N capl) (fnRow N f) ∧ (∀ s, f s ≤ 1000 * (n - j)) ∧ (∀ s, f s + leftOf wt cs j t s = occ ((lv wt cs (n - 1)).take t0) s) ∧ (1 ≤ j → t ≤ (lv wt cs (j - 1)).length) ∧ Fr w wr (fun k => k = gl))
  case atStart => exact ⟨n, t0, _, fun _ => 0, rfl, by omega, rfl, rfl, rfl, Hl.out, fun s => Nat.zero_le _, fun s => by unfold leftOf; rw [if_neg (by omega)]; exact Nat.zero_add _, fun _ => Ht.out, Fr.refl _ _⟩
  case round =>
    obtain ⟨j, t, z, f, hg, hj, hz, rfl, rfl, ho, hfb, hst, htj, hf⟩ := hrel
    have Hg : Hid _ := hg
    have Ho : Hid (OwnC wr (.slice (some ⟨gl, 0, none⟩) N capl) (fnRow N f)) := ho
    have Hfb : Hid _ := hfb
    have Hst : Hid _ := hst
    have Htj : Hid _ := htj
    clear hg ho hfb hst htj
    by_cases hj0 : j = 0
    · subst hj0
      have hz0 : z = -1 := by omega
      subst hz0
      clear hz
      have Hend : Hid (fnRow N (fun s => occ ((lv wt cs (n - 1)).take t0) s) = fnRow N f) := by
        show _ = _
        congr 1
        funext s
        have := Hst.out s
        unfold leftOf at this
        rw [if_pos rfl, Nat.add_zero] at this
        exact this.symm
      go_wp2_with fail
      go_end0
      exact ⟨rfl, by rw [Hend.out]; exact Ho.out, hf⟩
    · obtain ⟨k, rfl⟩ : ∃ k, j = k + 1 := ⟨j - 1, by omega⟩
      have hzk : z = (k : Int) := by omega
      subst hzk
      clear hz hj0
      obtain ⟨u, hu⟩ : ∃ u, vs[k]? = some u := ⟨_, List.getElem?_eq_getElem (by rw [Hvn.out]; omega)⟩
      have hcell : wr.cell? ⟨ga, k, none⟩ = some u := by
        have h1 := World.ownsRow.cellAt (by have := Ha.out.1; rw [Hvn.out] at this; exact this) k (by omega)
        rw [World.cell?_of_block (w := w) (hf.block ga (World.ownsRow.lt Ha.out.1 ga rfl).2 hga), h1, hu]
      have hou := Ha.out.2.1 k u hu
      have hub := Hap.out u (List.mem_of_getElem? hu)
      replace hou := OwnX.frame hou hf (fun k hk => hub k hk)
      have htl := Htj.out (by omega)
      rw [show k + 1 - 1 = k by omega] at htl
      have hlong : (lv wt cs k).length ≤ 512 := by have := lv_long wt cs k; omega
      rcases hou.2 with ⟨rfl, h0⟩ | ⟨gu, capu, curu, hue, hrestu⟩
      · rw [List.length_map] at h0
        have := lv_some wt cs k
        omega
      · subst hue
        have hgu : gu ≠ gl := hub gu rfl
        rw [List.length_map] at hcell hou
        obtain ⟨nl, hnl⟩ : ∃ nl, nl = (lv wt cs k).length := ⟨_, rfl⟩
        rw [← hnl] at hcell hou hlong htl
        have Hou : Hid (OwnL wt wr (.slice (some ⟨gu, 0, none⟩) nl capu) (lv wt cs k)) := hou
        have hcap : nl ≤ capu := by have := hrestu.2.2.1; rw [List.length_map, ← hnl] at this; exact this
        have Hnl : Hid _ := hnl
        have hk1 : (k : Int) < (n : Int) := by omega
        have hk2 : k < n := by omega
        obtain ⟨l, hl⟩ : ∃ l, l = (lv wt cs k).take t := ⟨_, rfl⟩
        have hll : l.length = t := by rw [hl, List.length_take, ← hnl]; omega
        have Hl2 : Hid _ := hl
        have Hll : Hid _ := hll
        clear hu hou hub hrestu hnl hl hll
        go_wp2_with fail
        go_loopg [7, 24, 9] t (fun g Pk I _ wi => ∃ (q p : Nat), g = t - q ∧ q ≤ t ∧ I = .int .i64 (q : Int) ∧ Pk = .int .i64 (p : Int) ∧ p = packs (l.take q) ∧ p ≤ q ∧ OwnC wi (.slice (some ⟨gl, 0, none⟩) N capl) (fnRow N (fun s => f s + (l.take q).count [s])) ∧ OwnL wt wi (.slice (some ⟨gu, 0, none⟩) nl capu) (lv wt cs k) ∧ Fr w wi (fun k => k = gl))
        case atStart => exact ⟨0, 0, rfl, by omega, rfl, rfl, by simp [packs], by omega, by simpa using Ho.out, Hou.out, hf⟩
        case round =>
          clear Hou Ho hcell hf
          obtain ⟨q, p, hgq, hq, rfl, rfl, hp, hpq, hoi, hou, hf⟩ := hrel
          have Hgq : Hid _ := hgq
          have Hp : Hid _ := hp
          have Hoi : Hid (OwnC wr (.slice (some ⟨gl, 0, none⟩) N capl) (fnRow N (fun s => f s + (l.take q).count [s]))) := hoi
          have Hou : Hid (OwnL wt wr (.slice (some ⟨gu, 0, none⟩) nl capu) (lv wt cs k)) := hou
          clear hgq hp hoi
          by_cases hqt : q < t
          · obtain ⟨y, hy⟩ : ∃ y, l[q]? = some y := ⟨_, List.getElem?_eq_getElem (by rw [Hll.out]; exact hqt)⟩
            have hy2 : (lv wt cs k)[q]? = some y := by
              rw [Hl2.out, List.getElem?_take, if_pos hqt] at hy
              exact hy
            obtain ⟨b, off, cp, e, hb0, kx⟩ := RdX.get hou.rd q (itm wt y) (by rw [List.getElem?_map, hy2]; rfl)
            simp only [Value.slice.injEq, Option.some.injEq, Addr.mk.injEq, and_true] at e
            obtain ⟨⟨rfl, rfl⟩, -, rfl⟩ := e
            obtain ⟨c0, c1⟩ := kx wr (Fr.refl _ _)
            rw [Nat.zero_add] at c0 c1
            have hys := lv_in wt cs k y (List.mem_of_getElem? hy2)
            have htk : l.take (q + 1) = l.take q ++ [y] := by rw [List.take_add_one, hy]; rfl
            obtain ⟨X, hX⟩ : ∃ X, X = (itm wt y).1 := ⟨_, rfl⟩
            rw [← hX] at c0
            have hq1 : (q : Int) < (t : Int) := by omega
            have hql : q < nl := by omega
            have hcnt : ∀ s, (l.take q).count [s] ≤ q := fun s => Nat.le_trans List.count_le_length (by rw [List.length_take]; omega)
            by_cases hyp : isP y = true
            · have hY : (itm wt y).2 = -1 := symOf_pack hyp
              rw [hY] at c1
              have Hp2 : Hid (p + 1 = packs (l.take (q + 1))) := by
                show _ = _
                rw [htk, Hp.out]
                unfold packs
                rw [List.countP_append]
                simp [hyp]
              have Hf2 : Hid (fnRow N (fun s => f s + (l.take (q + 1)).count [s]) = fnRow N (fun s => f s + (l.take q).count [s])) := by
                show _ = _
                congr 1
                funext s
                rw [htk, List.count_append]
                have : List.count [s] [y] = 0 := by
                  rw [List.count_eq_zero]
                  intro h
                  simp at h
                  rw [← h] at hyp
                  simp [isP] at hyp
                omega
              clear hy hy2 kx hys htk hX hY hcnt hou hyp
              go_wp2_with fail
              go_roundg (t - (q + 1))
              case rel => exact ⟨q + 1, p + 1, rfl, by omega, by go_num, by go_num, Hp2.out, by omega, by rw [Hf2.out]; exact World.ownsRow.alloc Hoi.out _, OwnX.keep Hou.out ((Fr.refl wr _).alloc _), hf.alloc _⟩
              case measure => rw [Hgq.out]; omega
            · obtain ⟨s0, rfl⟩ := symOf_coin (by simpa using hyp)
              have hY : (itm wt [s0]).2 = (s0 : Int) := rfl
              rw [hY] at c1
              have hsN : s0 < N := Hcs.out s0 (hys.2.2 s0 (by simp))
              obtain ⟨x, hx⟩ : ∃ x, x = f s0 + (l.take q).count [s0] := ⟨_, rfl⟩
              have hxb : x ≤ 20000 := by
                have := hcnt s0
                have := Hfb.out s0
                omega
              have hgs : gl < wr.heap.size := (World.ownsRow.lt Hoi.out gl rfl).2
              have hfl : ∀ o, (wr.alloc o).cell? ⟨gl, s0, none⟩ = some (.int .i64 (x : Int)) ∧ (wr.alloc o).frozen? ⟨gl, s0, none⟩ = false := fun o => by
                have hoa := World.ownsRow.alloc Hoi.out o
                rw [fnRow_length] at hoa
                refine ⟨?_, World.ownsRow.frozenAt hoa s0⟩
                rw [World.ownsRow.cellAt hoa s0 (by omega), hx]
                simp [row, fnRow, hsN]
              have Hp2 : Hid (p = packs (l.take (q + 1))) := by
                show _ = _
                rw [htk, Hp.out]
                unfold packs
                rw [List.countP_append]
                simp [hyp]
              have Hf2 : Hid ((fnRow N (fun s => f s + (l.take q).count [s])).set s0 (x + 1) = fnRow N (fun s => f s + (l.take (q + 1)).count [s])) := by
                show _ = _
                refine fnRow_set N _ _ s0 _ ?_ ?_
                · rw [htk, List.count_append, hx]
                  simp
                  omega
                · intro t ht
                  rw [htk, List.count_append]
                  have : List.count [t] [[s0]] = 0 := by
                    rw [List.count_eq_zero]
                    intro h
                    simp at h
                    exact ht h
                  omega
              have Hst2 : Hid (∀ o, OwnC ((wr.setCell ⟨gl, s0, none⟩ (.int .i64 ((x : Int) + 1))).alloc o) (.slice (some ⟨gl, 0, none⟩) N capl) (fnRow N (fun s => f s + (l.take (q + 1)).count [s]))) := fun o => by
                have hoa := Hoi.out
                unfold OwnC at hoa
                rw [fnRow_length] at hoa
                have := World.ownsRow.alloc (World.ownsRow.stored hoa s0 (.int .i64 ((x : Int) + 1))).1 o
                unfold OwnC
                rw [fnRow_length, ← Hf2.out, row_set]
                exact this
              have hxw : IntKind.i64.wrap ((x : Int) + 1) = ((x + 1 : Nat) : Int) := by rw [IntWalk.i64_in _ (by omega)]; omega
              have hs1 : (s0 : Int) < (N : Int) := by omega
              have hs2 : ((s0 : Int) == -1) = false := by rw [beq_eq_false_iff_ne]; omega
              clear hy hy2 kx hys htk hX hY hcnt hou hyp hx
              have hf0 := (hfl (.cells #[.int .i64 X, .int .i64 (s0 : Int)] 77)).1
              have hf1 := (hfl (.cells #[.int .i64 X, .int .i64 (s0 : Int)] 77)).2
              clear hfl
              go_wp2_with fail
              go_roundg (t - (q + 1))
              case rel => exact ⟨q + 1, p, rfl, by omega, by go_num, rfl, Hp2.out, by omega, Hst2.out _, OwnX.frame Hou.out (((Fr.refl wr (fun k => k = gl)).setCell ⟨gl, s0, none⟩ (fun _ => rfl) _).alloc _) (fun k hk => by simp [Value.ownBlock] at hk; omega), (hf.setCell ⟨gl, s0, none⟩ (fun _ => rfl) _).alloc _⟩
              case measure => rw [Hgq.out]; omega
          · have hqe : q = t := by omega
            subst hqe
            have hlq : l.take q = l := List.take_of_length_le (by rw [Hll.out]; exact Nat.le_refl _)
            have Hp2 : Hid (p = packs l) := by have := Hp.out; rw [hlq] at this; exact this
            have Ho2 : Hid (OwnC wr (.slice (some ⟨gl, 0, none⟩) N capl) (fnRow N (fun s => f s + l.count [s]))) := by have := Hoi.out; rw [hlq] at this; exact this
            have hw2 : IntKind.i64.wrap (2 * (p : Int)) = ((2 * p : Nat) : Int) := by rw [IntWalk.i64_in _ (by omega)]; omega
            have hkw : IntKind.i64.wrap ((k : Int) - 1) = (k : Int) - 1 := IntWalk.i64_in _ (by omega)
            clear hlq hou
            go_wp2_with fail
            go_roundg k
            case rel =>
              refine ⟨k, 2 * p, (k : Int) - 1, fun s => f s + l.count [s], rfl, by omega, rfl, by first | rfl | rw [hkw], by first | rfl | rw [hw2], Ho2.out, fun s => ?_, fun s => ?_, fun hk1 => ?_, hf⟩
              · have h1 : l.count [s] ≤ 512 := Nat.le_trans List.count_le_length (by rw [Hll.out]; omega)
                have := Hfb.out s
                show f s + l.count [s] ≤ _
                omega
              · have h1 := Hst.out s
                rw [left_step, ← Hl2.out, ← Hp2.out] at h1
                show f s + l.count [s] + _ = _
                omega
              · obtain ⟨k', rfl⟩ : ∃ k', k = k' + 1 := ⟨k - 1, by omega⟩
                have := (lv_tally wt cs k' q 0).1
                rw [← Hl2.out, ← Hp2.out] at this
                exact this
            case measure => rw [Hg.out]; omega

end Go.Proofs.Ytclfbdfgmeliaaa

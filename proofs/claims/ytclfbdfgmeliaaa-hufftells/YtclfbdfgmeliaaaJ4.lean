/-
  Texts of ours, joined: RLens VPut VRefPut BRefPut BRefBytes HRPut.
-/
import Derived.Test.YtclfbdfgmeliaaaJ3
import Derived.Test.YtclfbdfgmeliaaaJ2
import Derived.Deep.LoopGhost
import Derived.Test.YtclfbdfgmeliaaaJ1
import Derived.Deep.RegionLaw
import Derived.Deep.AppendLies

/-
  The contract of the reference's Lengths.
-/
namespace Go.Proofs.Ytclfbdfgmeliaaa
open Go.RowKit

theorem ins_at (wt : Nat → Nat) (s : Nat) : ∀ (l : List Nat) (k : Nat), k ≤ l.length → (∀ y ∈ l.take k, wt y ≤ wt s) → (∀ y, l[k]? = some y → wt s < wt y) → insSym wt s l = l.take k ++ s :: l.drop k
  | [], k, hk, _, _ => by simp at hk; subst hk; rfl
  | y :: ys, 0, _, _, h2 => by
    have := h2 y rfl
    rw [insSym, if_pos this]
    rfl
  | y :: ys, k + 1, hk, h1, h2 => by
    have h0 := h1 y (by simp)
    rw [insSym, if_neg (by omega), ins_at wt s ys k (by simpa using hk) (fun z hz => h1 z (by simp [hz])) (fun z hz => h2 z (by simpa using hz))]
    simp
theorem take_le (wt : Nat → Nat) (l : List Nat) (h : l.Pairwise fun a b => wt a ≤ wt b) (k y X : Nat) (hy : l[k]? = some y) (hle : wt y ≤ X) : ∀ x ∈ l.take (k + 1), wt x ≤ X := by
  intro x hx
  obtain ⟨hk, rfl⟩ := List.getElem?_eq_some_iff.1 hy
  obtain ⟨j, hj⟩ := List.mem_iff_getElem?.1 hx
  rw [List.getElem?_take] at hj
  split at hj
  · obtain ⟨hj2, rfl⟩ := List.getElem?_eq_some_iff.1 hj
    rcases Nat.lt_or_ge j k with hjk | hjk
    · have := List.pairwise_iff_getElem.1 h j k hj2 hk hjk
      omega
    · have : j = k := by omega
      subst this
      exact hle
  · cases hj
theorem RdI.take {wt : Nat → Nat} {w : World} {ao : Option Addr} {len cap : Nat} {ps : List Pk} (h : RdI wt w (.slice ao len cap) ps) (hl : ps.length = len) (n : Nat) (hn : n ≤ len) : RdI wt w (.slice ao n cap) (ps.take n) := by
  subst hl
  refine ⟨?_, fun p hp => h.2 p (List.mem_of_mem_take hp)⟩
  have := HoldsN.take h.1 n hn
  rw [List.length_take, Nat.min_eq_left hn, ← irow_take]
  exact this
/-- A coin in memory. -/
theorem coin_at {ps : List Pk} {l : List Nat} (h : fsts ps = coin l) {j : Nat} {p : Pk} (hp : ps[j]? = some p) : ∃ s, l[j]? = some s ∧ p.1 = [s] := by
  have h1 : (fsts ps)[j]? = some p.1 := fsts_get hp
  rw [h, coin, List.getElem?_map] at h1
  cases hl : l[j]? with
  | none => rw [hl] at h1; simp at h1
  | some s => rw [hl] at h1; simp at h1; exact ⟨s, rfl, h1.symm⟩

theorem infoIntR : (Try.prog.info? 3).map (fun i => (i.zero, i.size, i.bytes)) = some (some (.int .i64 0), 1, 8) := by kernel_rfl

theorem RdI.frame {wt : Nat → Nat} {w w' : World} {v : Value} {ps : List Pk} {S : Nat → Prop} (h : RdI wt w v ps) (f : Fr w w' S) (hs : ∀ k, v.ownBlock = some k → ¬ S k) (hg : ∀ p ∈ ps, ∀ k, p.2.ownBlock = some k → 0 < p.1.length → ¬ S k) : RdI wt w' v ps :=
  ⟨h.1.frame f (fun _ => hs), fun p hp => (h.2 p hp).frame' f (fun hl k hk => hg p hp k hk hl)⟩

set_option maxRecDepth 4000 in
set_option maxHeartbeats 4000000 in
theorem refLens_own (v : Value) (zs : List Int) (most : Int) (w : World) (h : ReadsZ w v zs) (hm1 : -9223372036854775808 ≤ most) (hm2 : most ≤ 9223372036854775807) :
    Calls Try.prog 18 #[v, .int .i64 most] w fun e w' => ∃ sv, e = .returned sv ∧ OwnN w' sv (pmLens (zs.map clampN) (clampM most)) ∧ Fr w w' (fun _ => False) ∧ (∀ k, sv.ownBlock = some k → w.heap.size ≤ k) := by
  obtain ⟨a0, c0, rfl, hc0⟩ := h.form
  have Hz : Hid (ReadsZ w (.slice a0 zs.length c0) zs) := h
  obtain ⟨n, hn⟩ : ∃ n, n = zs.length := ⟨_, rfl⟩
  rw [← hn] at Hz hc0 ⊢
  have Hn : Hid _ := hn
  clear h hn
  obtain ⟨L, hL⟩ : ∃ L, L = clampM most := ⟨_, rfl⟩
  rw [← hL]
  have HL : Hid ((L : Int) = min (max most 1) 15) := by show _ = _; rw [hL]; unfold clampM; omega
  clear hL
  have hL1 : 1 ≤ L := by have := HL.out; omega
  have hL15 : L ≤ 15 := by have := HL.out; omega
  obtain ⟨wt, hwt⟩ : ∃ wt, wt = cnt (zs.map clampN) := ⟨_, rfl⟩
  have Hwt : Hid _ := hwt
  have Hth : Hid (there (zs.map clampN) = symsTo wt n) := by show _ = _; unfold there; rw [← hwt, List.length_map, Hn.out]
  clear hwt
  go_enter Try.func18, Try.ntmps18
  go_upto_region 1 with fail
  go_cut [1] from 15 to 17 (fun M wx => M = .int .i64 (L : Int) ∧ wx = w)
  case first =>
    go_wp2_with fail
    all_goals
      go_meet
      case rel => exact ⟨by have := HL.out; first | (rw [this]; done) | (congr 1; omega), rfl⟩
  case rest =>
    obtain ⟨rfl, rfl⟩ := hcut
    by_cases h256 : 256 < n
    · have He : Hid (pmLens (zs.map clampN) L = []) := by
        show _ = _
        unfold pmLens
        rw [if_pos (by rw [List.length_map, ← Hn.out]; exact .inl h256)]
      go_wp2_with fail
      go_ret
      refine ⟨_, rfl, ?_, Fr.refl _ _, fun k hk => by simp [Value.ownBlock] at hk⟩
      rw [He.out]
      exact OwnN.nil _
    · go_wp2_with fail
      go_loopg [5, 6] n (fun g S I wr => ∃ (i : Nat) (ps : List Pk), g = n - i ∧ i ≤ n ∧ I = .int .i64 (i : Int) ∧ OwnI wt wr S ps ∧ fsts ps = coin (symsTo wt i) ∧ ps.length ≤ i ∧ Fr wc wr (fun _ => False) ∧ Off S ps ∧ (∀ k, S.ownBlock = some k → wc.heap.size ≤ k))
      case atStart => exact ⟨0, [], rfl, by omega, rfl, OwnI.nil _ _, rfl, Nat.le_refl _, Fr.refl _ _, fun p hp => (by cases hp), fun k hk => (by simp [Value.ownBlock] at hk)⟩
      case round =>
        obtain ⟨i, ps, hg, hi, rfl, ho, hps, hpl, hf, hoff, hnew⟩ := hrel
        have Hg : Hid _ := hg
        have Ho : Hid (OwnI wt wr u5 ps) := ho
        have Hps : Hid _ := hps
        have Hoff : Hid _ := hoff
        have Hnew : Hid _ := hnew
        clear hg hps hoff hnew
        obtain ⟨a5, c5, rfl, hc5⟩ := ho.rd.form
        obtain ⟨m, hm⟩ : ∃ m, m = ps.length := ⟨_, rfl⟩
        rw [← hm] at Ho Hoff Hnew hpl hc5 ⊢
        have Hm : Hid _ := hm
        clear ho hm
        by_cases hlt : i < n
        · obtain ⟨x, hx⟩ : ∃ x, zs[i]? = some x := ⟨_, List.getElem?_eq_getElem (by rw [← Hn.out]; exact hlt)⟩
          obtain ⟨b, off, cp, e, hb0, kx⟩ := (Hz.out.keep hf).get i x hx
          simp only [Value.slice.injEq] at e
          obtain ⟨rfl, -, rfl⟩ := e
          have cx := kx wr (Fr.refl _ _)
          have hwi : wt i = clampN x := by
            rw [Hwt.out]
            unfold cnt
            rw [List.getD_eq_getElem?_getD, List.getElem?_map, hx]
            rfl
          have hi1 : (i : Int) < (n : Int) := by omega
          clear kx hx
          go_wp2_with fail
          refine (refClamp_any _ _).mono ?_
          rintro e w' ⟨rfl, rfl⟩
          rw [← hwi]
          obtain ⟨c, hc⟩ : ∃ c, c = wt i := ⟨_, rfl⟩
          have hcb : c ≤ 1099511627776 := by rw [hc, hwi]; exact clampN_le x
          rw [← hc]
          have Hc : Hid _ := hc
          clear hwi hc
          by_cases h0 : c = 0
          · subst h0
            have Hs : Hid (symsTo wt (i + 1) = symsTo wt i) := by show _ = _; rw [symsTo, if_pos Hc.out.symm]
            go_wp2_with fail
            go_roundg (n - (i + 1))
            case rel => exact ⟨i + 1, ps, rfl, by omega, by go_num, Ho.out.keep (((Fr.refl w' _).alloc _).alloc _), by rw [Hs.out]; exact Hps.out, by have := Hm.out; omega, (hf.alloc _).alloc _, Hoff.out, Hnew.out⟩
            case measure => rw [Hg.out]; omega
          · have h0' : ((c : Int) == 0) = false := by rw [beq_eq_false_iff_ne]; omega
            obtain ⟨G, hG⟩ : ∃ G, G = w'.heap.size := ⟨_, rfl⟩
            have HG : Hid _ := hG
            clear hG
            go_wp2_with fail
            rw [← HG.out]
            have Hyz : Hid (Reads .i64 ((w'.alloc (.cells #[.int .i64 (i : Int)] 3)).alloc (.cells #[.int .i64 (c : Int), .slice (some ⟨G, 0, none⟩) 1 1] 71)) (.slice (some ⟨G, 0, none⟩) 1 1) [i]) := by
              have := holds_lit w' 3 [.int .i64 (i : Int)] (by simp)
              rw [← HG.out] at this
              exact Holds.keep this ((Fr.refl _ _).alloc _)
            have Hbz : Hid (((w'.alloc (.cells #[.int .i64 (i : Int)] 3)).alloc (.cells #[.int .i64 (c : Int), .slice (some ⟨G, 0, none⟩) 1 1] 71)).heap[G + 1]? = some (.cells #[.int .i64 (c : Int), .slice (some ⟨G, 0, none⟩) 1 1] 71 (0, 0))) := by
              have := heap_alloc_new (w'.alloc (.cells #[.int .i64 (i : Int)] 3)) (.cells #[.int .i64 (c : Int), .slice (some ⟨G, 0, none⟩) 1 1] 71)
              rw [World.size_alloc, ← HG.out] at this
              exact this
            have HGz : Hid (((w'.alloc (.cells #[.int .i64 (i : Int)] 3)).alloc (.cells #[.int .i64 (c : Int), .slice (some ⟨G, 0, none⟩) 1 1] 71)).heap.size = G + 2) := by
              show _ = _
              rw [World.size_alloc, World.size_alloc, HG.out]
            have Hoz : Hid (OwnI wt ((w'.alloc (.cells #[.int .i64 (i : Int)] 3)).alloc (.cells #[.int .i64 (c : Int), .slice (some ⟨G, 0, none⟩) 1 1] 71)) (.slice a5 m c5) ps) := Ho.out.keep (((Fr.refl w' _).alloc _).alloc _)
            have hfz : Fr wc ((w'.alloc (.cells #[.int .i64 (i : Int)] 3)).alloc (.cells #[.int .i64 (c : Int), .slice (some ⟨G, 0, none⟩) 1 1] 71)) (fun _ => False) := (hf.alloc _).alloc _
            have HGw : Hid (wc.heap.size ≤ G) := by show _ ≤ _; rw [HG.out]; exact hf.size
            generalize ((w'.alloc (.cells #[.int .i64 (i : Int)] 3)).alloc (.cells #[.int .i64 (c : Int), .slice (some ⟨G, 0, none⟩) 1 1] 71)) = wz at Hyz Hbz HGz Hoz hfz ⊢
            have Hml : Hid (m = (symsTo wt i).length) := by
              show _ = _
              have e1 : (fsts ps).length = (coin (symsTo wt i)).length := by rw [Hps.out]
              unfold fsts at e1
              rw [List.length_map, coin_length] at e1
              rw [Hm.out]
              exact e1
            clear cx hf HG
            go_loopg [8] m (fun g K wi => ∃ k : Nat, g = k ∧ k ≤ m ∧ K = .int .i64 (k : Int) ∧ (∀ y, (symsTo wt i)[k]? = some y → c < wt y) ∧ Fr wz wi (fun _ => False))
            case atStart => exact ⟨m, rfl, Nat.le_refl _, rfl, fun y hy => (by rw [List.getElem?_eq_none (by rw [← Hml.out]; exact Nat.le_refl _)] at hy; cases hy), Fr.refl _ _⟩
            case round =>
              obtain ⟨k, hgk, hk, rfl, hdk, hfi⟩ := hrel
              have Hgk : Hid _ := hgk
              have Hdk : Hid _ := hdk
              clear hgk hdk
              have hw : ∀ x, Fr wr.drew x (fun _ => False) → x.cell? ⟨G + 1, 0, none⟩ = some (.int .i64 (c : Int)) := fun x hx => two_cell0 ((hfi.none ((Fr.refl wr (fun _ => False)).drew.none hx)).kept Hbz.out (fun h => h))
              by_cases hk0 : k = 0
              · have Htk : Hid (∀ y ∈ (symsTo wt i).take k, wt y ≤ c) := fun y hy => by rw [hk0] at hy; simp at hy
                have hd1 : ¬ (0 : Int) < (k : Int) := by omega
                have hd2 : decide ((0 : Int) < (k : Int)) = false := decide_eq_false hd1
                have hd4 : decide (0 < k) = false := decide_eq_false (by omega)
                clear hk0
                go_wp2_with fail
                refine wp_region_all (fun _ => False) [.c ?_, .c ?_, .c ?_, .c ?_, .c ?_, .c ?_, .c ?_, .c ?_, .c ?_, .c ?_, .c ?_, .c ?_, .c ?_] (by kernel_rfl) (by kernel_rfl) rfl ?last ?walk
                case last => repeat (first | exact Lasts.nil | refine Lasts.c ?_)
                case walk =>
                  repeat (first | (refine wpAll_take rfl rfl (fun x hx => ?_) ?_; (focus (go_simp; with_reducible rfl)); simp only [Act.put, List.setIfInBounds_toArray, List.set_cons_zero, List.set_cons_succ]) | (refine wpAll_pass rfl rfl ?_ ?_; (focus rfl); simp only [Act.put, List.setIfInBounds_toArray, List.set_cons_zero, List.set_cons_succ]))
                  refine wpAll_nil (fun wx hfx _ => ?_)
                  replace hfx : Fr wr wx (fun _ => False) := (Fr.refl wr (fun _ => False)).drew.none hfx
                  replace hfx := hfi.none hfx
                  clear hd1 hd2 hd4 hw hfi
                  have hox := Hoz.out.keep hfx
                  have hyx := Hyz.out.keep hfx
                  have hbx := hfx.kept Hbz.out (fun h => h)
                  have hwx := hfz.none hfx
                  have hsz := hfx.size
                  have hGx : G < wx.heap.size := by have := HGz.out; omega
                  have hbc0 : ∀ x, Fr wx.drew x (fun j => wx.heap.size ≤ j) → x.cell? ⟨G + 1, 0, none⟩ = some (.int .i64 (c : Int)) := fun x hx => two_cell0 (hx.kept (b := G + 1) (o := .cells #[.int .i64 (c : Int), .slice (some ⟨G, 0, none⟩) 1 1] 71 (0, 0)) hbx (fun h => by have := lt_of_block hbx; omega))
                  have hbc1 : ∀ x, Fr wx.drew x (fun j => wx.heap.size ≤ j) → x.cell? ⟨G + 1, 1, none⟩ = some (.slice (some ⟨G, 0, none⟩) 1 1) := fun x hx => two_cell1 (hx.kept (b := G + 1) (o := .cells #[.int .i64 (c : Int), .slice (some ⟨G, 0, none⟩) 1 1] 71 (0, 0)) hbx (fun h => by have := lt_of_block hbx; omega))
                  have Hold : Hid (∀ p ∈ ps ++ [([i], Value.slice (some ⟨G, 0, none⟩) 1 1)], ∀ j, p.2.ownBlock = some j → 0 < p.1.length → j < wx.heap.size) := fun p hp j hj hl => by
                    rcases List.mem_append.1 hp with h | h
                    · exact good_older hox.2 p h j hj hl
                    · simp at h
                      subst h
                      simp [Value.ownBlock] at hj
                      omega
                  have Hsub : Hid (∀ p ∈ ps.take k ++ [([i], Value.slice (some ⟨G, 0, none⟩) 1 1)] ++ ps.drop k, p ∈ ps ++ [([i], Value.slice (some ⟨G, 0, none⟩) 1 1)]) := fun p hp => by
                    rcases List.mem_append.1 hp with h | h
                    · rcases List.mem_append.1 h with h | h
                      · exact List.mem_append_left _ (List.mem_of_mem_take h)
                      · exact List.mem_append_right _ h
                    · exact List.mem_append_left _ (List.mem_of_mem_drop h)
                  have Hox : Hid (OwnI wt wx (.slice a5 m c5) ps) := hox
                  have Hyx : Hid (Reads .i64 wx (.slice (some ⟨G, 0, none⟩) 1 1) [i]) := hyx
                  have Hfin : Hid (fsts (ps.take k ++ [([i], Value.slice (some ⟨G, 0, none⟩) 1 1)] ++ ps.drop k) = coin (symsTo wt (i + 1))) := by
                    show _ = _
                    rw [symsTo, if_neg (by rw [← Hc.out]; exact h0), ins_at wt i (symsTo wt i) k (by rw [← Hml.out]; exact hk) (fun y hy => by rw [← Hc.out]; exact Htk.out y hy) (fun y hy => by rw [← Hc.out]; exact Hdk.out y hy)]
                    have e1 : fsts (ps.take k) = (coin (symsTo wt i)).take k := by rw [← Hps.out]; unfold fsts; rw [List.map_take]
                    have e2 : fsts (ps.drop k) = (coin (symsTo wt i)).drop k := by rw [← Hps.out]; unfold fsts; rw [List.map_drop]
                    unfold fsts at e1 e2 ⊢
                    rw [List.map_append, List.map_append, e1, e2]
                    simp [coin]
                  have hTm : ∀ {a b : World} {S : Nat → Prop}, Fr a b S → (∀ j, S j → wx.heap.size ≤ j) → Fr a b (fun j => wx.heap.size ≤ j) := fun h hs => h.mono (fun j _ hj => hs j hj)
                  have hkc : (k : Int) ≤ (c5 : Int) := by omega
                  have hkm : (k : Int) ≤ (m : Int) := by omega
                  clear hox hyx hbx hfx
                  go_wp2_with fail
                  refine wp_region_tree (fun j => wx.heap.size ≤ j) (.take 0 (.take 1 (.take 2 (.take 4 (.take 7 (.take 8 (.take 9 (.two 3 (.one 5 (.one 6 (.one 10 (.take 11 .nil)))) 5 (.one 3 (.one 6 (.one 10 (.take 11 .nil)))))))))))) (by kernel_rfl) (by kernel_rfl) (by decide) (by kernel_rfl) ?_
                  repeat (refine wpT_take (v := ?_) rfl rfl (fun x hx => ?_) ?_; rotate_left; (focus (go_simp; with_reducible rfl)); simp only [Act.put, List.setIfInBounds_toArray, List.set_cons_zero, List.set_cons_succ])
                  have hrx := Hox.out.rd
                  have htake := RdI.take hrx Hm.out.symm k hk
                  have hdrop := RdI.drop hrx Hm.out.symm k hk
                  refine wpT_two rfl rfl rfl rfl (fun K hK => ?_) (fun K hK => ?_)
                  · obtain ⟨v1, z1, hrun1, ho1, hf1, hm1⟩ := app_items wt wx.drew (.slice none 0 0) (.slice a5 k c5) [] (ps.take k) (OwnI.nil _ _) (htake.keep (Fr.refl wx _).drew) (by simp; omega) (fun p hp j hj hl => by simp [Value.ownBlock])
                    rw [List.nil_append] at ho1
                    have hv1 : ∀ j, v1.ownBlock = some j → wx.heap.size ≤ j := fun j hj => by
                      rcases hm1 j hj with h | h
                      · simp [Value.ownBlock] at h
                      · exact h
                    have hf1' : Fr wx z1 (fun _ => False) := (Fr.refl wx (fun _ => False)).drew.trans hf1 (fun j _ h => by simp [Value.ownBlock] at h)
                    refine op_append_run (.const (.slice none 0 0)) (.tmp 57) 68 rfl rfl rfl hrun1 ?_
                    refine hK _ _ (hTm hf1 (fun j h => by simp [Value.ownBlock] at h)) ?_
                    clear hK K
                    simp only [Act.put, List.setIfInBounds_toArray, List.set_cons_zero, List.set_cons_succ]
                    refine wpT_one rfl rfl (fun K hK => ?_)
                    go_simp
                    refine hK _ _ (hTm ((Fr.refl z1 (fun _ => False)).alloc _) (fun j h => h.elim)) ?_
                    clear hK K
                    have hlit : RdI wt (z1.alloc (.cells #[.int .i64 (c : Int), .slice (some ⟨G, 0, none⟩) 1 1] 71)) (.slice (some ⟨z1.heap.size, 0, none⟩) 1 1) [([i], .slice (some ⟨G, 0, none⟩) 1 1)] := by
                      refine ⟨?_, fun p hp => ?_⟩
                      · have h1 := holdsN_lit 2 z1 71 1 (irow wt [([i], .slice (some ⟨G, 0, none⟩) 1 1)]) (by simp [irow]) (by omega)
                        have e1 : (irow wt [([i], .slice (some ⟨G, 0, none⟩) 1 1)]).toArray = #[.int .i64 (c : Int), .slice (some ⟨G, 0, none⟩) 1 1] := by simp [irow, W_one, Hc.out]
                        rw [e1] at h1
                        exact h1
                      · simp at hp
                        subst hp
                        exact Hyx.out.keep (hf1'.alloc _)
                    have hf1a : Fr wx (z1.alloc (.cells #[.int .i64 (c : Int), .slice (some ⟨G, 0, none⟩) 1 1] 71)) (fun _ => False) := hf1'.alloc _
                    have ho1a := ho1.keep ((Fr.refl z1 (fun _ => False)).alloc (.cells #[.int .i64 (c : Int), .slice (some ⟨G, 0, none⟩) 1 1] 71))
                    generalize hw0 : z1.alloc (.cells #[.int .i64 (c : Int), .slice (some ⟨G, 0, none⟩) 1 1] 71) = w0 at hf1a hlit ho1a ⊢
                    obtain ⟨v2, z2, hrun2, ho2, hf2, hm2⟩ := app_items wt w0 v1 _ (ps.take k) [([i], .slice (some ⟨G, 0, none⟩) 1 1)] ho1a hlit (by simp; omega) (fun p hp j hj hl h => by
                      have := Hold.out p (Hsub.out p (List.mem_append_left _ hp)) j hj hl
                      have := hv1 j h
                      omega)
                    have hv2 : ∀ j, v2.ownBlock = some j → wx.heap.size ≤ j := fun j hj => by
                      rcases hm2 j hj with h | h
                      · exact hv1 j h
                      · have := hf1a.size; omega
                    have hf2' : Fr wx z2 (fun _ => False) := hf1a.newer hf2 hv1
                    refine wpT_one rfl rfl (fun K hK => ?_)
                    refine op_append_run (.tmp 58) (.tmp 60) 68 rfl rfl rfl hrun2 ?_
                    refine hK _ _ (hTm hf2 hv1) ?_
                    clear hK K
                    simp only [Act.put, List.setIfInBounds_toArray, List.set_cons_zero, List.set_cons_succ]
                    obtain ⟨v3, z3, hrun3, ho3, hf3, hm3⟩ := app_items wt z2 v2 _ (ps.take k ++ [([i], .slice (some ⟨G, 0, none⟩) 1 1)]) (ps.drop k) ho2 (hdrop.keep hf2') (by have := Hm.out; simp; omega) (fun p hp j hj hl h => by
                      have := Hold.out p (Hsub.out p hp) j hj hl
                      have := hv2 j h
                      omega)
                    refine wpT_one rfl rfl (fun K hK => ?_)
                    refine op_append_run (.tmp 61) (.tmp 64) 68 rfl rfl rfl hrun3 ?_
                    refine hK _ _ (hTm hf3 hv2) ?_
                    clear hK K
                    simp only [Act.put, List.setIfInBounds_toArray, List.set_cons_zero, List.set_cons_succ]
                    repeat (refine wpT_take (v := ?_) rfl rfl (fun x hx => ?_) ?_; rotate_left; (focus (go_simp; with_reducible rfl)); simp only [Act.put, List.setIfInBounds_toArray, List.set_cons_zero, List.set_cons_succ])
                    have hv3 : ∀ j, v3.ownBlock = some j → wx.heap.size ≤ j := fun j hj => by
                      rcases hm3 j hj with h | h
                      · exact hv2 j h
                      · have := hf2'.size; omega
                    unfold wpT
                    go_wp2_with fail
                    all_goals
                      go_roundg (n - (i + 1))
                      case rel => exact ⟨i + 1, _, rfl, by omega, by go_num, ho3, Hfin.out, by simp; have := Hm.out; omega, hwx.none (hf2'.newer hf3 hv2), fun p hp j hj hl h => by
                          have := Hold.out p (Hsub.out p hp) j hj hl
                          have := hv3 j h
                          omega, fun j hj => by have := hv3 j hj; have := hwx.size; omega⟩
                      case measure => rw [Hg.out]; omega
                  · go_simp
                    refine hK _ _ (hTm ((Fr.refl wx.drew (fun _ => False)).alloc _) (fun j h => h.elim)) ?_
                    clear hK K
                    have hf0 : Fr wx (wx.alloc (.cells #[.int .i64 (c : Int), .slice (some ⟨G, 0, none⟩) 1 1] 71)).drew (fun _ => False) := ((Fr.refl wx (fun _ => False)).alloc _).drew
                    have hlit : RdI wt (wx.alloc (.cells #[.int .i64 (c : Int), .slice (some ⟨G, 0, none⟩) 1 1] 71)).drew (.slice (some ⟨wx.heap.size, 0, none⟩) 1 1) [([i], .slice (some ⟨G, 0, none⟩) 1 1)] := by
                      refine ⟨?_, fun p hp => ?_⟩
                      · have h1 := holdsN_lit 2 wx 71 1 (irow wt [([i], .slice (some ⟨G, 0, none⟩) 1 1)]) (by simp [irow]) (by omega)
                        have e1 : (irow wt [([i], .slice (some ⟨G, 0, none⟩) 1 1)]).toArray = #[.int .i64 (c : Int), .slice (some ⟨G, 0, none⟩) 1 1] := by simp [irow, W_one, Hc.out]
                        rw [e1] at h1
                        exact h1.keep (Fr.refl _ _).drew
                      · simp at hp
                        subst hp
                        exact Hyx.out.keep hf0
                    generalize hw0 : (wx.alloc (.cells #[.int .i64 (c : Int), .slice (some ⟨G, 0, none⟩) 1 1] 71)).drew = w0 at hf0 hlit ⊢
                    obtain ⟨v1, z1, hrun1, ho1, hf1, hm1⟩ := app_items wt w0 (.slice none 0 0) (.slice a5 k c5) [] (ps.take k) (OwnI.nil _ _) (htake.keep hf0) (by simp; omega) (fun p hp j hj hl => by simp [Value.ownBlock])
                    rw [List.nil_append] at ho1
                    have hv1 : ∀ j, v1.ownBlock = some j → wx.heap.size ≤ j := fun j hj => by
                      rcases hm1 j hj with h | h
                      · simp [Value.ownBlock] at h
                      · have := hf0.size; omega
                    have hf1' : Fr w0 z1 (fun _ => False) := hf1.mono (fun j _ h => by simp [Value.ownBlock] at h)
                    have hf1w := hf0.none hf1'
                    refine wpT_one rfl rfl (fun K hK => ?_)
                    refine op_append_run (.const (.slice none 0 0)) (.tmp 57) 68 rfl rfl rfl hrun1 ?_
                    refine hK _ _ (hTm hf1 (fun j h => by simp [Value.ownBlock] at h)) ?_
                    clear hK K
                    simp only [Act.put, List.setIfInBounds_toArray, List.set_cons_zero, List.set_cons_succ]
                    obtain ⟨v2, z2, hrun2, ho2, hf2, hm2⟩ := app_items wt z1 v1 _ (ps.take k) [([i], .slice (some ⟨G, 0, none⟩) 1 1)] ho1 (hlit.keep hf1') (by simp; omega) (fun p hp j hj hl h => by
                      have := Hold.out p (Hsub.out p (List.mem_append_left _ hp)) j hj hl
                      have := hv1 j h
                      omega)
                    have hv2 : ∀ j, v2.ownBlock = some j → wx.heap.size ≤ j := fun j hj => by
                      rcases hm2 j hj with h | h
                      · exact hv1 j h
                      · have := hf1w.size; omega
                    have hf2' : Fr wx z2 (fun _ => False) := hf1w.newer hf2 hv1
                    refine wpT_one rfl rfl (fun K hK => ?_)
                    refine op_append_run (.tmp 58) (.tmp 60) 68 rfl rfl rfl hrun2 ?_
                    refine hK _ _ (hTm hf2 hv1) ?_
                    clear hK K
                    simp only [Act.put, List.setIfInBounds_toArray, List.set_cons_zero, List.set_cons_succ]
                    obtain ⟨v3, z3, hrun3, ho3, hf3, hm3⟩ := app_items wt z2 v2 _ (ps.take k ++ [([i], .slice (some ⟨G, 0, none⟩) 1 1)]) (ps.drop k) ho2 (hdrop.keep hf2') (by have := Hm.out; simp; omega) (fun p hp j hj hl h => by
                      have := Hold.out p (Hsub.out p hp) j hj hl
                      have := hv2 j h
                      omega)
                    refine wpT_one rfl rfl (fun K hK => ?_)
                    refine op_append_run (.tmp 61) (.tmp 64) 68 rfl rfl rfl hrun3 ?_
                    refine hK _ _ (hTm hf3 hv2) ?_
                    clear hK K
                    simp only [Act.put, List.setIfInBounds_toArray, List.set_cons_zero, List.set_cons_succ]
                    repeat (refine wpT_take (v := ?_) rfl rfl (fun x hx => ?_) ?_; rotate_left; (focus (go_simp; with_reducible rfl)); simp only [Act.put, List.setIfInBounds_toArray, List.set_cons_zero, List.set_cons_succ])
                    have hv3 : ∀ j, v3.ownBlock = some j → wx.heap.size ≤ j := fun j hj => by
                      rcases hm3 j hj with h | h
                      · exact hv2 j h
                      · have := hf2'.size; omega
                    unfold wpT
                    go_wp2_with fail
                    all_goals
                      go_roundg (n - (i + 1))
                      case rel => exact ⟨i + 1, _, rfl, by omega, by go_num, ho3, Hfin.out, by simp; have := Hm.out; omega, hwx.none (hf2'.newer hf3 hv2), fun p hp j hj hl h => by
                          have := Hold.out p (Hsub.out p hp) j hj hl
                          have := hv3 j h
                          omega, fun j hj => by have := hv3 j hj; have := hwx.size; omega⟩
                      case measure => rw [Hg.out]; omega


              · obtain ⟨q, hq⟩ : ∃ q, k = q + 1 := ⟨k - 1, by omega⟩
                obtain ⟨pc, hpc⟩ : ∃ p, ps[q]? = some p := ⟨_, List.getElem?_eq_getElem (by rw [← Hm.out]; omega)⟩
                obtain ⟨sq, hsq, hpq⟩ := coin_at Hps.out hpc
                obtain ⟨b5, o5, cp5, e, cc0, -, -⟩ := (Hoz.out.keep hfi).rd.get q pc hpc
                simp only [Value.slice.injEq] at e
                obtain ⟨rfl, -, rfl⟩ := e
                rw [hpq, W_one] at cc0
                have hb5 : b5 < wr.heap.size := World.block_lt_of_cell? _ _ cc0
                obtain ⟨cq, hcq⟩ : ∃ x, x = wt sq := ⟨_, rfl⟩
                rw [← hcq] at cc0
                have kc : ∀ x, Fr wr.drew x (fun _ => False) → x.cell? ⟨b5, o5 + q * 2, none⟩ = some (.int .i64 (cq : Int)) := fun x hx => by
                  rw [World.cell?_of_block (w := wr) (hx.block b5 hb5 (fun h => h))]
                  exact cc0
                have hkq : IntKind.i64.wrap ((k : Int) - 1) = (q : Int) := by rw [IntWalk.i64_in _ (by omega)]; omega
                have hq1 : (q : Int) < (m : Int) := by omega
                have hq2 : q < m := by omega
                have hd1 : (0 : Int) < (k : Int) := by omega
                have hd2 : decide ((0 : Int) < (k : Int)) = true := decide_eq_true hd1
                have hd4 : decide (0 < k) = true := decide_eq_true (by omega)
                have Hq : Hid _ := hq
                have Hsq : Hid _ := hsq
                have Hcq : Hid _ := hcq
                clear hq hpc hpq cc0 hk0 hsq hcq
                by_cases hle : c < cq
                · have hd3 : decide ((c : Int) < (cq : Int)) = true := decide_eq_true (by omega)
                  have hd5 : decide (c < cq) = true := decide_eq_true hle
                  go_wp2_with fail
                  refine wp_region_all (fun _ => False) [.c ?_, .c ?_, .c ?_, .c ?_, .c ?_, .c ?_, .c ?_, .c ?_, .c ?_, .c ?_, .c ?_, .c ?_, .c ?_] (by kernel_rfl) (by kernel_rfl) rfl ?last ?walk
                  case last => repeat (first | exact Lasts.nil | refine Lasts.c ?_)
                  case walk =>
                    repeat (first | (refine wpAll_take rfl rfl (fun x hx => ?_) ?_; (focus (go_simp; with_reducible rfl)); simp only [Act.put, List.setIfInBounds_toArray, List.set_cons_zero, List.set_cons_succ]) | (refine wpAll_pass rfl rfl ?_ ?_; (focus rfl); simp only [Act.put, List.setIfInBounds_toArray, List.set_cons_zero, List.set_cons_succ]))
                    refine wpAll_nil (fun wx hfx _ => ?_)
                    replace hfx : Fr wr wx (fun _ => False) := (Fr.refl wr (fun _ => False)).drew.none hfx
                    replace hfx := hfi.none hfx
                    go_wp2_with fail
                    go_roundg q
                    case rel => exact ⟨q, rfl, by omega, by first | rfl | rw [hkq], fun y hy => by rw [Hsq.out] at hy; simp only [Option.some.injEq] at hy; rw [← hy, ← Hcq.out]; exact hle, hfx⟩
                    case measure => rw [Hgk.out]; have := Hq.out; omega
                · have hd3 : decide ((c : Int) < (cq : Int)) = false := decide_eq_false (by omega)
                  have hd5 : decide (c < cq) = false := decide_eq_false hle
                  have Htk : Hid (∀ y ∈ (symsTo wt i).take k, wt y ≤ c) := by
                    have := take_le wt (symsTo wt i) (syms_up wt i) q sq c Hsq.out (by rw [← Hcq.out]; omega)
                    rw [← Hq.out] at this
                    exact this
                  go_wp2_with fail
                  refine wp_region_all (fun _ => False) [.c ?_, .c ?_, .c ?_, .c ?_, .c ?_, .c ?_, .c ?_, .c ?_, .c ?_, .c ?_, .c ?_, .c ?_, .c ?_] (by kernel_rfl) (by kernel_rfl) rfl ?last ?walk
                  case last => repeat (first | exact Lasts.nil | refine Lasts.c ?_)
                  case walk =>
                    repeat (first | (refine wpAll_take rfl rfl (fun x hx => ?_) ?_; (focus (go_simp; with_reducible rfl)); simp only [Act.put, List.setIfInBounds_toArray, List.set_cons_zero, List.set_cons_succ]) | (refine wpAll_pass rfl rfl ?_ ?_; (focus rfl); simp only [Act.put, List.setIfInBounds_toArray, List.set_cons_zero, List.set_cons_succ]))
                    refine wpAll_nil (fun wx hfx _ => ?_)
                    replace hfx : Fr wr wx (fun _ => False) := (Fr.refl wr (fun _ => False)).drew.none hfx
                    replace hfx := hfi.none hfx
                    clear hd1 hd2 hd3 hd4 hd5 hw hfi kc hkq hq1 hq2 hb5 hle Hsq Hcq
                    have hox := Hoz.out.keep hfx
                    have hyx := Hyz.out.keep hfx
                    have hbx := hfx.kept Hbz.out (fun h => h)
                    have hwx := hfz.none hfx
                    have hsz := hfx.size
                    have hGx : G < wx.heap.size := by have := HGz.out; omega
                    have hbc0 : ∀ x, Fr wx.drew x (fun j => wx.heap.size ≤ j) → x.cell? ⟨G + 1, 0, none⟩ = some (.int .i64 (c : Int)) := fun x hx => two_cell0 (hx.kept (b := G + 1) (o := .cells #[.int .i64 (c : Int), .slice (some ⟨G, 0, none⟩) 1 1] 71 (0, 0)) hbx (fun h => by have := lt_of_block hbx; omega))
                    have hbc1 : ∀ x, Fr wx.drew x (fun j => wx.heap.size ≤ j) → x.cell? ⟨G + 1, 1, none⟩ = some (.slice (some ⟨G, 0, none⟩) 1 1) := fun x hx => two_cell1 (hx.kept (b := G + 1) (o := .cells #[.int .i64 (c : Int), .slice (some ⟨G, 0, none⟩) 1 1] 71 (0, 0)) hbx (fun h => by have := lt_of_block hbx; omega))
                    have Hold : Hid (∀ p ∈ ps ++ [([i], Value.slice (some ⟨G, 0, none⟩) 1 1)], ∀ j, p.2.ownBlock = some j → 0 < p.1.length → j < wx.heap.size) := fun p hp j hj hl => by
                      rcases List.mem_append.1 hp with h | h
                      · exact good_older hox.2 p h j hj hl
                      · simp at h
                        subst h
                        simp [Value.ownBlock] at hj
                        omega
                    have Hsub : Hid (∀ p ∈ ps.take k ++ [([i], Value.slice (some ⟨G, 0, none⟩) 1 1)] ++ ps.drop k, p ∈ ps ++ [([i], Value.slice (some ⟨G, 0, none⟩) 1 1)]) := fun p hp => by
                      rcases List.mem_append.1 hp with h | h
                      · rcases List.mem_append.1 h with h | h
                        · exact List.mem_append_left _ (List.mem_of_mem_take h)
                        · exact List.mem_append_right _ h
                      · exact List.mem_append_left _ (List.mem_of_mem_drop h)
                    have Hox : Hid (OwnI wt wx (.slice (some ⟨b5, o5, none⟩) m c5) ps) := hox
                    have Hyx : Hid (Reads .i64 wx (.slice (some ⟨G, 0, none⟩) 1 1) [i]) := hyx
                    have Hfin : Hid (fsts (ps.take k ++ [([i], Value.slice (some ⟨G, 0, none⟩) 1 1)] ++ ps.drop k) = coin (symsTo wt (i + 1))) := by
                      show _ = _
                      rw [symsTo, if_neg (by rw [← Hc.out]; exact h0), ins_at wt i (symsTo wt i) k (by rw [← Hml.out]; exact hk) (fun y hy => by rw [← Hc.out]; exact Htk.out y hy) (fun y hy => by rw [← Hc.out]; exact Hdk.out y hy)]
                      have e1 : fsts (ps.take k) = (coin (symsTo wt i)).take k := by rw [← Hps.out]; unfold fsts; rw [List.map_take]
                      have e2 : fsts (ps.drop k) = (coin (symsTo wt i)).drop k := by rw [← Hps.out]; unfold fsts; rw [List.map_drop]
                      unfold fsts at e1 e2 ⊢
                      rw [List.map_append, List.map_append, e1, e2]
                      simp [coin]
                    have hTm : ∀ {a b : World} {S : Nat → Prop}, Fr a b S → (∀ j, S j → wx.heap.size ≤ j) → Fr a b (fun j => wx.heap.size ≤ j) := fun h hs => h.mono (fun j _ hj => hs j hj)
                    have hkc : (k : Int) ≤ (c5 : Int) := by omega
                    have hkm : (k : Int) ≤ (m : Int) := by omega
                    clear hox hyx hbx hfx
                    go_wp2_with fail
                    refine wp_region_tree (fun j => wx.heap.size ≤ j) (.take 0 (.take 1 (.take 2 (.take 4 (.take 7 (.take 8 (.take 9 (.two 3 (.one 5 (.one 6 (.one 10 (.take 11 .nil)))) 5 (.one 3 (.one 6 (.one 10 (.take 11 .nil)))))))))))) (by kernel_rfl) (by kernel_rfl) (by decide) (by kernel_rfl) ?_
                    repeat (refine wpT_take (v := ?_) rfl rfl (fun x hx => ?_) ?_; rotate_left; (focus (go_simp; with_reducible rfl)); simp only [Act.put, List.setIfInBounds_toArray, List.set_cons_zero, List.set_cons_succ])
                    have hrx := Hox.out.rd
                    have htake := RdI.take hrx Hm.out.symm k hk
                    have hdrop : RdI wt wx (.slice (if c5 = k then some ⟨b5, o5, none⟩ else some ⟨b5, o5 + k * 2, none⟩) (m - k) (c5 - k)) (ps.drop k) := by
                      have h1 := RdI.drop hrx Hm.out.symm k hk
                      simp only [Option.map_some, add_none] at h1
                      exact h1
                    refine wpT_two rfl rfl rfl rfl (fun K hK => ?_) (fun K hK => ?_)
                    · obtain ⟨v1, z1, hrun1, ho1, hf1, hm1⟩ := app_items wt wx.drew (.slice none 0 0) (.slice (some ⟨b5, o5, none⟩) k c5) [] (ps.take k) (OwnI.nil _ _) (htake.keep (Fr.refl wx _).drew) (by simp; omega) (fun p hp j hj hl => by simp [Value.ownBlock])
                      rw [List.nil_append] at ho1
                      have hv1 : ∀ j, v1.ownBlock = some j → wx.heap.size ≤ j := fun j hj => by
                        rcases hm1 j hj with h | h
                        · simp [Value.ownBlock] at h
                        · exact h
                      have hf1' : Fr wx z1 (fun _ => False) := (Fr.refl wx (fun _ => False)).drew.trans hf1 (fun j _ h => by simp [Value.ownBlock] at h)
                      refine op_append_run (.const (.slice none 0 0)) (.tmp 57) 68 rfl rfl rfl hrun1 ?_
                      refine hK _ _ (hTm hf1 (fun j h => by simp [Value.ownBlock] at h)) ?_
                      clear hK K
                      simp only [Act.put, List.setIfInBounds_toArray, List.set_cons_zero, List.set_cons_succ]
                      refine wpT_one rfl rfl (fun K hK => ?_)
                      go_simp
                      refine hK _ _ (hTm ((Fr.refl z1 (fun _ => False)).alloc _) (fun j h => h.elim)) ?_
                      clear hK K
                      have hlit : RdI wt (z1.alloc (.cells #[.int .i64 (c : Int), .slice (some ⟨G, 0, none⟩) 1 1] 71)) (.slice (some ⟨z1.heap.size, 0, none⟩) 1 1) [([i], .slice (some ⟨G, 0, none⟩) 1 1)] := by
                        refine ⟨?_, fun p hp => ?_⟩
                        · have h1 := holdsN_lit 2 z1 71 1 (irow wt [([i], .slice (some ⟨G, 0, none⟩) 1 1)]) (by simp [irow]) (by omega)
                          have e1 : (irow wt [([i], .slice (some ⟨G, 0, none⟩) 1 1)]).toArray = #[.int .i64 (c : Int), .slice (some ⟨G, 0, none⟩) 1 1] := by simp [irow, W_one, Hc.out]
                          rw [e1] at h1
                          exact h1
                        · simp at hp
                          subst hp
                          exact Hyx.out.keep (hf1'.alloc _)
                      have hf1a : Fr wx (z1.alloc (.cells #[.int .i64 (c : Int), .slice (some ⟨G, 0, none⟩) 1 1] 71)) (fun _ => False) := hf1'.alloc _
                      have ho1a := ho1.keep ((Fr.refl z1 (fun _ => False)).alloc (.cells #[.int .i64 (c : Int), .slice (some ⟨G, 0, none⟩) 1 1] 71))
                      generalize hw0 : z1.alloc (.cells #[.int .i64 (c : Int), .slice (some ⟨G, 0, none⟩) 1 1] 71) = w0 at hf1a hlit ho1a ⊢
                      obtain ⟨v2, z2, hrun2, ho2, hf2, hm2⟩ := app_items wt w0 v1 _ (ps.take k) [([i], .slice (some ⟨G, 0, none⟩) 1 1)] ho1a hlit (by simp; omega) (fun p hp j hj hl h => by
                        have := Hold.out p (Hsub.out p (List.mem_append_left _ hp)) j hj hl
                        have := hv1 j h
                        omega)
                      have hv2 : ∀ j, v2.ownBlock = some j → wx.heap.size ≤ j := fun j hj => by
                        rcases hm2 j hj with h | h
                        · exact hv1 j h
                        · have := hf1a.size; omega
                      have hf2' : Fr wx z2 (fun _ => False) := hf1a.newer hf2 hv1
                      refine wpT_one rfl rfl (fun K hK => ?_)
                      refine op_append_run (.tmp 58) (.tmp 60) 68 rfl rfl rfl hrun2 ?_
                      refine hK _ _ (hTm hf2 hv1) ?_
                      clear hK K
                      simp only [Act.put, List.setIfInBounds_toArray, List.set_cons_zero, List.set_cons_succ]
                      obtain ⟨v3, z3, hrun3, ho3, hf3, hm3⟩ := app_items wt z2 v2 _ (ps.take k ++ [([i], .slice (some ⟨G, 0, none⟩) 1 1)]) (ps.drop k) ho2 (hdrop.keep hf2') (by have := Hm.out; simp; omega) (fun p hp j hj hl h => by
                        have := Hold.out p (Hsub.out p hp) j hj hl
                        have := hv2 j h
                        omega)
                      refine wpT_one rfl rfl (fun K hK => ?_)
                      refine op_append_run (.tmp 61) (.tmp 64) 68 rfl rfl rfl hrun3 ?_
                      refine hK _ _ (hTm hf3 hv2) ?_
                      clear hK K
                      simp only [Act.put, List.setIfInBounds_toArray, List.set_cons_zero, List.set_cons_succ]
                      repeat (refine wpT_take (v := ?_) rfl rfl (fun x hx => ?_) ?_; rotate_left; (focus (go_simp; with_reducible rfl)); simp only [Act.put, List.setIfInBounds_toArray, List.set_cons_zero, List.set_cons_succ])
                      have hv3 : ∀ j, v3.ownBlock = some j → wx.heap.size ≤ j := fun j hj => by
                        rcases hm3 j hj with h | h
                        · exact hv2 j h
                        · have := hf2'.size; omega
                      unfold wpT
                      go_wp2_with fail
                      all_goals
                        go_roundg (n - (i + 1))
                        case rel => exact ⟨i + 1, _, rfl, by omega, by go_num, ho3, Hfin.out, by simp; have := Hm.out; omega, hwx.none (hf2'.newer hf3 hv2), fun p hp j hj hl h => by
                            have := Hold.out p (Hsub.out p hp) j hj hl
                            have := hv3 j h
                            omega, fun j hj => by have := hv3 j hj; have := hwx.size; omega⟩
                        case measure => rw [Hg.out]; omega
                    · go_simp
                      refine hK _ _ (hTm ((Fr.refl wx.drew (fun _ => False)).alloc _) (fun j h => h.elim)) ?_
                      clear hK K
                      have hf0 : Fr wx (wx.alloc (.cells #[.int .i64 (c : Int), .slice (some ⟨G, 0, none⟩) 1 1] 71)).drew (fun _ => False) := ((Fr.refl wx (fun _ => False)).alloc _).drew
                      have hlit : RdI wt (wx.alloc (.cells #[.int .i64 (c : Int), .slice (some ⟨G, 0, none⟩) 1 1] 71)).drew (.slice (some ⟨wx.heap.size, 0, none⟩) 1 1) [([i], .slice (some ⟨G, 0, none⟩) 1 1)] := by
                        refine ⟨?_, fun p hp => ?_⟩
                        · have h1 := holdsN_lit 2 wx 71 1 (irow wt [([i], .slice (some ⟨G, 0, none⟩) 1 1)]) (by simp [irow]) (by omega)
                          have e1 : (irow wt [([i], .slice (some ⟨G, 0, none⟩) 1 1)]).toArray = #[.int .i64 (c : Int), .slice (some ⟨G, 0, none⟩) 1 1] := by simp [irow, W_one, Hc.out]
                          rw [e1] at h1
                          exact h1.keep (Fr.refl _ _).drew
                        · simp at hp
                          subst hp
                          exact Hyx.out.keep hf0
                      generalize hw0 : (wx.alloc (.cells #[.int .i64 (c : Int), .slice (some ⟨G, 0, none⟩) 1 1] 71)).drew = w0 at hf0 hlit ⊢
                      obtain ⟨v1, z1, hrun1, ho1, hf1, hm1⟩ := app_items wt w0 (.slice none 0 0) (.slice (some ⟨b5, o5, none⟩) k c5) [] (ps.take k) (OwnI.nil _ _) (htake.keep hf0) (by simp; omega) (fun p hp j hj hl => by simp [Value.ownBlock])
                      rw [List.nil_append] at ho1
                      have hv1 : ∀ j, v1.ownBlock = some j → wx.heap.size ≤ j := fun j hj => by
                        rcases hm1 j hj with h | h
                        · simp [Value.ownBlock] at h
                        · have := hf0.size; omega
                      have hf1' : Fr w0 z1 (fun _ => False) := hf1.mono (fun j _ h => by simp [Value.ownBlock] at h)
                      have hf1w := hf0.none hf1'
                      refine wpT_one rfl rfl (fun K hK => ?_)
                      refine op_append_run (.const (.slice none 0 0)) (.tmp 57) 68 rfl rfl rfl hrun1 ?_
                      refine hK _ _ (hTm hf1 (fun j h => by simp [Value.ownBlock] at h)) ?_
                      clear hK K
                      simp only [Act.put, List.setIfInBounds_toArray, List.set_cons_zero, List.set_cons_succ]
                      obtain ⟨v2, z2, hrun2, ho2, hf2, hm2⟩ := app_items wt z1 v1 _ (ps.take k) [([i], .slice (some ⟨G, 0, none⟩) 1 1)] ho1 (hlit.keep hf1') (by simp; omega) (fun p hp j hj hl h => by
                        have := Hold.out p (Hsub.out p (List.mem_append_left _ hp)) j hj hl
                        have := hv1 j h
                        omega)
                      have hv2 : ∀ j, v2.ownBlock = some j → wx.heap.size ≤ j := fun j hj => by
                        rcases hm2 j hj with h | h
                        · exact hv1 j h
                        · have := hf1w.size; omega
                      have hf2' : Fr wx z2 (fun _ => False) := hf1w.newer hf2 hv1
                      refine wpT_one rfl rfl (fun K hK => ?_)
                      refine op_append_run (.tmp 58) (.tmp 60) 68 rfl rfl rfl hrun2 ?_
                      refine hK _ _ (hTm hf2 hv1) ?_
                      clear hK K
                      simp only [Act.put, List.setIfInBounds_toArray, List.set_cons_zero, List.set_cons_succ]
                      obtain ⟨v3, z3, hrun3, ho3, hf3, hm3⟩ := app_items wt z2 v2 _ (ps.take k ++ [([i], .slice (some ⟨G, 0, none⟩) 1 1)]) (ps.drop k) ho2 (hdrop.keep hf2') (by have := Hm.out; simp; omega) (fun p hp j hj hl h => by
                        have := Hold.out p (Hsub.out p hp) j hj hl
                        have := hv2 j h
                        omega)
                      refine wpT_one rfl rfl (fun K hK => ?_)
                      refine op_append_run (.tmp 61) (.tmp 64) 68 rfl rfl rfl hrun3 ?_
                      refine hK _ _ (hTm hf3 hv2) ?_
                      clear hK K
                      simp only [Act.put, List.setIfInBounds_toArray, List.set_cons_zero, List.set_cons_succ]
                      repeat (refine wpT_take (v := ?_) rfl rfl (fun x hx => ?_) ?_; rotate_left; (focus (go_simp; with_reducible rfl)); simp only [Act.put, List.setIfInBounds_toArray, List.set_cons_zero, List.set_cons_succ])
                      have hv3 : ∀ j, v3.ownBlock = some j → wx.heap.size ≤ j := fun j hj => by
                        rcases hm3 j hj with h | h
                        · exact hv2 j h
                        · have := hf2'.size; omega
                      unfold wpT
                      go_wp2_with fail
                      all_goals
                        go_roundg (n - (i + 1))
                        case rel => exact ⟨i + 1, _, rfl, by omega, by go_num, ho3, Hfin.out, by simp; have := Hm.out; omega, hwx.none (hf2'.newer hf3 hv2), fun p hp j hj hl h => by
                            have := Hold.out p (Hsub.out p hp) j hj hl
                            have := hv3 j h
                            omega, fun j hj => by have := hv3 j hj; have := hwx.size; omega⟩
                        case measure => rw [Hg.out]; omega


        · obtain rfl : i = n := by omega
          have hmi : m = (there (zs.map clampN)).length := by
            have e1 : (fsts ps).length = (coin (symsTo wt i)).length := by rw [Hps.out]
            unfold fsts at e1
            rw [List.length_map, coin_length, ← Hth.out] at e1
            rw [Hm.out]
            exact e1
          have HM : Hid _ := hmi
          clear hmi
          obtain ⟨P, hP⟩ : ∃ P, P = 2 ^ L := ⟨_, rfl⟩
          have hPb : P ≤ 32768 := by rw [hP]; exact Nat.le_trans (Nat.pow_le_pow_right (by omega) hL15) (by decide)
          have HP : Hid _ := hP
          have hpw : wrap64 ((2 : Int) ^ L) = (P : Int) := by
            have e1 : (2 : Int) ^ L = ((2 ^ L : Nat) : Int) := by simp
            rw [e1, ← hP, wrap64_small _ (by omega) (by omega)]
          clear hP
          by_cases hmP : P < m
          · have hd : decide ((P : Int) < (m : Int)) = true := by simp; omega
            have He : Hid (pmLens (zs.map clampN) L = []) := by
              show _ = _
              unfold pmLens
              rw [if_pos (by rw [← HM.out, ← HP.out]; exact .inr hmP)]
            go_wp2_with fail
            go_ret
            refine ⟨_, rfl, ?_, hf, fun k hk => by simp [Value.ownBlock] at hk⟩
            rw [He.out]
            exact OwnN.nil _
          · have hd : decide ((P : Int) < (m : Int)) = false := by simp; omega
            have Hpm : Hid (pmLens (zs.map clampN) L = fnRow i (pmLen (zs.map clampN) L)) := by
              show _ = _
              unfold pmLens fnRow
              rw [if_neg (by rw [← HM.out, ← HP.out, List.length_map, ← Hn.out]; omega), List.length_map, ← Hn.out]
            obtain ⟨i0, hi0, hz0, hz1, hz2⟩ := info_parts infoIntR
            go_wp2_with (at_make; refine wpList_make_full _ rfl _ _ 28 rfl 0 3 i0 (.int .i64 0) 1 Try.underlying28 hi0 hz0 hz1 _ _ _ _ i rfl rfl rfl rfl ?b1 ?b2 (Nat.zero_le _) ?_)
            case b1 => rw [hz2]; omega
            case b2 => unfold maxLen; omega
            clear hpw hd
            intro wm hown hgrow
            have hz : (madeCells #[Value.int .i64 0] i).toList = row .i64 (fnRow i (fun _ => 0)) := by
              rw [toList_madeCells_one]
              apply List.ext_getElem?
              intro t
              simp only [row, fnRow, List.map_map, List.getElem?_map]
              by_cases ht : t < i
              · simp [ht]
              · simp [ht]
            rw [hz] at hown
            have hfm : Fr wr wm (fun _ => False) := (Fr.refl wr _).grown hgrow (fun k hk => by cases hk)
            have hfwm := hf.none hfm
            obtain ⟨g, hg⟩ : ∃ g, g = wr.heap.size := ⟨_, rfl⟩
            have Hgw : Hid (wc.heap.size ≤ g) := by show _ ≤ _; have := hf.size; omega
            rw [← hg] at hown ⊢
            have Hown : Hid (OwnC wm (.slice (some ⟨g, 0, none⟩) i i) (fnRow i (fun _ => 0))) := by unfold OwnC; rw [fnRow_length]; exact hown
            have Ho2 : Hid (OwnI wt wm (.slice a5 m c5) ps) := Ho.out.keep hfm
            have Hold : Hid (∀ p ∈ ps, ∀ k, p.2.ownBlock = some k → 0 < p.1.length → k < g) := fun p hp k hk hl => by have := good_older Ho.out.2 p hp k hk hl; omega
            clear hgrow hfm hf hg hown hz Ho hi0 hz0 hz1 hz2
            rcases (by omega : m = 0 ∨ m = 1 ∨ 2 ≤ m) with hm0 | hm1 | hm2
            · have Hr : Hid (fnRow i (pmLen (zs.map clampN) L) = fnRow i (fun _ => 0)) := by
                show _ = _
                have e0 : there (zs.map clampN) = [] := List.eq_nil_of_length_eq_zero (by rw [← HM.out]; exact hm0)
                congr 1
                funext s
                have h1 := (there_mem (zs.map clampN) s)
                have hs := (pmLen_pos (counts := zs.map clampN) (L := L) hL1 (by rw [e0]; simp) s).1
                rw [e0] at h1
                simp at h1
                omega
              subst hm0
              go_wp2_with fail
              go_ret
              refine ⟨_, rfl, ?_, hfwm, fun k hk => by simp [Value.ownBlock] at hk; rw [← hk]; exact Hgw.out⟩
              rw [Hpm.out, Hr.out]
              exact Hown.out
            · obtain ⟨s0, hs0⟩ : ∃ s, there (zs.map clampN) = [s] := List.length_eq_one_iff.1 (by rw [← HM.out]; exact hm1)
              have hsn : s0 < i := by
                have h1 : s0 ∈ there (zs.map clampN) := by rw [hs0]; simp
                unfold there at h1
                have := ((syms_mem _ _ _).1 h1).1
                rw [List.length_map, ← Hn.out] at this
                exact this
              have Hr : Hid ((fnRow i (fun _ => 0)).set s0 1 = fnRow i (pmLen (zs.map clampN) L)) := by
                show _ = _
                refine fnRow_set i _ _ s0 1 ?_ ?_
                · unfold pmLen
                  rw [if_pos (by rw [hs0]; rfl), if_neg ((there_mem _ _).1 (by rw [hs0]; simp))]
                · intro t ht
                  unfold pmLen
                  rw [if_pos (by rw [hs0]; rfl), if_pos]
                  have := (there_mem (zs.map clampN) t)
                  rw [hs0] at this
                  simp only [List.mem_singleton] at this
                  by_cases h0 : cnt (zs.map clampN) t = 0
                  · exact h0
                  · exact absurd (this.2 h0) ht
              obtain ⟨p, hp⟩ : ∃ p, ps = [p] := List.length_eq_one_iff.1 (by rw [← Hm.out]; exact hm1)
              have hp1 : p.1 = [s0] := by
                have := Hps.out
                rw [hp, ← Hth.out, hs0] at this
                simpa [fsts, coin] using this
              have ho := Ho2.out.rd
              rw [hp] at ho
              obtain ⟨b, off, cp, e, cc0, cc1, hrd⟩ := RdI.get ho 0 p rfl
              simp only [Value.slice.injEq] at e
              obtain ⟨rfl, -, rfl⟩ := e
              rw [hp1] at hrd
              obtain ⟨ay, cy, hey, hcy, hcl⟩ := hrd
              obtain ⟨by_, oy, rfl, hcell⟩ := hcl (by simp [row])
              have cs0 := hcell 0 _ (row_get .i64 [s0] 0 (by simp))
              rw [hey, Nat.zero_mul, Nat.add_zero] at cc1
              simp only [row, List.map_cons, List.map_nil, List.length_cons, List.length_nil, Nat.zero_add, List.getD_cons_zero, Nat.add_zero] at cc1 cs0 hcy
              have hoc := Hown.out
              unfold OwnC at hoc
              rw [fnRow_length] at hoc
              have hfz := World.ownsRow.frozenAt hoc s0
              have hce : wm.cell? ⟨g, s0, none⟩ = some (.int .i64 0) := by
                rw [World.ownsRow.cellAt hoc s0 (by omega)]
                simp [row, fnRow, hsn]
              have Hst : Hid (OwnC (wm.setCell ⟨g, s0, none⟩ (.int .i64 1)) (.slice (some ⟨g, 0, none⟩) i i) (fnRow i (pmLen (zs.map clampN) L))) := by
                have := (World.ownsRow.stored hoc s0 (.int .i64 ((1 : Nat) : Int))).1
                unfold OwnC
                rw [fnRow_length, ← Hr.out, row_set]
                exact this
              have hs1 : (s0 : Int) < (i : Int) := by omega
              clear ho hoc hs0 hp hp1 hey hcl hcell
              subst hm1
              go_wp2_with fail
              go_ret
              refine ⟨_, rfl, ?_, hfwm.setCell ⟨g, s0, none⟩ (fun h => by have := Hgw.out; simp at h; omega) _, fun k hk => by simp [Value.ownBlock] at hk; rw [← hk]; exact Hgw.out⟩
              rw [Hpm.out]
              exact Hst.out
            · have hb1 : ((m : Int) == 1) = false := by rw [beq_eq_false_iff_ne]; omega
              have hb2 : decide ((m : Int) < 2) = false := decide_eq_false (by omega)
              have hmn : m ≤ i := by have := Hm.out; omega
              have Hw40 : Hid (∀ s, wt s ≤ 1099511627776) := fun s => by
                rw [Hwt.out]
                unfold cnt
                rw [List.getD_eq_getElem?_getD, List.getElem?_map]
                cases zs[s]? with
                | none => simp
                | some z => exact clampN_le z
              have Hcs : Hid (fsts ps = coin (there (zs.map clampN))) := by show _ = _; rw [Hth.out]; exact Hps.out
              obtain ⟨cs, hcs⟩ : ∃ cs, cs = there (zs.map clampN) := ⟨_, rfl⟩
              rw [← hcs] at Hcs HM
              have Hcsd : Hid _ := hcs
              have Hlt : Hid (∀ s ∈ cs, s < i) := fun s hs => by
                rw [hcs, Hth.out] at hs
                exact ((syms_mem _ _ _).1 hs).1
              clear hcs
              go_wp2_with fail
              go_loopg [11, 12] (L - 1) (fun g' S I wi => ∃ (j : Nat) (rs : List Pk), g' = L - j ∧ 1 ≤ j ∧ j ≤ L ∧ I = .int .i64 (j : Int) ∧ OwnI wt wi S rs ∧ fsts rs = lv wt cs (j - 1) ∧ Fr wm wi (fun _ => False) ∧ (∀ p ∈ rs, ∀ k, p.2.ownBlock = some k → 0 < p.1.length → k ≠ g))
              case atStart => exact ⟨1, ps, rfl, Nat.le_refl _, hL1, rfl, Ho2.out, Hcs.out, Fr.refl _ _, fun p hp k hk hl e => by have := Hold.out p hp k hk hl; omega⟩
              case round =>
                obtain ⟨j, rs, hg', hj1, hjL, rfl, hor, hrs, hfi, hap⟩ := hrel
                have Hg' : Hid _ := hg'
                have Hor : Hid (OwnI wt wr u11 rs) := hor
                have Hrs : Hid _ := hrs
                have Hap : Hid _ := hap
                have hrl : rs.length = (lv wt cs (j - 1)).length := by rw [← hrs]; simp [fsts]
                have Hrl : Hid (rs.length = (lv wt cs (j - 1)).length) := hrl
                have hrl2 : rs.length ≤ 512 := by have := lv_long wt cs (j - 1); have := HM.out; omega
                obtain ⟨ar, cr, rfl, hcr⟩ := hor.rd.form
                clear hg' hor hrs hap hrl
                by_cases hjlt : j < L
                · have hj2 : (j : Int) < (L : Int) := by omega
                  have hpw2 : 2 ^ (j - 1) ≤ 16384 := Nat.le_trans (Nat.pow_le_pow_right (by omega) (by omega : j - 1 ≤ 14)) (by decide)
                  have h40 : 16384 * 1099511627776 ≤ 4611686018427387903 := by decide
                  have hyw : ∀ y ∈ fsts rs, W wt y ≤ 4611686018427387903 := fun y hy => by
                    rw [Hrs.out] at hy
                    exact Nat.le_trans (lv_W wt cs Hw40.out (j - 1) y hy) (Nat.le_trans (Nat.mul_le_mul_right 1099511627776 hpw2) h40)
                  have hyl : ∀ y ∈ fsts rs, y.length ≤ 1000000 := fun y hy => by
                    rw [Hrs.out] at hy
                    have := (lv_in wt cs (j - 1) y hy).2.1
                    omega
                  have Hyw : Hid _ := hyw
                  have Hyl : Hid _ := hyl
                  clear hyw hyl h40
                  go_wp2_with fail
                  have hcall := refMerged_any wt (.slice a5 m c5) (.slice ar rs.length cr) ps rs wr (Ho2.out.keep hfi).rd Hor.out.rd (by rw [← Hm.out]; omega) (by omega) Hyw.out Hyl.out
                  refine hcall.mono ?_
                  clear hcall
                  rintro e w2 ⟨sv, rs2, rfl, ho2, hrs2, hf2, -, hnw⟩
                  have Hor2 : Hid (OwnI wt w2 sv rs2) := ho2
                  have Hrs2 : Hid (fsts rs2 = lv wt cs (j + 1 - 1)) := by
                    show _ = _
                    rw [hrs2, Hcs.out, Hrs.out]
                    obtain ⟨j', hj'⟩ : ∃ j', j - 1 = j' := ⟨_, rfl⟩
                    have e2 : j + 1 - 1 = j' + 1 := by omega
                    rw [hj', e2, lv]
                  have Hap2 : Hid (∀ p ∈ rs2, ∀ k, p.2.ownBlock = some k → 0 < p.1.length → k ≠ g) := fun p hp k hk hl e => by
                    rcases hnw p hp with h | h
                    · have := Hold.out p h k hk hl; omega
                    · have h1 := h k hk
                      have h2 := hfi.size
                      have h3 := (World.ownsRow.lt Hown.out g rfl).2
                      omega
                  obtain ⟨a2, c2, rfl, hc2⟩ := ho2.rd.form
                  have hf3 := hfi.none hf2
                  clear ho2 hrs2 hf2 hnw hfi hpw2
                  go_wp2_with fail
                  go_roundg (L - (j + 1))
                  case rel => exact ⟨j + 1, rs2, rfl, by omega, by omega, by go_num, Hor2.out, Hrs2.out, hf3, Hap2.out⟩
                  case measure => rw [Hg'.out]; omega
                · obtain rfl : j = L := by omega
                  have Hown2 : Hid (OwnC wr (.slice (some ⟨g, 0, none⟩) i i) (fnRow i (fun _ => 0))) := hfi.owns Hown.out (fun _ _ h => h)
                  have hf3 := hfwm.none hfi
                  obtain ⟨q, hq⟩ : ∃ q, q = rs.length := ⟨_, rfl⟩
                  rw [← hq] at Hrl hrl2 hcr Hor ⊢
                  have Hq : Hid _ := hq
                  have Hfit : Hid (2 * m - 2 ≤ q) := by
                    have := pm_fits (wt := wt) (cs := cs) (L := j) hL1 (by rw [← HM.out]; exact hm2) (by rw [← HM.out, ← HP.out]; omega)
                    rw [← HM.out] at this
                    show _ ≤ _
                    have := Hrl.out
                    omega
                  have ht1 : IntKind.i64.wrap (2 * (m : Int)) = ((2 * m : Nat) : Int) := by rw [IntWalk.i64_in _ (by omega)]; omega
                  have ht2 : IntKind.i64.wrap (((2 * m : Nat) : Int) - 2) = ((2 * m - 2 : Nat) : Int) := by rw [IntWalk.i64_in _ (by omega)]; omega
                  obtain ⟨T, hT⟩ : ∃ T, T = 2 * m := ⟨_, rfl⟩
                  obtain ⟨T2, hT2⟩ : ∃ T2, T2 = 2 * m - 2 := ⟨_, rfl⟩
                  rw [← hT2, ← hT] at ht2
                  rw [← hT] at ht1
                  have HT2 : Hid _ := hT2
                  have hT2q : T2 ≤ q := by have := Hfit.out; omega
                  clear hT hT2 hq hfi hfwm
                  go_wp2_with fail
                  have hgl : ∀ k, (Value.slice ar q cr).ownBlock = some k → k ≠ g := fun k hk e => by
                    have := own_apart Hown2.out Hor.out.1 (by decide) k hk
                    rw [e] at this
                    exact this rfl
                  have Hrd : Hid (∀ x, Fr wr x (fun k => k = g) → RdI wt x (.slice ar q cr) rs) := fun x hx => RdI.frame Hor.out.rd hx hgl (fun p hp k hk hl => Hap.out p hp k hk hl)
                  have Hgh : Hid (wc.heap.size ≤ g) := Hgw.out
                  clear hgl
                  go_loopg [13] T2 (fun g' I wi => ∃ (t : Nat) (f : Nat → Nat), g' = T2 - t ∧ t ≤ T2 ∧ I = .int .i64 (t : Int) ∧ OwnC wi (.slice (some ⟨g, 0, none⟩) i i) (fnRow i f) ∧ (∀ s, f s = occ ((lv wt cs (j - 1)).take t) s) ∧ (∀ s, f s ≤ 16384 * t) ∧ Fr wr wi (fun k => k = g))
                  case atStart => exact ⟨0, fun _ => 0, rfl, by omega, rfl, Hown2.out, fun s => by simp [occ], fun s => Nat.zero_le _, Fr.refl _ _⟩
                  case round =>
                    obtain ⟨t, f, hgt, ht, rfl, hot, hft, hfb, hfi⟩ := hrel
                    have Hgt : Hid _ := hgt
                    have Hot : Hid (OwnC wr (.slice (some ⟨g, 0, none⟩) i i) (fnRow i f)) := hot
                    have Hft : Hid _ := hft
                    have Hfb : Hid _ := hfb
                    clear hgt hot hft hfb
                    by_cases htT : t < T2
                    · obtain ⟨p, hp⟩ : ∃ p, rs[t]? = some p := ⟨_, List.getElem?_eq_getElem (by rw [← Hq.out]; omega)⟩
                      have hpy : (lv wt cs (j - 1))[t]? = some p.1 := by rw [← Hrs.out]; exact fsts_get hp
                      obtain ⟨y, v⟩ := p
                      have hyi := lv_in wt cs (j - 1) y (List.mem_of_getElem? hpy)
                      have hyb : y.length ≤ 16384 := Nat.le_trans hyi.2.1 (Nat.le_trans (Nat.pow_le_pow_right (by omega) (by omega : j - 1 ≤ 14)) (by decide))
                      have Hys : Hid (∀ s ∈ y, s < i) := fun s hs => Hlt.out s (hyi.2.2 s hs)
                      have htk : (lv wt cs (j - 1)).take (t + 1) = (lv wt cs (j - 1)).take t ++ [y] := by rw [List.take_add_one, hpy]; rfl
                      have Hft2 : Hid (∀ s, f s + y.count s = occ ((lv wt cs (j - 1)).take (t + 1)) s) := fun s => by
                        rw [htk, Hft.out s]
                        simp [occ]
                      obtain ⟨b, off, cp, e, -, cc1, hrd⟩ := RdI.get (Hrd.out _ hfi) t (y, v) hp
                      simp only [Value.slice.injEq] at e
                      obtain ⟨rfl, -, rfl⟩ := e
                      have hbg : b ≠ g := by
                        have := own_apart Hown2.out Hor.out.1 (by decide) b rfl
                        intro e
                        rw [e] at this
                        exact this rfl
                      have hyp : 0 < y.length := List.length_pos_iff.2 hyi.1
                      have hvg := Hap.out _ (List.mem_of_getElem? hp)
                      obtain ⟨ay, cy, hey, hcy, hcl⟩ := hrd
                      rw [length_row] at hey hcy
                      obtain ⟨by_, oy, rfl, hcell⟩ := hcl (by rw [length_row]; exact hyp)
                      simp only at hey
                      subst hey
                      have hyg : by_ ≠ g := hvg by_ rfl hyp
                      have Hcell : Hid (∀ x, Fr wr x (fun k => k = g) → ∀ k, k < y.length → x.cell? ⟨by_, oy + k, none⟩ = some (.int .i64 ((y.getD k 0 : Nat) : Int))) := fun x hx k hk => by
                        have h1 := hcell k _ (row_get .i64 y k hk)
                        have h2 := World.block_lt_of_cell? _ _ h1
                        rw [World.cell?_of_block (w := wr) (hx.block _ h2 hyg)]
                        exact h1
                      have Hcc : Hid (∀ x, Fr wr x (fun k => k = g) → x.cell? ⟨b, off + t * 2 + 1, none⟩ = some (.slice (some ⟨by_, oy, none⟩) y.length cy)) := fun x hx => by
                        have h2 := World.block_lt_of_cell? _ _ cc1
                        rw [World.cell?_of_block (w := wr) (hx.block _ h2 hbg)]
                        exact cc1
                      obtain ⟨ny, hny⟩ : ∃ ny, ny = y.length := ⟨_, rfl⟩
                      rw [← hny] at Hcell Hcc hcy hyb
                      have Hny : Hid _ := hny
                      have Hfr : Hid _ := hfi
                      have htT1 : (t : Int) < (T2 : Int) := by omega
                      have htq : (t : Int) < (q : Int) := by omega
                      have htq2 : t < q := by omega
                      clear hp hpy hyi htk cc1 hbg hyp hvg hcl hcell hyg hny hfi
                      go_wp2_with fail
                      go_loopg [14] ny (fun g' I wi => ∃ (k : Nat) (h : Nat → Nat), g' = ny - k ∧ k ≤ ny ∧ I = .int .i64 (k : Int) ∧ OwnC wi (.slice (some ⟨g, 0, none⟩) i i) (fnRow i h) ∧ (∀ s, h s = f s + (y.take k).count s) ∧ Fr wr wi (fun k => k = g))
                      case atStart => exact ⟨0, f, rfl, by omega, rfl, Hot.out, fun s => by simp, Fr.refl _ _⟩
                      case round =>
                        obtain ⟨k, h, hgk, hk, rfl, hok, hhk, hfk⟩ := hrel
                        have Hgk : Hid _ := hgk
                        have Hok : Hid (OwnC wr (.slice (some ⟨g, 0, none⟩) i i) (fnRow i h)) := hok
                        have Hhk : Hid _ := hhk
                        clear hgk hok hhk
                        have ccx := Hcc.out _ hfk
                        by_cases hkn : k < ny
                        · have csk := Hcell.out _ hfk k hkn
                          have hyk : y[k]? = some (y.getD k 0) := by rw [List.getD_eq_getElem?_getD, List.getElem?_eq_getElem (by rw [← Hny.out]; exact hkn)]; rfl
                          obtain ⟨s0, hs0⟩ : ∃ s0, s0 = y.getD k 0 := ⟨_, rfl⟩
                          rw [← hs0] at csk hyk
                          have hsn : s0 < i := Hys.out s0 (List.mem_of_getElem? hyk)
                          have hcnt : (y.take k).count s0 ≤ k := Nat.le_trans List.count_le_length (by rw [List.length_take]; omega)
                          have htk2 : y.take (k + 1) = y.take k ++ [s0] := by rw [List.take_add_one, hyk]; rfl
                          obtain ⟨x, hx⟩ : ∃ x, x = h s0 := ⟨_, rfl⟩
                          have hxb : x ≤ 9000000 := by
                            have h1 := Hhk.out s0
                            have h2 := Hfb.out s0
                            omega
                          have hoc := Hok.out
                          unfold OwnC at hoc
                          rw [fnRow_length] at hoc
                          have hfz := World.ownsRow.frozenAt hoc s0
                          have hce : wr.cell? ⟨g, s0, none⟩ = some (.int .i64 (x : Int)) := by
                            rw [World.ownsRow.cellAt hoc s0 (by omega), hx]
                            simp [row, fnRow, hsn]
                          have Hh2 : Hid ((fnRow i h).set s0 (x + 1) = fnRow i (fun s => f s + (y.take (k + 1)).count s)) := by
                            show _ = _
                            refine fnRow_set i _ _ s0 _ ?_ ?_
                            · rw [htk2, List.count_append, hx, Hhk.out s0]
                              simp
                              omega
                            · intro t ht
                              rw [htk2, List.count_append, Hhk.out t]
                              have : List.count t [s0] = 0 := by
                                rw [List.count_eq_zero]
                                intro h
                                simp at h
                                exact ht h
                              omega
                          have Hst2 : Hid (OwnC (wr.setCell ⟨g, s0, none⟩ (.int .i64 ((x : Int) + 1))) (.slice (some ⟨g, 0, none⟩) i i) (fnRow i (fun s => f s + (y.take (k + 1)).count s))) := by
                            have := (World.ownsRow.stored hoc s0 (.int .i64 ((x : Int) + 1))).1
                            unfold OwnC
                            rw [fnRow_length, ← Hh2.out, row_set]
                            exact this
                          have hxw : IntKind.i64.wrap ((x : Int) + 1) = ((x + 1 : Nat) : Int) := by rw [IntWalk.i64_in _ (by omega)]; omega
                          have hs1 : (s0 : Int) < (i : Int) := by omega
                          have hk1 : (k : Int) < (ny : Int) := by omega
                          clear hyk hs0 hcnt htk2 hx hoc
                          go_wp2_with fail
                          go_roundg (ny - (k + 1))
                          case rel => exact ⟨k + 1, _, rfl, by omega, by go_num, Hst2.out, fun s => rfl, hfk.setCell ⟨g, s0, none⟩ (fun _ => rfl) _⟩
                          case measure => rw [Hgk.out]; omega
                        · have hke : k = ny := by omega
                          have Hot2 : Hid (OwnC wr (.slice (some ⟨g, 0, none⟩) i i) (fnRow i h)) := Hok.out
                          have Hh3 : Hid (∀ s, h s = occ ((lv wt cs (j - 1)).take (t + 1)) s) := fun s => by
                            rw [Hhk.out s, List.take_of_length_le (by rw [← Hny.out]; omega), Hft2.out s]
                          have Hb3 : Hid (∀ s, h s ≤ 16384 * (t + 1)) := fun s => by
                            have h1 := Hhk.out s
                            have h2 := Hfb.out s
                            have h3 : (y.take k).count s ≤ k := Nat.le_trans List.count_le_length (by rw [List.length_take]; omega)
                            omega
                          have hfo := Hfr.out.trans hfk (fun _ _ h => h)
                          subst hke
                          clear hkn
                          go_wp2_with fail
                          go_roundg (T2 - (t + 1))
                          case rel => exact ⟨t + 1, h, rfl, by omega, by go_num, Hot2.out, Hh3.out, Hb3.out, hfo⟩
                          case measure => rw [Hgt.out]; omega
                    · have hte : t = T2 := by omega
                      have Hr : Hid (fnRow i f = fnRow i (pmLen (zs.map clampN) j)) := by
                        show _ = _
                        congr 1
                        funext s
                        rw [Hft.out s]
                        unfold pmLen pmOcc
                        rw [← Hcsd.out, if_neg (by rw [← HM.out]; omega), ← HM.out, ← HT2.out, ← Hwt.out, hte]
                      have hf23 := hf3.newer hfi (fun k hk => by rw [hk]; exact Hgh.out)
                      have hd1 : ¬ (t : Int) < (T2 : Int) := by omega
                      subst hte
                      go_wp2_with fail
                      go_ret
                      refine ⟨_, rfl, ?_, hf23, fun k hk => by simp [Value.ownBlock] at hk; rw [← hk]; exact Hgh.out⟩
                      rw [Hpm.out, ← Hr.out]
                      exact Hot.out

theorem refLens_any (v : Value) (zs : List Int) (most : Int) (w : World) (h : ReadsZ w v zs) (hm1 : -9223372036854775808 ≤ most) (hm2 : most ≤ 9223372036854775807) :
    Calls Try.prog 18 #[v, .int .i64 most] w fun e w' => ∃ sv, e = .returned sv ∧ Reads .i64 w' sv (pmLens (zs.map clampN) (clampM most)) ∧ Fr w w' (fun _ => False) :=
  (refLens_own v zs most w h hm1 hm2).mono fun _ _ ⟨sv, he, ho, hf, _⟩ => ⟨sv, he, ho.reads, hf⟩

end Go.Proofs.Ytclfbdfgmeliaaa

/-
  The contracts of varint.put, varint.Put, varint.Size: what each returns and what it leaves in memory.
-/
namespace Go.Proofs.Ytclfbdfgmeliaaa
open Go.RowKit

theorem or128 (x : Nat) (hx : x < 256) : x ||| 128 = x % 128 + 128 := by
  have h : ∀ x : Fin 256, x.val ||| 128 = x.val % 128 + 128 := by decide +kernel
  exact h ⟨x, hx⟩

theorem put_byte (v : Nat) : bits .or .u8 ((v : Int) % 256) 128 = ((v % 128 + 128 : Nat) : Int) := by
  rw [show (v : Int) % 256 = ((v % 256 : Nat) : Int) by omega, show (128 : Int) = ((128 : Nat) : Int) from rfl, u8_or_nat _ _ (by omega) (by omega), or128 _ (by omega)]
  congr 1
  omega

set_option maxRecDepth 4000 in
set_option maxHeartbeats 800000 in
theorem vput_any (sv : Value) (bs : List Nat) (v : Nat) (w : World) (h : Own w sv bs) (hn : bs.length ≤ 1000000000) (hv : v < 18446744073709551616) :
    Calls Try.prog 34 #[sv, .int .u64 (v : Int)] w fun e w' => ∃ sv', e = .returned sv' ∧ Own w' sv' (bs ++ enc v) ∧ Fr w w' (fun k => sv.ownBlock = some k) ∧ Moved w sv sv' := by
  have hel := enc_le v hv
  go_enter Try.func34, Try.ntmps34
  go_wp2_with fail
  go_loopw [0, 1] (fun S V wr => ∃ (cs : List Nat) (u : Nat), V = .int .u64 (u : Int) ∧ u < 18446744073709551616 ∧ Own wr S cs ∧ cs ++ enc u = bs ++ enc v ∧ Fr w wr (fun k => sv.ownBlock = some k) ∧ Moved w sv S)
    (fun _ V _ => (intOf V).toNat)
  case atStart => exact ⟨bs, v, rfl, hv, h, rfl, Fr.refl _ _, Moved.refl _ _⟩
  case round =>
    obtain ⟨cs, u, rfl, hu, ho, he, hf, hm⟩ := hrel
    have He : Hid _ := he
    have hcl : cs.length + (enc u).length = bs.length + (enc v).length := by have := congrArg List.length he; simpa using this
    have hcb : cs.length ≤ 2000000000 := by omega
    clear he hcl hel
    by_cases hbig : 128 ≤ u
    · obtain ⟨S', w1, hrun, ho1, hf1, hm1⟩ := app_byte wr u0 cs (u % 128 + 128) _ (put_byte u) ho (by omega)
      go_wp2_with (at_builtin; refine wpList_append_run rfl (.tmp 9) (.tmp 13) 22 rfl rfl rfl hrun ?_)
      go_roundw
      case rel => exact ⟨_, u / 128, by go_num, by omega, ho1, by rw [← He.out, enc_big u hbig]; simp, hf.own hf1 hm, hm.trans hm1 hf.size⟩
      case measure => simp [intOf]; omega
    · obtain ⟨S', w1, hrun, ho1, hf1, hm1⟩ := app_byte wr u0 cs u _ rfl ho (by omega)
      go_wp2_with (at_builtin; refine wpList_append_run rfl (.tmp 15) (.tmp 18) 22 rfl rfl rfl hrun ?_)
      go_ret
      exact ⟨_, rfl, by rw [← He.out, enc_small u (by omega)]; exact ho1, hf.own hf1 hm, hm.trans hm1 hf.size⟩


set_option maxRecDepth 4000 in
set_option maxHeartbeats 800000 in
theorem vputs_any (v : Value) (us : List Nat) (w : World) (hr : Reads .u64 w v us) (hus : ∀ u ∈ us, u < 18446744073709551616) (hn : us.length ≤ 100000) :
    Calls Try.prog 22 #[v] w fun e w' => ∃ sv, e = .returned sv ∧ Own w' sv (encs us) ∧ Fr w w' (fun _ => False) ∧ (∀ k, sv.ownBlock = some k → w.heap.size ≤ k) := by
  obtain ⟨ao, cap, rfl, hlc, hc⟩ := id hr
  rw [length_row] at hr hlc hc ⊢
  obtain ⟨n, hnn⟩ : ∃ n, n = us.length := ⟨_, rfl⟩
  rw [← hnn] at hr hlc hc hn ⊢
  have Hn : Hid _ := hnn
  have Hr : Hid (Reads .u64 w (.slice ao n cap) us) := hr
  have Hus : Hid _ := hus
  have Hc : Hid _ := hc
  clear hnn hr hus hc
  go_enter Try.func22, Try.ntmps22
  go_wp2_with fail
  go_loopw [3, 8] (fun S I wr => ∃ i : Nat, i ≤ n ∧ I = .int .i64 (i : Int) ∧ Own wr S (encs (us.take i)) ∧ Fr w wr (fun _ => False) ∧ (∀ k, S.ownBlock = some k → w.heap.size ≤ k))
    (fun _ I _ => n - (intOf I).toNat)
  case atStart => exact ⟨0, by omega, rfl, Own.nil _, Fr.refl _ _, fun k hk => by simp [Value.ownBlock] at hk⟩
  case round =>
    obtain ⟨i, hi, rfl, ho, hf, hb⟩ := hrel
    by_cases hlt : i < n
    · obtain ⟨b, off, rfl, -⟩ := Hc.out (by omega)
      have hel := Hus.out _ (getD_mem (us := us) (i := i) (by rw [← Hn.out]; exact hlt))
      obtain ⟨ao', cap', e, -, hcl⟩ := Hr.out.keep hf
      obtain ⟨b', off', rfl, hcell⟩ := hcl (by rw [length_row, ← Hn.out]; omega)
      simp only [Value.slice.injEq, Option.some.injEq, Addr.mk.injEq, and_true] at e
      obtain ⟨⟨rfl, rfl⟩, -, rfl⟩ := e
      have cg := hcell i _ (row_get .u64 us i (by rw [← Hn.out]; exact hlt))
      have hlen : (encs (us.take i)).length ≤ 10 * n := by
        have := encs_le (us.take i) (fun u hu => Hus.out u (List.mem_of_mem_take hu))
        rw [List.length_take, ← Hn.out] at this
        omega
      have Hst : Hid (encs (us.take (i + 1)) = encs (us.take i) ++ enc (us.getD i 0)) := by
        show _ = _
        rw [take_step (by rw [← Hn.out]; exact hlt), encs_snoc]
      generalize us.getD i 0 = u at cg hel Hst
      clear hcl hcell
      go_wp2_with fail
      refine (vput_any _ _ u wr ho (by omega) hel).mono ?_
      rintro e w1 ⟨sv1, rfl, ho1, hf1, hm1⟩
      go_wp2
      go_roundw
      case rel => 
        refine ⟨i + 1, by omega, by go_num, by rw [Hst.out]; exact ho1, hf.newer hf1 (fun k hk => hb k hk), fun k hk => ?_⟩
        rcases hm1 k hk with h2 | h2
        · exact hb k h2
        · have := hf.size; omega
      case measure => simp [intOf]; omega
    · have Hin : Hid (us.take i = us) := by show _ = _; exact List.take_of_length_le (by rw [← Hn.out]; omega)
      go_wp2
      go_ret
      exact ⟨_, rfl, by rw [Hin.out] at ho; exact ho, hf, hb⟩

end Go.Proofs.Ytclfbdfgmeliaaa

/-
  The contracts of the reference's Put and Size of numbers.
-/
namespace Go.Proofs.Ytclfbdfgmeliaaa
open Go.RowKit

theorem ref_byte (v : Nat) (hv : v < 18446744073709551616) : bits .or .u8 (bits .and .u64 (v : Int) 127 % 256) 128 = ((v % 128 + 128 : Nat) : Int) := by
  rw [show (127 : Int) = ((127 : Nat) : Int) from rfl, u64_and_nat _ _ hv (by omega), nat_mask7, show ((v % 128 : Nat) : Int) % 256 = ((v % 128 : Nat) : Int) by omega, show (128 : Int) = ((128 : Nat) : Int) from rfl, u8_or_nat _ _ (by omega) (by omega), or128 _ (by omega)]
  congr 1
  omega

set_option maxRecDepth 4000 in
set_option maxHeartbeats 1600000 in
theorem vrefPut_any (v : Value) (us : List Nat) (w : World) (hr : Reads .u64 w v us) (hus : ∀ u ∈ us, u < 18446744073709551616) (hn : us.length ≤ 100000) :
    Calls Try.prog 17 #[v] w fun e w' => ∃ sv, e = .returned sv ∧ Own w' sv (encs us) ∧ Fr w w' (fun _ => False) ∧ (∀ k, sv.ownBlock = some k → w.heap.size ≤ k) := by
  obtain ⟨ao, cap, rfl, hlc, hc⟩ := id hr
  rw [length_row] at hr hlc hc ⊢
  obtain ⟨n, hnn⟩ : ∃ n, n = us.length := ⟨_, rfl⟩
  rw [← hnn] at hr hlc hc hn ⊢
  have Hn : Hid _ := hnn
  have Hr : Hid (Reads .u64 w (.slice ao n cap) us) := hr
  have Hus : Hid _ := hus
  have Hc : Hid _ := hc
  clear hnn hr hus hc
  go_enter Try.func17, Try.ntmps17
  go_wp2_with fail
  go_loopg [3, 4] n (fun g S I wr => ∃ i : Nat, i ≤ n ∧ g = n - i ∧ I = .int .i64 (i : Int) ∧ Own wr S (encs (us.take i)) ∧ Fr w wr (fun _ => False) ∧ (∀ k, S.ownBlock = some k → w.heap.size ≤ k))
  case atStart => exact ⟨0, by omega, by omega, rfl, Own.nil _, Fr.refl _ _, fun k hk => by simp [Value.ownBlock] at hk⟩
  case round =>
    obtain ⟨i, hi, hgk, rfl, ho, hf, hb⟩ := hrel
    have Hgk : Hid _ := hgk
    clear hgk
    by_cases hlt : i < n
    · obtain ⟨b, off, rfl, -⟩ := Hc.out (by omega)
      have hel := Hus.out _ (getD_mem (us := us) (i := i) (by rw [← Hn.out]; exact hlt))
      obtain ⟨ao', cap', e, -, hcl⟩ := Hr.out.keep hf
      obtain ⟨b', off', rfl, hcell⟩ := hcl (by rw [length_row, ← Hn.out]; omega)
      simp only [Value.slice.injEq, Option.some.injEq, Addr.mk.injEq, and_true] at e
      obtain ⟨⟨rfl, rfl⟩, -, rfl⟩ := e
      have cg := hcell i _ (row_get .u64 us i (by rw [← Hn.out]; exact hlt))
      have hlen : (encs (us.take i)).length ≤ 10 * n := by
        have := encs_le (us.take i) (fun u hu => Hus.out u (List.mem_of_mem_take hu))
        rw [List.length_take, ← Hn.out] at this
        omega
      have Hst : Hid (encs (us.take (i + 1)) = encs (us.take i) ++ enc (us.getD i 0)) := by
        show _ = _
        rw [take_step (by rw [← Hn.out]; exact hlt), encs_snoc]
      have hel2 := enc_le _ hel
      generalize us.getD i 0 = u at cg hel Hst hel2
      generalize hds : encs (us.take i) = ds at ho hlen Hst
      clear hcl hcell hds
      go_wp2_with fail
      go_loopg [3, 5] u (fun g S V wi => ∃ (cs : List Nat) (x : Nat), g = x ∧ V = .int .u64 (x : Int) ∧ x < 18446744073709551616 ∧ Own wi S cs ∧ cs ++ enc x = ds ++ enc u ∧ Fr w wi (fun _ => False) ∧ (∀ k, S.ownBlock = some k → w.heap.size ≤ k))
      case atStart => exact ⟨ds, u, rfl, rfl, hel, ho, rfl, hf, hb⟩
      case round =>
        clear ho hf hb
        obtain ⟨cs, x, hgx, rfl, hx, ho, he, hf, hb⟩ := hrel
        have Hgx : Hid _ := hgx
        have He : Hid _ := he
        have hcl : cs.length + (enc x).length = ds.length + (enc u).length := by have := congrArg List.length he; simpa using this
        have hcb : cs.length ≤ 2000000000 := by omega
        clear he hcl hgx
        by_cases hbig : 128 ≤ x
        · obtain ⟨S', w1, hrun, ho1, hf1, hm1⟩ := app_byte wr u3 cs (x % 128 + 128) _ (ref_byte x hx) ho (by omega)
          go_wp2_with (at_builtin; refine wpList_append_run rfl (.tmp 18) (.tmp 23) 22 rfl rfl rfl hrun ?_)
          go_roundg (x / 128)
          case rel =>
            refine ⟨_, x / 128, rfl, by go_num, by omega, ho1, by rw [← He.out, enc_big x hbig]; simp, hf.newer hf1 hb, fun k hk => ?_⟩
            rcases hm1 k hk with h2 | h2
            · exact hb k h2
            · have := hf.size; omega
          case measure => rw [Hgx.out]; omega
        · obtain ⟨S', w1, hrun, ho1, hf1, hm1⟩ := app_byte wr u3 cs x _ rfl ho (by omega)
          go_wp2_with (at_builtin; refine wpList_append_run rfl (.tmp 27) (.tmp 30) 22 rfl rfl rfl hrun ?_)
          go_roundg (n - (i + 1))
          case rel =>
            refine ⟨i + 1, by omega, rfl, by go_num, by rw [Hst.out, ← He.out, enc_small x (by omega)]; exact ho1, hf.newer hf1 hb, fun k hk => ?_⟩
            rcases hm1 k hk with h2 | h2
            · exact hb k h2
            · have := hf.size; omega
          case measure => rw [Hgk.out]; omega
    · have Hin : Hid (us.take i = us) := by show _ = _; exact List.take_of_length_le (by rw [← Hn.out]; omega)
      go_wp2
      go_ret
      exact ⟨_, rfl, by rw [Hin.out] at ho; exact ho, hf, hb⟩


end Go.Proofs.Ytclfbdfgmeliaaa

/-
  The contracts of the reference's writer: Put; at most 10^11 bits held before.
-/
namespace Go.Proofs.Ytclfbdfgmeliaaa
open Go.RowKit
set_option maxRecDepth 4000

theorem Try.info4 : (Try.prog.info? 4).map (fun i => (i.zero, i.size, i.bytes)) = some (some (.bool false), 1, 1) := by kernel_rfl

/-- The reference's writer in block q: the bits l. -/
def RefWr (w : World) (q : Nat) (sv : Value) (l : List Bool) : Prop :=
  w.heap[q]? = some (.cells #[sv] 47 (0, 0)) ∧ w.ownsRow 0 4 1 sv l.length (l.map Value.bool)

theorem RefWr.drew {w : World} {q : Nat} {sv : Value} {l : List Bool} (h : RefWr w q sv l) : RefWr w.drew q sv l := h
theorem RefWr.apart {w : World} {q : Nat} {sv : Value} {l : List Bool} (h : RefWr w q sv l) : sv.ownBlock ≠ some q := fun e => absurd (own_elem h.2 e h.1) (by decide)
theorem RefWr.frame {w w' : World} {q : Nat} {sv : Value} {l : List Bool} {S : Nat → Prop} (h : RefWr w q sv l) (f : Fr w w' S) (hs : ∀ k, foot q sv k → ¬ S k) : RefWr w' q sv l :=
  ⟨f.kept h.1 (hs q (.inl rfl)), f.owns h.2 (fun k hk => hs k (.inr hk))⟩
theorem RefWr.lt {w : World} {q : Nat} {sv : Value} {l : List Bool} (h : RefWr w q sv l) : ∀ k, foot q sv k → k < w.heap.size := by
  intro k hk
  rcases hk with rfl | hk
  · exact lt_of_block h.1
  · exact (h.2.lt k hk).2

theorem bit_eq (v k : Nat) (hv : v < 18446744073709551616) : (bits .and .u64 ((v : Int) / 2 ^ k) 1 == 1) = v.testBit k := by
  have e : (v : Int) / 2 ^ k = ((v / 2 ^ k : Nat) : Int) := by simp
  have hlt : v / 2 ^ k < 18446744073709551616 := Nat.lt_of_le_of_lt (Nat.div_le_self _ _) hv
  rw [e, show (1 : Int) = ((1 : Nat) : Int) from rfl, u64_and_nat _ _ hlt (by omega), nat_mask1, Nat.testBit_eq_decide_div_mod_eq]
  have h2 : v / 2 ^ k % 2 = 0 ∨ v / 2 ^ k % 2 = 1 := by omega
  rcases h2 with h2 | h2 <;> simp [h2]

set_option maxRecDepth 4000 in
set_option maxHeartbeats 1600000 in
theorem refPutM (q : Nat) (sv : Value) (l : List Bool) (v : Nat) (m : Nat) (w : World) (h : RefWr w q sv l) (hn : l.length ≤ 100000000000) (hv : v < 18446744073709551616) (hwd : m ≤ 64) :
    Calls Try.prog 20 #[.pointer (some ⟨q, 0, none⟩), .int .u64 (v : Int), .int .i64 (m : Int)] w fun e w' => e = .returned (.tuple #[]) ∧
      ∃ sv', RefWr w' q sv' (l ++ putBits v m) ∧ Fr w w' (foot q sv) ∧ Moved w sv sv' := by
  obtain ⟨i0, hi, hz0, hz1, hz2⟩ := info_parts Try.info4
  go_enter Try.func20, Try.ntmps20
  go_wp2_with fail
  go_loopw [6] (fun I wr => ∃ k : Nat, k ≤ m ∧ I = .int .i64 ((k : Int) - 1) ∧ ∃ sv' l', RefWr wr q sv' l' ∧ l' ++ putBits v k = l ++ putBits v m ∧ Fr w wr (foot q sv) ∧ Moved w sv sv')
    (fun I _ => (intOf I + 1).toNat)
  case atStart => exact ⟨m, Nat.le_refl _, rfl, sv, l, h, rfl, Fr.refl _ _, Moved.refl _ _⟩
  case round =>
    obtain ⟨k, hk, rfl, sv', l', hw, he, hf, hmv⟩ := hrel
    have hll : l'.length + k = l.length + m := by have := congrArg List.length he; simpa [length_putBits] using this
    have He : Hid _ := he
    clear he
    by_cases hk0 : 0 < k
    · obtain ⟨k', rfl⟩ : ∃ k', k = k' + 1 := ⟨k - 1, by omega⟩
      rw [show (((k' + 1 : Nat) : Int) - 1) = (k' : Int) by omega]
      have hbit := bit_eq v k' hv
      have hap := hw.apart
      have c0 := cell_of_one hw.1
      have f0 := free_of_one hw.1
      have hqlt := lt_of_block hw.1
      have ho := hw.2
      have ca : ∀ o, (wr.alloc o).cell? ⟨q, 0, none⟩ = some sv' := fun o => cell_of_one (blk_alloc o hw.1)
      have hb63 : l'.length + 1 ≤ maxLen := by unfold maxLen; omega
      have hb47 : (l'.length + 1) * 1 ≤ 140737488355328 := by omega
      have h1c : ∀ u ∈ [Value.bool (v.testBit k')], u.oneCell' = true := by intro u hu; simp at hu; subst hu; rfl
      have Hw : Hid (RefWr wr q sv' l') := hw
      have Ho : Hid (wr.ownsRow 0 4 1 sv' l'.length (l'.map Value.bool)) := ho
      have Hap : Hid _ := hap
      clear hw ho hap
      go_wp2
      go_region_law ((refine step_append_lies _ (by rfl) (.tmp 19) (.tmp 25) 45 (by rfl) 0 4 i0 (.bool false) 1 1 Try.underlying45 hi hz0 hz1 hz2 rfl (by decide) sv' l'.length (l'.map Value.bool) (by rfl) (by exact Ho.out.alloc _) ⟨wr.heap.size, 0, none⟩ 1 1 [.bool (v.testBit k')] (by rfl) rfl (by exact cell_one_new _ _ _) h1c (by decide) hb63 hb47 (Nat.zero_le _) (wr.heap.size + 1) (by simp) ?_; intro g cap w1 hown hgrow hat hlt; have hq1 : w1.heap[q]? = some (.cells #[sv'] 47 (0, 0)) := (hgrow.block q (by simp; omega) (fun e => Hap.out e.symm)).trans (by exact blk_alloc _ Hw.out.1); have cq := cell_of_one hq1; have fq := free_of_one hq1))
      all_goals
        have hgq : q ≠ g := by
          rcases hat with h | h
          · intro e; subst e; exact Hap.out h
          · omega
        have hq2 := one_setCell (u := .slice (some ⟨g, 0, none⟩) (l'.length + 1) cap) hq1
        have ho2 := ownsRow_setCell_other hown (a := ⟨q, 0, none⟩) (u := .slice (some ⟨g, 0, none⟩) (l'.length + 1) cap) (by simp [Value.ownBlock]; omega)
        have hfr : Fr wr (w1.setCell ⟨q, 0, none⟩ (.slice (some ⟨g, 0, none⟩) (l'.length + 1) cap)) (foot q sv') := Fr.setCell (Fr.grown ((Fr.refl wr _).alloc _).drew hgrow (fun k hk _ => .inr hk)) _ (fun _ => .inl rfl) _
        have hmv' : Moved wr sv' (.slice (some ⟨g, 0, none⟩) (l'.length + 1) cap) := by
          intro k hk
          simp [Value.ownBlock] at hk
          subst hk
          rcases hat with h | h
          · exact .inl h
          · exact .inr (by omega)
        have hw2 : RefWr (w1.setCell ⟨q, 0, none⟩ (.slice (some ⟨g, 0, none⟩) (l'.length + 1) cap)) q (.slice (some ⟨g, 0, none⟩) (l'.length + 1) cap) (l' ++ [v.testBit k']) := ⟨hq2, by simpa using ho2⟩
        clear hown hgrow hat hlt hq1 cq fq hq2 ho2
        go_wp2
        go_roundw
        case rel => exact ⟨k', by omega, by go_num, _, _, hw2, by rw [← He.out]; simp [putBits], hf.foot_trans hfr hmv, hmv.trans hmv' hf.size⟩
        case measure => simp [intOf]
    · obtain rfl : k = 0 := by omega
      go_wp2
      go_end0
      refine ⟨rfl, sv', ?_, hf, hmv⟩
      rw [← He.out]; simpa [putBits] using hw
set_option maxRecDepth 4000 in
set_option maxHeartbeats 1600000 in
theorem refPut0 (q : Nat) (sv : Value) (l : List Bool) (v : Nat) (n : Int) (hneg : n < 0) (w : World) (h : RefWr w q sv l) (_hn : l.length ≤ 100000000000) (hv : v < 18446744073709551616) :
    Calls Try.prog 20 #[.pointer (some ⟨q, 0, none⟩), .int .u64 (v : Int), .int .i64 n] w fun e w' => e = .returned (.tuple #[]) ∧
      ∃ sv', RefWr w' q sv' (l ++ putBits v 0) ∧ Fr w w' (foot q sv) ∧ Moved w sv sv' := by
  obtain ⟨i0, hi, hz0, hz1, hz2⟩ := info_parts Try.info4
  go_enter Try.func20, Try.ntmps20
  go_wp2_with fail
  go_loopw [6] (fun I wr => ∃ k : Nat, k ≤ 0 ∧ I = .int .i64 ((k : Int) - 1) ∧ ∃ sv' l', RefWr wr q sv' l' ∧ l' ++ putBits v k = l ++ putBits v 0 ∧ Fr w wr (foot q sv) ∧ Moved w sv sv')
    (fun I _ => (intOf I + 1).toNat)
  case atStart => exact ⟨0, Nat.le_refl _, congrArg (Value.int .i64) (by decide), sv, l, h, rfl, Fr.refl _ _, Moved.refl _ _⟩
  case round =>
    obtain ⟨k, hk, rfl, sv', l', hw, he, hf, hmv⟩ := hrel
    have hll : l'.length + k = l.length + 0 := by have := congrArg List.length he; simpa [length_putBits] using this
    have He : Hid _ := he
    clear he
    by_cases hk0 : 0 < k
    · obtain ⟨k', rfl⟩ : ∃ k', k = k' + 1 := ⟨k - 1, by omega⟩
      rw [show (((k' + 1 : Nat) : Int) - 1) = (k' : Int) by omega]
      have hbit := bit_eq v k' hv
      have hap := hw.apart
      have c0 := cell_of_one hw.1
      have f0 := free_of_one hw.1
      have hqlt := lt_of_block hw.1
      have ho := hw.2
      have ca : ∀ o, (wr.alloc o).cell? ⟨q, 0, none⟩ = some sv' := fun o => cell_of_one (blk_alloc o hw.1)
      have hb63 : l'.length + 1 ≤ maxLen := by unfold maxLen; omega
      have hb47 : (l'.length + 1) * 1 ≤ 140737488355328 := by omega
      have h1c : ∀ u ∈ [Value.bool (v.testBit k')], u.oneCell' = true := by intro u hu; simp at hu; subst hu; rfl
      have Hw : Hid (RefWr wr q sv' l') := hw
      have Ho : Hid (wr.ownsRow 0 4 1 sv' l'.length (l'.map Value.bool)) := ho
      have Hap : Hid _ := hap
      clear hw ho hap
      go_wp2
      go_region_law ((refine step_append_lies _ (by rfl) (.tmp 19) (.tmp 25) 45 (by rfl) 0 4 i0 (.bool false) 1 1 Try.underlying45 hi hz0 hz1 hz2 rfl (by decide) sv' l'.length (l'.map Value.bool) (by rfl) (by exact Ho.out.alloc _) ⟨wr.heap.size, 0, none⟩ 1 1 [.bool (v.testBit k')] (by rfl) rfl (by exact cell_one_new _ _ _) h1c (by decide) hb63 hb47 (Nat.zero_le _) (wr.heap.size + 1) (by simp) ?_; intro g cap w1 hown hgrow hat hlt; have hq1 : w1.heap[q]? = some (.cells #[sv'] 47 (0, 0)) := (hgrow.block q (by simp; omega) (fun e => Hap.out e.symm)).trans (by exact blk_alloc _ Hw.out.1); have cq := cell_of_one hq1; have fq := free_of_one hq1))
      all_goals
        have hgq : q ≠ g := by
          rcases hat with h | h
          · intro e; subst e; exact Hap.out h
          · omega
        have hq2 := one_setCell (u := .slice (some ⟨g, 0, none⟩) (l'.length + 1) cap) hq1
        have ho2 := ownsRow_setCell_other hown (a := ⟨q, 0, none⟩) (u := .slice (some ⟨g, 0, none⟩) (l'.length + 1) cap) (by simp [Value.ownBlock]; omega)
        have hfr : Fr wr (w1.setCell ⟨q, 0, none⟩ (.slice (some ⟨g, 0, none⟩) (l'.length + 1) cap)) (foot q sv') := Fr.setCell (Fr.grown ((Fr.refl wr _).alloc _).drew hgrow (fun k hk _ => .inr hk)) _ (fun _ => .inl rfl) _
        have hmv' : Moved wr sv' (.slice (some ⟨g, 0, none⟩) (l'.length + 1) cap) := by
          intro k hk
          simp [Value.ownBlock] at hk
          subst hk
          rcases hat with h | h
          · exact .inl h
          · exact .inr (by omega)
        have hw2 : RefWr (w1.setCell ⟨q, 0, none⟩ (.slice (some ⟨g, 0, none⟩) (l'.length + 1) cap)) q (.slice (some ⟨g, 0, none⟩) (l'.length + 1) cap) (l' ++ [v.testBit k']) := ⟨hq2, by simpa using ho2⟩
        clear hown hgrow hat hlt hq1 cq fq hq2 ho2
        go_wp2
        go_roundw
        case rel => exact ⟨k', by omega, by go_num, _, _, hw2, by rw [← He.out]; simp [putBits], hf.foot_trans hfr hmv, hmv.trans hmv' hf.size⟩
        case measure => simp [intOf]
    · obtain rfl : k = 0 := by omega
      go_wp2
      go_end0
      refine ⟨rfl, sv', ?_, hf, hmv⟩
      rw [← He.out]; simpa [putBits] using hw
set_option maxRecDepth 4000 in
set_option maxHeartbeats 1600000 in
theorem refPut64 (q : Nat) (sv : Value) (l : List Bool) (v : Nat) (n : Int) (hbig : 64 < n) (w : World) (h : RefWr w q sv l) (hn : l.length ≤ 100000000000) (hv : v < 18446744073709551616) :
    Calls Try.prog 20 #[.pointer (some ⟨q, 0, none⟩), .int .u64 (v : Int), .int .i64 n] w fun e w' => e = .returned (.tuple #[]) ∧
      ∃ sv', RefWr w' q sv' (l ++ putBits v 64) ∧ Fr w w' (foot q sv) ∧ Moved w sv sv' := by
  obtain ⟨i0, hi, hz0, hz1, hz2⟩ := info_parts Try.info4
  go_enter Try.func20, Try.ntmps20
  go_wp2_with fail
  go_loopw [6] (fun I wr => ∃ k : Nat, k ≤ 64 ∧ I = .int .i64 ((k : Int) - 1) ∧ ∃ sv' l', RefWr wr q sv' l' ∧ l' ++ putBits v k = l ++ putBits v 64 ∧ Fr w wr (foot q sv) ∧ Moved w sv sv')
    (fun I _ => (intOf I + 1).toNat)
  case atStart => exact ⟨64, Nat.le_refl _, congrArg (Value.int .i64) (by decide), sv, l, h, rfl, Fr.refl _ _, Moved.refl _ _⟩
  case round =>
    obtain ⟨k, hk, rfl, sv', l', hw, he, hf, hmv⟩ := hrel
    have hll : l'.length + k = l.length + 64 := by have := congrArg List.length he; simpa [length_putBits] using this
    have He : Hid _ := he
    clear he
    by_cases hk0 : 0 < k
    · obtain ⟨k', rfl⟩ : ∃ k', k = k' + 1 := ⟨k - 1, by omega⟩
      rw [show (((k' + 1 : Nat) : Int) - 1) = (k' : Int) by omega]
      have hbit := bit_eq v k' hv
      have hap := hw.apart
      have c0 := cell_of_one hw.1
      have f0 := free_of_one hw.1
      have hqlt := lt_of_block hw.1
      have ho := hw.2
      have ca : ∀ o, (wr.alloc o).cell? ⟨q, 0, none⟩ = some sv' := fun o => cell_of_one (blk_alloc o hw.1)
      have hb63 : l'.length + 1 ≤ maxLen := by unfold maxLen; omega
      have hb47 : (l'.length + 1) * 1 ≤ 140737488355328 := by omega
      have h1c : ∀ u ∈ [Value.bool (v.testBit k')], u.oneCell' = true := by intro u hu; simp at hu; subst hu; rfl
      have Hw : Hid (RefWr wr q sv' l') := hw
      have Ho : Hid (wr.ownsRow 0 4 1 sv' l'.length (l'.map Value.bool)) := ho
      have Hap : Hid _ := hap
      clear hw ho hap
      go_wp2
      go_region_law ((refine step_append_lies _ (by rfl) (.tmp 19) (.tmp 25) 45 (by rfl) 0 4 i0 (.bool false) 1 1 Try.underlying45 hi hz0 hz1 hz2 rfl (by decide) sv' l'.length (l'.map Value.bool) (by rfl) (by exact Ho.out.alloc _) ⟨wr.heap.size, 0, none⟩ 1 1 [.bool (v.testBit k')] (by rfl) rfl (by exact cell_one_new _ _ _) h1c (by decide) hb63 hb47 (Nat.zero_le _) (wr.heap.size + 1) (by simp) ?_; intro g cap w1 hown hgrow hat hlt; have hq1 : w1.heap[q]? = some (.cells #[sv'] 47 (0, 0)) := (hgrow.block q (by simp; omega) (fun e => Hap.out e.symm)).trans (by exact blk_alloc _ Hw.out.1); have cq := cell_of_one hq1; have fq := free_of_one hq1))
      all_goals
        have hgq : q ≠ g := by
          rcases hat with h | h
          · intro e; subst e; exact Hap.out h
          · omega
        have hq2 := one_setCell (u := .slice (some ⟨g, 0, none⟩) (l'.length + 1) cap) hq1
        have ho2 := ownsRow_setCell_other hown (a := ⟨q, 0, none⟩) (u := .slice (some ⟨g, 0, none⟩) (l'.length + 1) cap) (by simp [Value.ownBlock]; omega)
        have hfr : Fr wr (w1.setCell ⟨q, 0, none⟩ (.slice (some ⟨g, 0, none⟩) (l'.length + 1) cap)) (foot q sv') := Fr.setCell (Fr.grown ((Fr.refl wr _).alloc _).drew hgrow (fun k hk _ => .inr hk)) _ (fun _ => .inl rfl) _
        have hmv' : Moved wr sv' (.slice (some ⟨g, 0, none⟩) (l'.length + 1) cap) := by
          intro k hk
          simp [Value.ownBlock] at hk
          subst hk
          rcases hat with h | h
          · exact .inl h
          · exact .inr (by omega)
        have hw2 : RefWr (w1.setCell ⟨q, 0, none⟩ (.slice (some ⟨g, 0, none⟩) (l'.length + 1) cap)) q (.slice (some ⟨g, 0, none⟩) (l'.length + 1) cap) (l' ++ [v.testBit k']) := ⟨hq2, by simpa using ho2⟩
        clear hown hgrow hat hlt hq1 cq fq hq2 ho2
        go_wp2
        go_roundw
        case rel => exact ⟨k', by omega, by go_num, _, _, hw2, by rw [← He.out]; simp [putBits], hf.foot_trans hfr hmv, hmv.trans hmv' hf.size⟩
        case measure => simp [intOf]
    · obtain rfl : k = 0 := by omega
      go_wp2
      go_end0
      refine ⟨rfl, sv', ?_, hf, hmv⟩
      rw [← He.out]; simpa [putBits] using hw
theorem refPut_any (q : Nat) (sv : Value) (l : List Bool) (v : Nat) (n : Int) (w : World) (h : RefWr w q sv l) (hn : l.length ≤ 100000000000) (hv : v < 18446744073709551616) :
    Calls Try.prog 20 #[.pointer (some ⟨q, 0, none⟩), .int .u64 (v : Int), .int .i64 n] w fun e w' => e = .returned (.tuple #[]) ∧
      ∃ sv', RefWr w' q sv' (l ++ putBits v (wide n)) ∧ Fr w w' (foot q sv) ∧ Moved w sv sv' := by
  rcases (show n < 0 ∨ 64 < n ∨ (0 ≤ n ∧ n ≤ 64) by omega) with c | c | ⟨c, c'⟩
  · have e : wide n = 0 := by unfold wide; omega
    rw [e]
    exact refPut0 q sv l v n c w h hn hv
  · have e : wide n = 64 := by unfold wide; omega
    rw [e]
    exact refPut64 q sv l v n c w h hn hv
  · have hn' : ((n.toNat : Nat) : Int) = n := by omega
    have e : wide n = n.toNat := by unfold wide; omega
    rw [e]
    have := refPutM q sv l v n.toNat w h hn hv (by omega)
    rwa [hn'] at this

end Go.Proofs.Ytclfbdfgmeliaaa

/-
  The contract of the reference's Bytes; at most 10^11 bits.
-/
namespace Go.Proofs.Ytclfbdfgmeliaaa
open Go.RowKit
set_option maxRecDepth 4000

theorem or_one (x n : Nat) (hx : x < 256) : bits .or .u8 (x : Int) (2 ^ (n % 8) % 256) = ((x ||| 2 ^ (n % 8) : Nat) : Int) := by
  have h2 := pow_lt (n % 8) (by omega)
  have e : (2 : Int) ^ (n % 8) % 256 = ((2 ^ (n % 8) : Nat) : Int) := by
    have : (2 : Int) ^ (n % 8) = ((2 ^ (n % 8) : Nat) : Int) := by simp
    rw [this]
    generalize 2 ^ (n % 8) = y at *
    omega
  rw [e]
  exact u8_or_nat _ _ hx h2

/-- So far: the first i bits of l. -/
structure Part (bs : List Nat) (l : List Bool) (i : Nat) : Prop where
  len : bs.length = (l.length + 7) / 8
  small : ∀ j, bs.getD j 0 < 256
  bit : ∀ j, bitAt bs j = (decide (j < i) && l.getD j false)

theorem Part.zero (l : List Bool) : Part (List.replicate ((l.length + 7) / 8) 0) l 0 := by
  have hg : ∀ j, (List.replicate ((l.length + 7) / 8) 0).getD j 0 = 0 := by
    intro j; simp only [List.getD_eq_getElem?_getD, List.getElem?_replicate]; split <;> rfl
  exact ⟨by simp, fun j => by rw [hg]; omega, fun j => by unfold bitAt; rw [hg]; simp⟩

theorem Part.skip {bs : List Nat} {l : List Bool} {i : Nat} (h : Part bs l i) (hb : l.getD i false = false) : Part bs l (i + 1) := by
  refine ⟨h.len, h.small, fun j => ?_⟩
  rw [h.bit j]
  by_cases e : j = i
  · subst e; rw [hb]; simp
  · rw [show decide (j < i + 1) = decide (j < i) from decide_eq_decide.2 (by omega)]

theorem Part.put {bs : List Nat} {l : List Bool} {i : Nat} (h : Part bs l i) (hb : l.getD i false = true) (hi : i < l.length) : Part (bs.set (i / 8) (bs.getD (i / 8) 0 ||| 2 ^ (i % 8))) l (i + 1) := by
  have hlt : i / 8 < bs.length := by have := h.len; omega
  refine ⟨by rw [List.length_set]; exact h.len, fun j => ?_, fun j => ?_⟩
  · rw [getD_set_nat _ _ _ _ hlt]
    split
    · exact or_lt _ _ (h.small _) (pow_lt _ (by omega))
    · exact h.small _
  · have hj := h.bit j
    unfold bitAt at hj ⊢
    rw [getD_set_nat _ _ _ _ hlt]
    by_cases h1 : j / 8 = i / 8
    · rw [if_pos h1, Nat.testBit_or, Nat.testBit_two_pow, ← h1, hj]
      by_cases e : j = i
      · subst e; rw [hb]; simp
      · have h3 : i % 8 ≠ j % 8 := by omega
        rw [decide_eq_false h3, show decide (j < i + 1) = decide (j < i) from decide_eq_decide.2 (by omega)]; simp
    · rw [if_neg h1, hj, show decide (j < i + 1) = decide (j < i) from decide_eq_decide.2 (by omega)]

theorem Part.all {bs : List Nat} {l : List Bool} (h : Part bs l l.length) : Packs bs l := by
  refine ⟨h.len, h.small, fun i => ?_⟩
  rw [h.bit i]
  by_cases e : i < l.length
  · rw [decide_eq_true e]; simp
  · rw [decide_eq_false e]
    simp only [List.getD_eq_getElem?_getD]
    rw [List.getElem?_eq_none (by omega)]; rfl

theorem row_zeros (n : Nat) : (madeCells #[Value.int .u8 0] n).toList = row .u8 (List.replicate n 0) := by
  rw [toList_madeCells_one]
  simp [row]

set_option maxRecDepth 4000 in
set_option maxHeartbeats 1600000 in
theorem refBytes_any (q : Nat) (sv : Value) (l : List Bool) (w : World) (h : RefWr w q sv l) (hn : l.length ≤ 100000000000) :
    Calls Try.prog 21 #[.pointer (some ⟨q, 0, none⟩)] w fun e w' => ∃ v, e = .returned v ∧ Fresh w w' v (pack l) ∧ RefWr w' q sv l ∧ Fr w w' (fun _ => False) := by
  obtain ⟨i0, hi, hz0, hz1, hz2⟩ := info_parts Try.info5
  obtain ⟨ao, cap, rfl, hao⟩ : ∃ ao cap, sv = .slice ao l.length cap ∧ (0 < l.length → ∃ g, ao = some ⟨g, 0, none⟩) := by
    rcases h.2.2 with ⟨rfl, h0⟩ | ⟨g, cap, cur, rfl, _⟩
    · exact ⟨none, 0, by rw [h0], fun hp => by omega⟩
    · exact ⟨some ⟨g, 0, none⟩, cap, rfl, fun _ => ⟨g, rfl⟩⟩
  obtain ⟨len, hlen⟩ : ∃ len, len = l.length := ⟨_, rfl⟩
  have c0 := cell_of_one h.1
  rw [← hlen] at c0 hn hao
  have Hl : Hid _ := hlen
  have H : Hid (RefWr w q (.slice ao l.length cap) l) := h
  clear h
  obtain ⟨n8, hn8⟩ : ∃ n8, n8 = (len + 7) / 8 := ⟨_, rfl⟩
  have Hn8 : Hid _ := hn8
  clear hlen hn8
  go_enter Try.func21, Try.ntmps21
  go_wp2_with (at_make; refine wpList_make_full _ rfl _ _ 22 rfl 0 5 i0 (.int .u8 0) 1 Try.underlying22 hi hz0 hz1 _ _ _ _ n8 rfl rfl (by rw [Hn8.out]; omega) (by rw [Hn8.out]; omega) ?b1 ?b2 (Nat.zero_le _) ?_)
  case b1 => rw [hz2, Hn8.out]; omega
  case b2 => rw [Hn8.out]; unfold maxLen; omega
  intro w1 hown hgrow
  rw [row_zeros] at hown
  obtain ⟨G, hG⟩ : ∃ G, G = w.heap.size := ⟨_, rfl⟩
  rw [← hG] at hown ⊢
  have hfr1 : Fr w w1 (fun _ => False) := (Fr.refl w _).grown hgrow (fun k hk => by cases hk)
  have Hown : Hid (w1.ownsRow 0 5 1 (.slice (some ⟨G, 0, none⟩) n8 n8) n8 (row .u8 (List.replicate n8 0))) := hown
  have HG : Hid _ := hG
  clear hown hgrow hG
  go_wp2_with fail
  go_loopw [4] (fun I wr => ∃ (i : Nat) (bs : List Nat), i ≤ len ∧ I = .int .i64 (i : Int) ∧ Part bs l i ∧ wr.ownsRow 0 5 1 (.slice (some ⟨G, 0, none⟩) n8 n8) n8 (row .u8 bs) ∧ Fr w wr (fun _ => False)) (fun I _ => len - (intOf I).toNat)
  case atStart => exact ⟨0, List.replicate n8 0, Nat.zero_le _, rfl, by rw [Hn8.out, Hl.out]; exact Part.zero l, Hown.out, hfr1⟩
  case round =>
    clear hfr1
    obtain ⟨i, bs, hil, rfl, hpt, ho, hfr⟩ := hrel
    have hw := H.out.frame hfr (fun _ _ h => h)
    have c0 := cell_of_one hw.1
    rw [← Hl.out] at c0
    have Hpt : Hid (Part bs l i) := hpt
    have Ho : Hid (wr.ownsRow 0 5 1 (.slice (some ⟨G, 0, none⟩) n8 n8) n8 (row .u8 bs)) := ho
    clear hpt ho
    by_cases hlt : i < len
    · obtain ⟨g, rfl⟩ := hao (by omega)
      have cb : wr.cell? ⟨g, i, none⟩ = some (.bool (l.getD i false)) := by
        have := hw.2.cellAt i (by rw [← Hl.out]; omega)
        rw [this]
        simp [List.getD_eq_getElem?_getD, show i < l.length by rw [← Hl.out]; exact hlt]
      have Hw : Hid (RefWr wr q (.slice (some ⟨g, 0, none⟩) l.length cap) l) := hw
      clear hw
      have ii : (i : Int) < (len : Int) := by omega
      cases hbit : l.getD i false
      · rw [hbit] at cb
        have hpn := Hpt.out.skip hbit
        clear hbit
        go_wp2
        go_roundw
        case rel => exact ⟨i + 1, bs, by omega, by go_num, hpn, Ho.out, hfr⟩
        case measure => simp [intOf]; omega
      · rw [hbit] at cb
        have hpn := Hpt.out.put hbit (by rw [← Hl.out]; exact hlt)
        have hbl : bs.length = n8 := by rw [Hpt.out.len, Hn8.out, Hl.out]
        obtain ⟨x, hx⟩ : ∃ x, x = bs.getD (i / 8) 0 := ⟨_, rfl⟩
        obtain ⟨k, hk⟩ : ∃ k, k = i / 8 := ⟨_, rfl⟩
        have hk8 : k < n8 := by rw [Hn8.out]; omega
        have hx2 : x < 256 := by rw [hx]; exact Hpt.out.small _
        rw [← hx, ← hk] at hpn
        have cg : wr.cell? ⟨G, k, none⟩ = some (.int .u8 (x : Int)) := by
          have := World.ownsRow.cellAt Ho.out k (by omega)
          rw [this, row_get .u8 bs k (by omega), hx, hk]
        have fg : wr.frozen? ⟨G, k, none⟩ = false := World.ownsRow.frozenAt Ho.out k
        have hqw : IntKind.i64.wrap ((i : Int) / 8) = (k : Int) := by rw [IntWalk.i64_in _ (by omega)]; omega
        have hrem : (i : Int).tmod 8 = ((i % 8 : Nat) : Int) := by rw [Int.tmod_eq_emod_of_nonneg (by omega)]; omega
        have i1 : (k : Int) < (n8 : Int) := by omega
        clear hbit hx hk hbl
        go_wp2
        go_still_tail 10, (by kernel_rfl)
        go_wp2
        go_roundw
        case rel =>
          obtain ⟨ho3, hg3⟩ := World.ownsRow.stored Ho.out k (.int .u8 ((x ||| 2 ^ (i % 8) : Nat) : Int))
          rw [or_one x i hx2]
          refine ⟨i + 1, _, by omega, by go_num, hpn, ?_, Fr.drew (hfr.grown hg3 ?_)⟩
          · rw [row_set]; exact ho3
          · intro k' hk' hlt'
            simp at hk'
            rw [← hk', HG.out] at hlt'; omega
        case measure => simp [intOf]; omega
    · have Hil : Hid (i = len) := by show i = len; omega
      go_wp2
      go_ret
      have hpk := Hpt.out
      rw [Hil.out, Hl.out] at hpk
      obtain rfl := hpk.all.eq (packs_pack l)
      have hpl : n8 = (pack l).length := by rw [length_pack, ← Hl.out]; exact Hn8.out
      refine ⟨_, rfl, ⟨G, ?_, ?_, by rw [HG.out]; omega, (World.ownsRow.lt Ho.out G rfl).2⟩, hw, hfr⟩
      · rw [← hpl]; rfl
      · rw [← hpl]; exact Ho.out

end Go.Proofs.Ytclfbdfgmeliaaa

/-
  The contract of the reference's Put of bytes.
-/
namespace Go.Proofs.Ytclfbdfgmeliaaa
open Go.RowKit

theorem lensB_of (bs : List Nat) (hl : bs.length ≤ 1000000) : pmLens (((cntB bs).map fun (b : Nat) => (b : Int)).map clampN) (clampM 15) = lensB bs := by
  unfold lensB
  congr 1
  rw [List.map_map]
  conv => rhs; rw [← List.map_id (cntB bs)]
  apply List.map_congr_left
  intro c hc
  obtain ⟨s, -, rfl⟩ := List.mem_map.1 hc
  have : bs.count s ≤ bs.length := List.count_le_length
  simp only [Function.comp, id]
  unfold clampN
  omega
theorem Fresh.own {w w' : World} {v : Value} {bs : List Nat} (h : Fresh w w' v bs) : Own w' v bs := by
  obtain ⟨g, rfl, ho, -⟩ := h
  exact ho
theorem rowsTo_small (l : List Nat) (h15 : ∀ s, ln l s ≤ 15) : ∀ s, s ≤ 256 → (encs (rowsTo l s)).length ≤ 768 := fun s hs => by
  have := rows_few l h15 s hs
  have := someTo_le l s
  omega

set_option maxRecDepth 4000 in
set_option maxHeartbeats 1600000 in
theorem refHPut_any (v : Value) (bs : List Nat) (w : World) (h : Reads .u8 w v bs) (hb : ∀ x ∈ bs, x < 256) (hl : bs.length ≤ 1000000) :
    Calls Try.prog 10 #[v] w fun e w' => ∃ sv, e = .returned sv ∧ Own w' sv (hput bs) ∧ Fr w w' (fun _ => False) ∧ (∀ k, sv.ownBlock = some k → w.heap.size ≤ k) := by
  obtain ⟨a0, c0, rfl, hc0, -⟩ := id h
  rw [length_row] at h hc0 ⊢
  obtain ⟨n, hn⟩ : ∃ n, n = bs.length := ⟨_, rfl⟩
  rw [← hn] at h hl hc0 ⊢
  have Hr : Hid (Reads .u8 w (.slice a0 n c0) bs) := h
  have Hn : Hid _ := hn
  have Hb : Hid _ := hb
  clear h hn hb
  have wn : IntKind.u64.wrap (n : Int) = (n : Int) := by rw [IntKind.wrap_u64]; omega
  go_enter Try.func10, Try.ntmps10
  go_wp2_with fail
  refine (vrefPut_any _ [n] _ (holds_lit w 42 [.int .u64 (n : Int)] (by simp)) (by simp; omega) (by simp)).mono ?_
  rintro e w1 ⟨s1, rfl, ho1, hf1, hn1⟩
  have hf1' : Fr w w1 (fun _ => False) := ((Fr.refl w (fun _ => False)).alloc _).none hf1
  have hn1' : ∀ k, s1.ownBlock = some k → w.heap.size ≤ k := fun k hk => by have := hn1 k hk; simp at this; omega
  have e1 : encs [n] = enc n := by simp [encs]
  rw [e1] at ho1
  have Ho1 : Hid (Own w1 s1 (enc n)) := ho1
  have Hf1 : Hid (Fr w w1 (fun _ => False)) := hf1'
  have Hn1 : Hid _ := hn1'
  clear ho1 hf1 hf1' hn1 hn1' e1 wn
  by_cases h0 : n = 0
  · subst h0
    have Hres : Hid (hput bs = enc 0) := by
      show _ = _
      have e : bs = [] := List.eq_nil_of_length_eq_zero Hn.out.symm
      subst e
      unfold hput
      simp
    go_wp2_with fail
    go_ret
    exact ⟨_, rfl, by rw [Hres.out]; exact Ho1.out, Hf1.out, Hn1.out⟩
  · have hn2 : ((n : Int) == 0) = false := by rw [beq_eq_false_iff_ne]; omega
    have h0n : 0 < n := by omega
    have hne : bs ≠ [] := fun e => by have := Hn.out; rw [e] at this; simp at this; omega
    have Hput : Hid (hput bs = enc n ++ (headOf (lensB bs) ++ pack (bitsOf (lensB bs) bs))) := by show _ = _; unfold hput; rw [if_neg hne, ← Hn.out]
    have HR : Hid (RightL (lensB bs)) := lensB_right bs Hb.out hne
    have H15 : Hid (∀ s, ln (lensB bs) s ≤ 15) := lnB_15 bs
    have Hll : Hid ((lensB bs).length = 256) := lensB_len bs
    clear hne
    go_wp2_with fail
    refine (refCounts_any _ bs w1 (Hr.out.keep Hf1.out) Hb.out (by rw [← Hn.out]; omega)).mono ?_
    rintro e w2 ⟨sc, rfl, hrc, hf2, -⟩
    go_wp2_with fail
    refine (refLens_own sc _ 15 w2 hrc.z (by decide) (by decide)).mono ?_
    rw [lensB_of bs (by rw [← Hn.out]; exact hl)]
    rintro e w3 ⟨sl, rfl, hol, hf3, hnl⟩
    have hrl := hol.reads
    have hf3' := (Hf1.out.none hf2).none hf3
    have HS1 : Hid (∀ k, s1.ownBlock = some k → k < w2.heap.size) := fun k hk => by have := Ho1.out.lt k hk; have := hf2.size; omega
    have ho13 : Own w3 s1 (enc n) := Ho1.out.frame (hf2.none hf3) (fun _ _ h => h)
    generalize lensB bs = l at Hput HR H15 Hll hrl
    obtain ⟨al, cl, hsl, hcl, -⟩ := id hrl
    rw [length_row, Hll.out] at hsl hcl
    subst hsl
    have Hrl : Hid (Reads .i64 w3 (.slice al 256 cl) l) := hrl
    have HnL : Hid (∀ k, (Value.slice al 256 cl).ownBlock = some k → w2.heap.size ≤ k ∧ k < w3.heap.size) := fun k hk => ⟨hnl k hk, hol.lt k hk⟩
    have Hf3 : Hid (Fr w w3 (fun _ => False)) := hf3'
    have Ho3 : Hid (Own w3 s1 (enc n)) := ho13
    clear hrc hf2 hol hnl hf3 hrl hf3' ho13 Ho1
    go_wp2_with fail
    go_loopg [5, 6, 7, 8] 256 (fun g' Nn La Rw S wi => ∃ s : Nat, g' = 256 - s ∧ s ≤ 256 ∧ S = .int .i64 (s : Int) ∧ Nn = .int .i64 ((someTo l s : Nat) : Int) ∧ La = .int .i64 ((nextTo l s : Nat) - 1 : Int) ∧ Own wi Rw (encs (rowsTo l s)) ∧ (∀ k, Rw.ownBlock = some k → w3.heap.size ≤ k) ∧ Fr w3 wi (fun _ => False))
    case atStart => exact ⟨0, rfl, by omega, rfl, rfl, rfl, Own.nil _, fun k hk => by simp [Value.ownBlock] at hk, Fr.refl _ _⟩
    case round =>
      obtain ⟨s, hg', hs, rfl, rfl, rfl, ho, hnw, hf⟩ := hrel
      have Hg' : Hid _ := hg'
      have Ho : Hid (Own wr u7 (encs (rowsTo l s))) := ho
      have Hnw : Hid _ := hnw
      have Hf : Hid (Fr w3 wr (fun _ => False)) := hf
      clear hg' ho hnw hf
      obtain ⟨nx, hnx⟩ : ∃ nx, nx = nextTo l s := ⟨_, rfl⟩
      have hnxs : nx ≤ s := by rw [hnx]; exact nextTo_le l s
      obtain ⟨La, hLa⟩ : ∃ La : Int, La = (nx : Int) - 1 := ⟨_, rfl⟩
      rw [← hnx, ← hLa]
      have hsm := someTo_le l s
      obtain ⟨Nn, hNn⟩ : ∃ m, m = someTo l s := ⟨_, rfl⟩
      rw [← hNn] at hsm ⊢
      have HNn : Hid _ := hNn
      have Hnx : Hid _ := hnx
      have HLa : Hid _ := hLa
      clear hnx hLa hNn
      by_cases hlt : s < 256
      · obtain ⟨bl, ol, rfl, hbl, cy⟩ := (Hrl.out.keep Hf.out).at Hll.out.symm s hlt
        obtain ⟨y, hy⟩ : ∃ y, y = ln l s := ⟨_, rfl⟩
        rw [show l.getD s 0 = y from hy.symm] at cy
        have hy15 := H15.out s
        rw [← hy] at hy15
        have hs1 : (s : Int) < 256 := by omega
        have Hy : Hid _ := hy
        clear hy hbl
        by_cases hy0 : 0 < y
        · have hd : decide ((0 : Int) < (y : Int)) = true := decide_eq_true (by omega)
          obtain ⟨gp, hgp⟩ : ∃ gp, gp = s - nx := ⟨_, rfl⟩
          have q1 : (s : Int) - La = ((gp + 1 : Nat) : Int) := by rw [HLa.out]; omega
          have q1b : gp ≤ 255 := by omega
          have q2 : ((gp + 1 : Nat) : Int) - 1 = (gp : Int) := by omega
          have wg : IntKind.u64.wrap (gp : Int) = (gp : Int) := by rw [IntKind.wrap_u64]; omega
          have wy : IntKind.u64.wrap (y : Int) = (y : Int) := by rw [IntKind.wrap_u64]; omega
          have Hrow : Hid (encs (rowsTo l (s + 1)) = encs (rowsTo l s) ++ encs [gp, y]) := by
            show _ = _
            rw [rowsTo, if_pos (by rw [← Hy.out]; exact hy0), ← Hnx.out, ← hgp, ← Hy.out]
            simp [encs]
          have Hnn : Hid (someTo l (s + 1) = Nn + 1 ∧ nextTo l (s + 1) = s + 1) := by
            refine ⟨?_, ?_⟩
            · rw [someTo, if_pos (by rw [← Hy.out]; exact hy0), HNn.out]
            · rw [nextTo, if_pos (by rw [← Hy.out]; exact hy0)]
          have hwN : IntKind.i64.wrap ((Nn : Int) + 1) = ((Nn + 1 : Nat) : Int) := by rw [IntWalk.i64_in _ (by omega)]; omega
          clear hgp
          go_wp2_with fail
          refine (vrefPut_any _ [gp, y] _ (holds_lit wr 42 [.int .u64 (gp : Int), .int .u64 (y : Int)] (by simp)) (by simp; omega) (by simp)).mono ?_
          rintro e w4 ⟨s4, rfl, ho4, hf4, hn4⟩
          have hf4' : Fr wr w4 (fun _ => False) := ((Fr.refl wr (fun _ => False)).alloc _).none hf4
          have hoR : Own w4 u7 (encs (rowsTo l s)) := Ho.out.frame hf4' (fun _ _ h => h)
          have hle : (encs [gp, y]).length ≤ 20 := encs_le [gp, y] (by simp; omega)
          obtain ⟨v5, w5, hrun5, ho5, hf5, hm5, -⟩ := app_bytes w4 u7 s4 _ _ hoR ho4.reads (by have := rowsTo_small l H15.out s (by omega); omega)
          rw [← Hrow.out] at ho5
          have Ho5 : Hid (Own w5 v5 (encs (rowsTo l (s + 1)))) := ho5
          have Hnw5 : Hid (∀ k, v5.ownBlock = some k → w3.heap.size ≤ k) := fun k hk => by
            rcases hm5 k hk with h2 | h2
            · exact Hnw.out k h2
            · have := Hf.out.size; have := hf4'.size; omega
          have Hf5 : Hid (Fr w3 w5 (fun _ => False)) := (Hf.out.none hf4').newer hf5 Hnw.out
          clear ho4 hf4 hn4 hf4' hoR hle ho5 hf5 hm5
          go_wp2_with (at_builtin; refine wpList_append_run rfl (.tmp 33) (.tmp 45) 22 rfl rfl rfl hrun5 ?_)
          go_roundg (256 - (s + 1))
          case rel => exact ⟨s + 1, rfl, by omega, by go_num, by rw [Hnn.out.1]; first | rfl | (rw [← hwN]), by rw [Hnn.out.2]; congr 1; omega, Ho5.out, Hnw5.out, Hf5.out⟩
          case measure => rw [Hg'.out]; omega
        · have hd : decide ((0 : Int) < (y : Int)) = false := decide_eq_false (by omega)
          have Hnn : Hid (someTo l (s + 1) = Nn ∧ nextTo l (s + 1) = nx ∧ rowsTo l (s + 1) = rowsTo l s) := by
            refine ⟨?_, ?_, ?_⟩
            · rw [someTo, if_neg (by rw [← Hy.out]; exact hy0), HNn.out]
            · rw [nextTo, if_neg (by rw [← Hy.out]; exact hy0), Hnx.out]
            · rw [rowsTo, if_neg (by rw [← Hy.out]; exact hy0)]
          go_wp2_with fail
          go_roundg (256 - (s + 1))
          case rel => exact ⟨s + 1, rfl, by omega, by go_num, by rw [Hnn.out.1], by rw [Hnn.out.2.1, HLa.out], by rw [Hnn.out.2.2]; exact Ho.out, Hnw.out, Hf.out⟩
          case measure => rw [Hg'.out]; omega
      · obtain rfl : s = 256 := by omega
        have wN : IntKind.u64.wrap (Nn : Int) = (Nn : Int) := by rw [IntKind.wrap_u64]; omega
        go_wp2_with fail
        refine (vrefPut_any _ [Nn] _ (holds_lit wr 42 [.int .u64 (Nn : Int)] (by simp)) (by simp; omega) (by simp)).mono ?_
        rintro e w4 ⟨s4, rfl, ho4, hf4, hn4⟩
        have hf4' : Fr wr w4 (fun _ => False) := ((Fr.refl wr (fun _ => False)).alloc _).none hf4
        have hf34 : Fr w3 w4 (fun _ => False) := Hf.out.none hf4'
        have hoR : Own w4 u7 (encs (rowsTo l 256)) := Ho.out.frame hf4' (fun _ _ h => h)
        have hoS : Own w4 s1 (enc n) := Ho3.out.frame hf34 (fun _ _ h => h)
        have hs1lt := Ho3.out.lt
        have e1 : encs [Nn] = enc Nn := by simp [encs]
        rw [e1] at ho4
        have hel := enc_le n (by omega)
        have hel2 := enc_le Nn (by omega)
        obtain ⟨v5, w5, hrun5, ho5, hf5, hm5, -⟩ := app_bytes w4 s1 s4 _ _ hoS ho4.reads (by omega)
        have hoR5 : Own w5 u7 (encs (rowsTo l 256)) := hoR.frame hf5 (fun k hk h2 => by have := Hnw.out k hk; have := hs1lt k h2; omega)
        have hrs := rowsTo_small l H15.out 256 (Nat.le_refl _)
        obtain ⟨v6, w6, hrun6, ho6, hf6, hm6, -⟩ := app_bytes w5 v5 u7 _ _ ho5 hoR5.reads (by rw [List.length_append]; omega)
        have hn5 : ∀ k, v5.ownBlock = some k → w.heap.size ≤ k := fun k hk => by
          rcases hm5 k hk with h2 | h2
          · exact Hn1.out k h2
          · have := Hf3.out.size; have := hf34.size; omega
        have hn6 : ∀ k, v6.ownBlock = some k → w.heap.size ≤ k := fun k hk => by
          rcases hm6 k hk with h2 | h2
          · exact hn5 k h2
          · have := Hf3.out.size; have := hf34.size; have := hf5.size; omega
        have hf06 : Fr w w6 (fun _ => False) := ((Hf3.out.none hf34).newer hf5 Hn1.out).newer hf6 hn5
        have hrl5 : Reads .i64 w5 (.slice al 256 cl) l := (Hrl.out.keep hf34).frame hf5 (fun k hk h2 => by have := HnL.out k hk; have := HS1.out k h2; omega)
        have hrl6 : Reads .i64 w6 (.slice al 256 cl) l := hrl5.frame hf6 (fun k hk h2 => by
          have := HnL.out k hk
          rcases hm5 k h2 with h3 | h3
          · have := HS1.out k h3; omega
          · have := hf34.size; omega)
        have Hhead : Hid (enc n ++ enc Nn ++ encs (rowsTo l 256) = enc n ++ headOf l) := by show _ = _; unfold headOf; rw [← HNn.out, List.append_assoc]
        rw [Hhead.out] at ho6
        have Ho6 : Hid (Own w6 v6 (enc n ++ headOf l)) := ho6
        have Hn6 : Hid _ := hn6
        have Hf6 : Hid (Fr w w6 (fun _ => False)) := hf06
        have Hrl6 : Hid (Reads .i64 w6 (.slice al 256 cl) l) := hrl6
        have Hl6 : Hid (∀ k, (Value.slice al 256 cl).ownBlock = some k → k < w6.heap.size) := fun k hk => by have := HnL.out k hk; have := hf34.size; have := hf5.size; have := hf6.size; omega
        have Hv6 : Hid (∀ k, v6.ownBlock = some k → k < w6.heap.size) := ho6.lt
        clear ho4 hf4 hn4 hf4' hf34 hoR hoS hs1lt e1 hel hel2 ho5 hf5 hm5 hoR5 hrs ho6 hf6 hm6 hn5 hn6 hf06 hrl5 hrl6 Hhead
        go_wp2_with (at_builtin; first | refine wpList_append_run rfl (.tmp 50) (.tmp 54) 22 rfl rfl rfl hrun5 ?_ | refine wpList_append_run rfl (.tmp 55) (.tmp 56) 22 rfl rfl rfl hrun6 ?_)
        clear hrun5 hrun6
        obtain ⟨q, hq⟩ : ∃ q, q = w6.heap.size := ⟨_, rfl⟩
        rw [← hq]
        have hw7 : RefWr (w6.alloc (.cells #[.slice none 0 0] 47)) q (.slice none 0 0) [] := ⟨by rw [hq]; exact heap_alloc_new _ _, World.ownsRow_nil _ _ _ _⟩
        have hf7 : Fr w6 (w6.alloc (.cells #[.slice none 0 0] 47)) (fun _ => False) := (Fr.refl w6 _).alloc _
        generalize w6.alloc (.cells #[.slice none 0 0] 47) = w7 at *
        have hz7 : ReadsZ w7 (.slice al 256 cl) (l.map fun (b : Nat) => (b : Int)) := (Hrl6.out.keep hf7).z
        refine (refCodes_any _ _ w7 hz7).mono ?_
        rintro e w8 ⟨sc8, rfl, hrc8, hf8, hnc8⟩
        have hcz : codesZ (l.map fun (b : Nat) => (b : Int)) = fnRow 256 (codeOf l) := by
          unfold codesZ
          rw [if_pos ((right_of_nats l).2 HR.out), List.length_map, Hll.out]
          have : nats (l.map fun (b : Nat) => (b : Int)) = l := by
            unfold nats
            rw [List.map_map]
            conv => rhs; rw [← List.map_id l]
            apply List.map_congr_left
            intro m _
            simp
          rw [this]
          rfl
        rw [hcz] at hrc8
        obtain ⟨ac, cc, hsc, hcc, -⟩ := id hrc8
        rw [length_row, fnRow_length] at hsc hcc
        subst hsc
        have hf68 : Fr w6 w8 (fun _ => False) := hf7.none hf8
        have Hrc8 : Hid (Reads .i64 w8 (.slice ac 256 cc) (fnRow 256 (codeOf l))) := hrc8
        have Hrl8 : Hid (Reads .i64 w8 (.slice al 256 cl) l) := Hrl6.out.keep hf68
        have Hrb8 : Hid (Reads .u8 w8 (.slice a0 n c0) bs) := (Hr.out.keep Hf6.out).keep hf68
        have Hw8 : Hid (RefWr w8 q (.slice none 0 0) []) := hw7.frame hf8 (fun _ _ h => h)
        have Hf8 : Hid (Fr w6 w8 (fun _ => False)) := hf68
        have Hnq : Hid (Newer w6.heap.size q (.slice none 0 0)) := fun k hk => by
          rcases hk with rfl | hk
          · omega
          · simp [Value.ownBlock] at hk
        have Hac : Hid (∀ k, (Value.slice ac 256 cc).ownBlock = some k → q < k) := fun k hk => by
          have h1 := hnc8 k hk
          have h2 := lt_of_block hw7.1
          omega
        clear hw7 hf7 hz7 hrc8 hf8 hnc8 hcz hf68 wN
        have Hbq : Hid (∀ b off, a0 = some ⟨b, off, none⟩ → b < q) := fun b off e => by
          obtain ⟨b', off', e2, hb', -⟩ := Hr.out.at Hn.out 0 h0n
          rw [e] at e2
          simp only [Option.some.injEq, Addr.mk.injEq] at e2
          have := Hf6.out.size
          omega
        have Hlq : Hid (∀ k, (Value.slice al 256 cl).ownBlock = some k → k < q) := fun k hk => by have := Hl6.out k hk; omega
        have Hvq : Hid (∀ k, v6.ownBlock = some k → k < q) := fun k hk => by have := Hv6.out k hk; omega
        clear hq
        go_wp2_with fail
        go_loopg [11] n (fun g' I wi => ∃ (i : Nat) (sv : Value), g' = n - i ∧ i ≤ n ∧ I = .int .i64 (i : Int) ∧ RefWr wi q sv (bitsOf l (bs.take i)) ∧ (∀ k, sv.ownBlock = some k → w8.heap.size ≤ k) ∧ Fr w8 wi (fun k => k = q))
        case atStart => exact ⟨0, _, rfl, by omega, rfl, Hw8.out, fun k hk => by simp [Value.ownBlock] at hk, Fr.refl _ _⟩
        case round =>
          obtain ⟨i, sv, hg2, hi, rfl, hw, hsv, hf⟩ := hrel
          have Hg2 : Hid _ := hg2
          have Hw : Hid (RefWr wr q sv (bitsOf l (bs.take i))) := hw
          have Hsv : Hid _ := hsv
          have Hf9 : Hid (Fr w8 wr (fun k => k = q)) := hf
          have hbl : (bitsOf l (bs.take i)).length ≤ 15000000 := by
            have := bitsOf_le l (bs.take i) H15.out
            rw [List.length_take] at this
            omega
          clear hg2 hw hsv hf
          by_cases hlt : i < n
          · obtain ⟨bb, ob, hea, hbb, cb⟩ := Hrb8.out.at Hn.out i hlt
            have hbbq := Hbq.out bb ob hea
            subst hea
            obtain ⟨x, hx⟩ : ∃ x, x = bs.getD i 0 := ⟨_, rfl⟩
            have hx256 : x < 256 := by rw [hx]; exact Hb.out _ (getD_mem (by rw [← Hn.out]; exact hlt))
            have Hbits : Hid (bitsOf l (bs.take (i + 1)) = bitsOf l (bs.take i) ++ putBits (codeOf l x) (ln l x)) := by
              show _ = _
              rw [take_step (by rw [← Hn.out]; exact hlt), ← hx, bitsOf_append]
              simp [bitsOf]
            rw [← hx] at cb
            clear hx
            obtain ⟨bl, ol, hel, hbl2, cy⟩ := Hrl8.out.at Hll.out.symm x hx256
            have hblq := Hlq.out bl (by rw [hel]; rfl)
            subst hel
            obtain ⟨bc, oc, hec, hbc, cc1⟩ := Hrc8.out.at (by rw [fnRow_length]) x hx256
            have hbcq := Hac.out bc (by rw [hec]; rfl)
            subst hec
            rw [List.getD_eq_getElem?_getD, fnRow_get 256 _ x hx256, Option.getD_some] at cc1
            have hfx : ∀ z, Fr wr.drew z (foot q sv) → Fr w8 z (fun k => k = q) := fun z hz => Hf9.out.drew.trans hz (fun k hk ht => by
              rcases ht with h1 | h1
              · exact h1
              · have := Hsv.out k h1; omega)
            have kb : ∀ z, Fr wr.drew z (foot q sv) → z.cell? ⟨bb, ob + i, none⟩ = some (.int .u8 (x : Int)) := fun z hz => by
              rw [World.cell?_of_block (w := w8) ((hfx z hz).block bb hbb (fun e => by omega))]
              exact cb
            have kl : ∀ z, Fr wr.drew z (foot q sv) → z.cell? ⟨bl, ol + x, none⟩ = some (.int .i64 ((ln l x : Nat) : Int)) := fun z hz => by
              rw [World.cell?_of_block (w := w8) ((hfx z hz).block bl hbl2 (fun e => by omega))]
              exact cy
            have kc : ∀ z, Fr wr.drew z (foot q sv) → z.cell? ⟨bc, oc + x, none⟩ = some (.int .i64 ((codeOf l x : Nat) : Int)) := fun z hz => by
              rw [World.cell?_of_block (w := w8) ((hfx z hz).block bc hbc (fun e => by omega))]
              exact cc1
            have hy15 := H15.out x
            have hcb : codeOf l x < 32768 := by
              rcases Nat.eq_zero_or_pos (ln l x) with h1 | h1
              · unfold codeOf; rw [if_pos h1]; decide
              · exact Nat.lt_of_lt_of_le (code_lt HR.out.ln HR.out.kraft h1) (Nat.le_trans (Nat.pow_le_pow_right (by omega) (HR.out.ln x)) (by decide))
            generalize codeOf l x = C at Hbits kc hcb
            generalize ln l x = y at Hbits kl hy15
            have Hwy : Hid (wide (y : Int) = y) := by show _ = _; unfold wide; omega
            have hcw : IntKind.u64.wrap (C : Int) = (C : Int) := by rw [IntKind.wrap_u64]; omega
            have hi1 : (i : Int) < (n : Int) := by omega
            have hx1 : (x : Int) < 256 := by omega
            clear cb cy cc1 hfx hbb hbl2 hbc
            go_wp2
            refine wp_region_tree (foot q sv) (.take 0 (.take 1 (.take 2 (.take 3 (.take 4 (.take 5 (.take 6 (.take 7 (.take 8 (.take 9 (.take 10 (.take 11 (.take 12 (.take 13 (.take 14 (.take 15 (.one 16 .nil))))))))))))))))) (by kernel_rfl) (by kernel_rfl) (by decide) (by kernel_rfl) ?_
            repeat (refine wpT_take (v := ?_) rfl rfl (fun x hx => ?_) ?_; rotate_left; (focus (go_simp; with_reducible rfl)); simp only [Act.put, List.setIfInBounds_toArray, List.set_cons_zero, List.set_cons_succ])
            refine wpT_one rfl rfl (fun K hK => ?_)
            go_simp
            refine (refPut_any q sv _ C (y : Int) wr.drew Hw.out.drew (by omega) (by omega)).mono ?_
            rw [Hwy.out, ← Hbits.out]
            rintro e w9 ⟨rfl, sv9, hw9, hf9, hm9⟩
            refine hK _ _ hf9 ?_
            clear hK K kb kl kc
            unfold wpT
            have Hw9 : Hid (RefWr w9 q sv9 (bitsOf l (bs.take (i + 1)))) := hw9
            have Hsv9 : Hid (∀ k, sv9.ownBlock = some k → w8.heap.size ≤ k) := fun k hk => by
              rcases hm9 k hk with h1 | h1
              · exact Hsv.out k h1
              · exact Nat.le_trans Hf9.out.size h1
            have Hf10 : Hid (Fr w8 w9 (fun k => k = q)) := Hf9.out.drew.trans hf9 (fun k hk ht => by
              rcases ht with h1 | h1
              · exact h1
              · have := Hsv.out k h1; omega)
            clear hw9 hf9 hm9
            go_wp2
            go_roundg (n - (i + 1))
            case rel => exact ⟨i + 1, sv9, rfl, by omega, by go_num, Hw9.out, Hsv9.out, Hf10.out⟩
            case measure => rw [Hg2.out]; omega
          · have hi1 : ¬ (i : Int) < (n : Int) := by omega
            have hti : bs.take i = bs := List.take_of_length_le (by rw [← Hn.out]; omega)
            rw [hti] at Hw hbl
            clear hti
            go_wp2_with fail
            refine (refBytes_any q sv _ wr Hw.out (by omega)).mono ?_
            rintro e w9 ⟨v9, rfl, hv9, -, hf9⟩
            have hq8 : q < w8.heap.size := lt_of_block Hw8.out.1
            have ho9 : Own w9 v6 (enc n ++ headOf l) := ((Ho6.out.frame Hf8.out (fun _ _ h => h)).frame Hf9.out (fun k hk h2 => by have := Hvq.out k hk; omega)).frame hf9 (fun _ _ h => h)
            have hlp := length_pack (bitsOf l bs)
            have hlh : (enc n ++ headOf l).length ≤ 2000 := by
              have h1 := enc_le n (by omega)
              have h2 := rowsTo_small l H15.out 256 (Nat.le_refl _)
              have h3 := enc_le (someTo l 256) (by have := someTo_le l 256; omega)
              unfold headOf
              rw [List.length_append, List.length_append]
              omega
            obtain ⟨v10, w10, hrun10, ho10, hf10, hm10, -⟩ := app_bytes w9 v6 v9 _ _ ho9 hv9.own.reads (by omega)
            have Hres : Hid (Own w10 v10 (hput bs)) := by rw [Hput.out, ← List.append_assoc]; exact ho10
            have hf69 : Fr w6 w9 (fun _ => False) := (Hf8.out.newer Hf9.out (fun k hk => by rw [hk]; exact Hnq.out q (.inl rfl))).none hf9
            have Hfo : Hid (Fr w w10 (fun _ => False)) := (Hf6.out.none hf69).newer hf10 Hn6.out
            have Hno : Hid (∀ k, v10.ownBlock = some k → w.heap.size ≤ k) := fun k hk => by
              rcases hm10 k hk with h1 | h1
              · exact Hn6.out k h1
              · have := Hf6.out.size; have := hf69.size; omega
            clear hv9 ho9 hlp hlh ho10 hf10 hm10 hf9 hf69 hq8
            go_wp2_with (at_builtin; refine wpList_append_run rfl (.tmp 85) (.tmp 87) 22 rfl rfl rfl hrun10 ?_)
            go_ret
            exact ⟨_, rfl, Hres.out, Hfo.out, Hno.out⟩

end Go.Proofs.Ytclfbdfgmeliaaa

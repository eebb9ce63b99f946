/-
  The contract of the reference's Lengths.
-/
import Derived.Test.YtclfbdfgmeliaaaRMerged
import Derived.Test.YtclfbdfgmeliaaaRInts
import Derived.Test.YtclfbdfgmeliaaaPTally
import Derived.Test.YtclfbdfgmeliaaaFRow
namespace Go.Proofs.Ytclfbdfgmeliaaa
open Go.RowKit

theorem ins_at (wt : Nat → Nat) (s : Nat) : ∀ (l : List Nat) (k : Nat), k ≤ l.length → (∀ y ∈ l.take k, wt y ≤ wt s) → (∀ y, l[k]? = some y → wt s < wt y) → insSym wt s l = l.take k ++ s :: l.drop k
  | [], k, hk, _, _ => by simp at hk; subst hk; rfl
  | y :: ys, 0, _, _, h2 => by
    have := h2 y rfl
    rw [insSym, if_pos this]
    rfl
  | y :: ys, k + 1, hk, h1, h2 => by
    have h0 := h1 y (by simp)
    rw [insSym, if_neg (by omega), ins_at wt s ys k (by simpa using hk) (fun z hz => h1 z (by simp [hz])) (fun z hz => h2 z (by simpa using hz))]
    simp
theorem take_le (wt : Nat → Nat) (l : List Nat) (h : l.Pairwise fun a b => wt a ≤ wt b) (k y X : Nat) (hy : l[k]? = some y) (hle : wt y ≤ X) : ∀ x ∈ l.take (k + 1), wt x ≤ X := by
  intro x hx
  obtain ⟨hk, rfl⟩ := List.getElem?_eq_some_iff.1 hy
  obtain ⟨j, hj⟩ := List.mem_iff_getElem?.1 hx
  rw [List.getElem?_take] at hj
  split at hj
  · obtain ⟨hj2, rfl⟩ := List.getElem?_eq_some_iff.1 hj
    rcases Nat.lt_or_ge j k with hjk | hjk
    · have := List.pairwise_iff_getElem.1 h j k hj2 hk hjk
      omega
    · have : j = k := by omega
      subst this
      exact hle
  · cases hj
theorem RdI.take {wt : Nat → Nat} {w : World} {ao : Option Addr} {len cap : Nat} {ps : List Pk} (h : RdI wt w (.slice ao len cap) ps) (hl : ps.length = len) (n : Nat) (hn : n ≤ len) : RdI wt w (.slice ao n cap) (ps.take n) := by
  subst hl
  refine ⟨?_, fun p hp => h.2 p (List.mem_of_mem_take hp)⟩
  have := HoldsN.take h.1 n hn
  rw [List.length_take, Nat.min_eq_left hn, ← irow_take]
  exact this
/-- A coin in memory. -/
theorem coin_at {ps : List Pk} {l : List Nat} (h : fsts ps = coin l) {j : Nat} {p : Pk} (hp : ps[j]? = some p) : ∃ s, l[j]? = some s ∧ p.1 = [s] := by
  have h1 : (fsts ps)[j]? = some p.1 := fsts_get hp
  rw [h, coin, List.getElem?_map] at h1
  cases hl : l[j]? with
  | none => rw [hl] at h1; simp at h1
  | some s => rw [hl] at h1; simp at h1; exact ⟨s, rfl, h1.symm⟩

theorem infoIntR : (Try.prog.info? 3).map (fun i => (i.zero, i.size, i.bytes)) = some (some (.int .i64 0), 1, 8) := by kernel_rfl

theorem RdI.frame {wt : Nat → Nat} {w w' : World} {v : Value} {ps : List Pk} {S : Nat → Prop} (h : RdI wt w v ps) (f : Fr w w' S) (hs : ∀ k, v.ownBlock = some k → ¬ S k) (hg : ∀ p ∈ ps, ∀ k, p.2.ownBlock = some k → 0 < p.1.length → ¬ S k) : RdI wt w' v ps :=
  ⟨h.1.frame f (fun _ => hs), fun p hp => (h.2 p hp).frame' f (fun hl k hk => hg p hp k hk hl)⟩

set_option maxRecDepth 4000 in
set_option maxHeartbeats 4000000 in
theorem refLens_own (v : Value) (zs : List Int) (most : Int) (w : World) (h : ReadsZ w v zs) (hm1 : -9223372036854775808 ≤ most) (hm2 : most ≤ 9223372036854775807) :
    Calls Try.prog 18 #[v, .int .i64 most] w fun e w' => ∃ sv, e = .returned sv ∧ OwnN w' sv (pmLens (zs.map clampN) (clampM most)) ∧ Fr w w' (fun _ => False) ∧ (∀ k, sv.ownBlock = some k → w.heap.size ≤ k) := by
  obtain ⟨a0, c0, rfl, hc0⟩ := h.form
  have Hz : Hid (ReadsZ w (.slice a0 zs.length c0) zs) := h
  obtain ⟨n, hn⟩ : ∃ n, n = zs.length := ⟨_, rfl⟩
  rw [← hn] at Hz hc0 ⊢
  have Hn : Hid _ := hn
  clear h hn
  obtain ⟨L, hL⟩ : ∃ L, L = clampM most := ⟨_, rfl⟩
  rw [← hL]
  have HL : Hid ((L : Int) = min (max most 1) 15) := by show _ = _; rw [hL]; unfold clampM; omega
  clear hL
  have hL1 : 1 ≤ L := by have := HL.out; omega
  have hL15 : L ≤ 15 := by have := HL.out; omega
  obtain ⟨wt, hwt⟩ : ∃ wt, wt = cnt (zs.map clampN) := ⟨_, rfl⟩
  have Hwt : Hid _ := hwt
  have Hth : Hid (there (zs.map clampN) = symsTo wt n) := by show _ = _; unfold there; rw [← hwt, List.length_map, Hn.out]
  clear hwt
  go_enter Try.func18, Try.ntmps18
  go_upto_region 1 with fail
  go_cut [1] from 15 to 17 (fun M wx => M = .int .i64 (L : Int) ∧ wx = w)
  case first =>
    go_wp2_with fail
    all_goals
      go_meet
      case rel => exact ⟨by have := HL.out; first | (rw [this]; done) | (congr 1; omega), rfl⟩
  case rest =>
    obtain ⟨rfl, rfl⟩ := hcut
    by_cases h256 : 256 < n
    · have He : Hid (pmLens (zs.map clampN) L = []) := by
        show _ = _
        unfold pmLens
        rw [if_pos (by rw [List.length_map, ← Hn.out]; exact .inl h256)]
      go_wp2_with fail
      go_ret
      refine ⟨_, rfl, ?_, Fr.refl _ _, fun k hk => by simp [Value.ownBlock] at hk⟩
      rw [He.out]
      exact OwnN.nil _
    · go_wp2_with fail
      go_loopg [5, 6] n (fun g S I wr => ∃ (i : Nat) (ps : List Pk), g = n - i ∧ i ≤ n ∧ I = .int .i64 (i : Int) ∧ OwnI wt wr S ps ∧ fsts ps = coin (symsTo wt i) ∧ ps.length ≤ i ∧ Fr wc wr (fun _ => False) ∧ Off S ps ∧ (∀ k, S.ownBlock = some k → wc.heap.size ≤ k))
      case atStart => exact ⟨0, [], rfl, by omega, rfl, OwnI.nil _ _, rfl, Nat.le_refl _, Fr.refl _ _, fun p hp => (by cases hp), fun k hk => (by simp [Value.ownBlock] at hk)⟩
      case round =>
        obtain ⟨i, ps, hg, hi, rfl, ho, hps, hpl, hf, hoff, hnew⟩ := hrel
        have Hg : Hid _ := hg
        have Ho : Hid (OwnI wt wr u5 ps) := ho
        have Hps : Hid _ := hps
        have Hoff : Hid _ := hoff
        have Hnew : Hid _ := hnew
        clear hg hps hoff hnew
        obtain ⟨a5, c5, rfl, hc5⟩ := ho.rd.form
        obtain ⟨m, hm⟩ : ∃ m, m = ps.length := ⟨_, rfl⟩
        rw [← hm] at Ho Hoff Hnew hpl hc5 ⊢
        have Hm : Hid _ := hm
        clear ho hm
        by_cases hlt : i < n
        · obtain ⟨x, hx⟩ : ∃ x, zs[i]? = some x := ⟨_, List.getElem?_eq_getElem (by rw [← Hn.out]; exact hlt)⟩
          obtain ⟨b, off, cp, e, hb0, kx⟩ := (Hz.out.keep hf).get i x hx
          simp only [Value.slice.injEq] at e
          obtain ⟨rfl, -, rfl⟩ := e
          have cx := kx wr (Fr.refl _ _)
          have hwi : wt i = clampN x := by
            rw [Hwt.out]
            unfold cnt
            rw [List.getD_eq_getElem?_getD, List.getElem?_map, hx]
            rfl
          have hi1 : (i : Int) < (n : Int) := by omega
          clear kx hx
          go_wp2_with fail
          refine (refClamp_any _ _).mono ?_
          rintro e w' ⟨rfl, rfl⟩
          rw [← hwi]
          obtain ⟨c, hc⟩ : ∃ c, c = wt i := ⟨_, rfl⟩
          have hcb : c ≤ 1099511627776 := by rw [hc, hwi]; exact clampN_le x
          rw [← hc]
          have Hc : Hid _ := hc
          clear hwi hc
          by_cases h0 : c = 0
          · subst h0
            have Hs : Hid (symsTo wt (i + 1) = symsTo wt i) := by show _ = _; rw [symsTo, if_pos Hc.out.symm]
            go_wp2_with fail
            go_roundg (n - (i + 1))
            case rel => exact ⟨i + 1, ps, rfl, by omega, by go_num, Ho.out.keep (((Fr.refl w' _).alloc _).alloc _), by rw [Hs.out]; exact Hps.out, by have := Hm.out; omega, (hf.alloc _).alloc _, Hoff.out, Hnew.out⟩
            case measure => rw [Hg.out]; omega
          · have h0' : ((c : Int) == 0) = false := by rw [beq_eq_false_iff_ne]; omega
            obtain ⟨G, hG⟩ : ∃ G, G = w'.heap.size := ⟨_, rfl⟩
            have HG : Hid _ := hG
            clear hG
            go_wp2_with fail
            rw [← HG.out]
            have Hyz : Hid (Reads .i64 ((w'.alloc (.cells #[.int .i64 (i : Int)] 3)).alloc (.cells #[.int .i64 (c : Int), .slice (some ⟨G, 0, none⟩) 1 1] 71)) (.slice (some ⟨G, 0, none⟩) 1 1) [i]) := by
              have := holds_lit w' 3 [.int .i64 (i : Int)] (by simp)
              rw [← HG.out] at this
              exact Holds.keep this ((Fr.refl _ _).alloc _)
            have Hbz : Hid (((w'.alloc (.cells #[.int .i64 (i : Int)] 3)).alloc (.cells #[.int .i64 (c : Int), .slice (some ⟨G, 0, none⟩) 1 1] 71)).heap[G + 1]? = some (.cells #[.int .i64 (c : Int), .slice (some ⟨G, 0, none⟩) 1 1] 71 (0, 0))) := by
              have := heap_alloc_new (w'.alloc (.cells #[.int .i64 (i : Int)] 3)) (.cells #[.int .i64 (c : Int), .slice (some ⟨G, 0, none⟩) 1 1] 71)
              rw [World.size_alloc, ← HG.out] at this
              exact this
            have HGz : Hid (((w'.alloc (.cells #[.int .i64 (i : Int)] 3)).alloc (.cells #[.int .i64 (c : Int), .slice (some ⟨G, 0, none⟩) 1 1] 71)).heap.size = G + 2) := by
              show _ = _
              rw [World.size_alloc, World.size_alloc, HG.out]
            have Hoz : Hid (OwnI wt ((w'.alloc (.cells #[.int .i64 (i : Int)] 3)).alloc (.cells #[.int .i64 (c : Int), .slice (some ⟨G, 0, none⟩) 1 1] 71)) (.slice a5 m c5) ps) := Ho.out.keep (((Fr.refl w' _).alloc _).alloc _)
            have hfz : Fr wc ((w'.alloc (.cells #[.int .i64 (i : Int)] 3)).alloc (.cells #[.int .i64 (c : Int), .slice (some ⟨G, 0, none⟩) 1 1] 71)) (fun _ => False) := (hf.alloc _).alloc _
            have HGw : Hid (wc.heap.size ≤ G) := by show _ ≤ _; rw [HG.out]; exact hf.size
            generalize ((w'.alloc (.cells #[.int .i64 (i : Int)] 3)).alloc (.cells #[.int .i64 (c : Int), .slice (some ⟨G, 0, none⟩) 1 1] 71)) = wz at Hyz Hbz HGz Hoz hfz ⊢
            have Hml : Hid (m = (symsTo wt i).length) := by
              show _ = _
              have e1 : (fsts ps).length = (coin (symsTo wt i)).length := by rw [Hps.out]
              unfold fsts at e1
              rw [List.length_map, coin_length] at e1
              rw [Hm.out]
              exact e1
            clear cx hf HG
            go_loopg [8] m (fun g K wi => ∃ k : Nat, g = k ∧ k ≤ m ∧ K = .int .i64 (k : Int) ∧ (∀ y, (symsTo wt i)[k]? = some y → c < wt y) ∧ Fr wz wi (fun _ => False))
            case atStart => exact ⟨m, rfl, Nat.le_refl _, rfl, fun y hy => (by rw [List.getElem?_eq_none (by rw [← Hml.out]; exact Nat.le_refl _)] at hy; cases hy), Fr.refl _ _⟩
            case round =>
              obtain ⟨k, hgk, hk, rfl, hdk, hfi⟩ := hrel
              have Hgk : Hid _ := hgk
              have Hdk : Hid _ := hdk
              clear hgk hdk
              have hw : ∀ x, Fr wr.drew x (fun _ => False) → x.cell? ⟨G + 1, 0, none⟩ = some (.int .i64 (c : Int)) := fun x hx => two_cell0 ((hfi.none ((Fr.refl wr (fun _ => False)).drew.none hx)).kept Hbz.out (fun h => h))
              by_cases hk0 : k = 0
              · have Htk : Hid (∀ y ∈ (symsTo wt i).take k, wt y ≤ c) := fun y hy => by rw [hk0] at hy; simp at hy
                have hd1 : ¬ (0 : Int) < (k : Int) := by omega
                have hd2 : decide ((0 : Int) < (k : Int)) = false := decide_eq_false hd1
                have hd4 : decide (0 < k) = false := decide_eq_false (by omega)
                clear hk0
                go_wp2_with fail
                refine wp_region_all (fun _ => False) [.c ?_, .c ?_, .c ?_, .c ?_, .c ?_, .c ?_, .c ?_, .c ?_, .c ?_, .c ?_, .c ?_, .c ?_, .c ?_] (by kernel_rfl) (by kernel_rfl) rfl ?last ?walk
                case last => repeat (first | exact Lasts.nil | refine Lasts.c ?_)
                case walk =>
                  repeat (first | (refine wpAll_take rfl rfl (fun x hx => ?_) ?_; (focus (go_simp; with_reducible rfl)); simp only [Act.put, List.setIfInBounds_toArray, List.set_cons_zero, List.set_cons_succ]) | (refine wpAll_pass rfl rfl ?_ ?_; (focus rfl); simp only [Act.put, List.setIfInBounds_toArray, List.set_cons_zero, List.set_cons_succ]))
                  refine wpAll_nil (fun wx hfx _ => ?_)
                  replace hfx : Fr wr wx (fun _ => False) := (Fr.refl wr (fun _ => False)).drew.none hfx
                  replace hfx := hfi.none hfx
                  clear hd1 hd2 hd4 hw hfi
                  have hox := Hoz.out.keep hfx
                  have hyx := Hyz.out.keep hfx
                  have hbx := hfx.kept Hbz.out (fun h => h)
                  have hwx := hfz.none hfx
                  have hsz := hfx.size
                  have hGx : G < wx.heap.size := by have := HGz.out; omega
                  have hbc0 : ∀ x, Fr wx.drew x (fun j => wx.heap.size ≤ j) → x.cell? ⟨G + 1, 0, none⟩ = some (.int .i64 (c : Int)) := fun x hx => two_cell0 (hx.kept (b := G + 1) (o := .cells #[.int .i64 (c : Int), .slice (some ⟨G, 0, none⟩) 1 1] 71 (0, 0)) hbx (fun h => by have := lt_of_block hbx; omega))
                  have hbc1 : ∀ x, Fr wx.drew x (fun j => wx.heap.size ≤ j) → x.cell? ⟨G + 1, 1, none⟩ = some (.slice (some ⟨G, 0, none⟩) 1 1) := fun x hx => two_cell1 (hx.kept (b := G + 1) (o := .cells #[.int .i64 (c : Int), .slice (some ⟨G, 0, none⟩) 1 1] 71 (0, 0)) hbx (fun h => by have := lt_of_block hbx; omega))
                  have Hold : Hid (∀ p ∈ ps ++ [([i], Value.slice (some ⟨G, 0, none⟩) 1 1)], ∀ j, p.2.ownBlock = some j → 0 < p.1.length → j < wx.heap.size) := fun p hp j hj hl => by
                    rcases List.mem_append.1 hp with h | h
                    · exact good_older hox.2 p h j hj hl
                    · simp at h
                      subst h
                      simp [Value.ownBlock] at hj
                      omega
                  have Hsub : Hid (∀ p ∈ ps.take k ++ [([i], Value.slice (some ⟨G, 0, none⟩) 1 1)] ++ ps.drop k, p ∈ ps ++ [([i], Value.slice (some ⟨G, 0, none⟩) 1 1)]) := fun p hp => by
                    rcases List.mem_append.1 hp with h | h
                    · rcases List.mem_append.1 h with h | h
                      · exact List.mem_append_left _ (List.mem_of_mem_take h)
                      · exact List.mem_append_right _ h
                    · exact List.mem_append_left _ (List.mem_of_mem_drop h)
                  have Hox : Hid (OwnI wt wx (.slice a5 m c5) ps) := hox
                  have Hyx : Hid (Reads .i64 wx (.slice (some ⟨G, 0, none⟩) 1 1) [i]) := hyx
                  have Hfin : Hid (fsts (ps.take k ++ [([i], Value.slice (some ⟨G, 0, none⟩) 1 1)] ++ ps.drop k) = coin (symsTo wt (i + 1))) := by
                    show _ = _
                    rw [symsTo, if_neg (by rw [← Hc.out]; exact h0), ins_at wt i (symsTo wt i) k (by rw [← Hml.out]; exact hk) (fun y hy => by rw [← Hc.out]; exact Htk.out y hy) (fun y hy => by rw [← Hc.out]; exact Hdk.out y hy)]
                    have e1 : fsts (ps.take k) = (coin (symsTo wt i)).take k := by rw [← Hps.out]; unfold fsts; rw [List.map_take]
                    have e2 : fsts (ps.drop k) = (coin (symsTo wt i)).drop k := by rw [← Hps.out]; unfold fsts; rw [List.map_drop]
                    unfold fsts at e1 e2 ⊢
                    rw [List.map_append, List.map_append, e1, e2]
                    simp [coin]
                  have hTm : ∀ {a b : World} {S : Nat → Prop}, Fr a b S → (∀ j, S j → wx.heap.size ≤ j) → Fr a b (fun j => wx.heap.size ≤ j) := fun h hs => h.mono (fun j _ hj => hs j hj)
                  have hkc : (k : Int) ≤ (c5 : Int) := by omega
                  have hkm : (k : Int) ≤ (m : Int) := by omega
                  clear hox hyx hbx hfx
                  go_wp2_with fail
                  refine wp_region_tree (fun j => wx.heap.size ≤ j) (.take 0 (.take 1 (.take 2 (.take 4 (.take 7 (.take 8 (.take 9 (.two 3 (.one 5 (.one 6 (.one 10 (.take 11 .nil)))) 5 (.one 3 (.one 6 (.one 10 (.take 11 .nil)))))))))))) (by kernel_rfl) (by kernel_rfl) (by decide) (by kernel_rfl) ?_
                  repeat (refine wpT_take (v := ?_) rfl rfl (fun x hx => ?_) ?_; rotate_left; (focus (go_simp; with_reducible rfl)); simp only [Act.put, List.setIfInBounds_toArray, List.set_cons_zero, List.set_cons_succ])
                  have hrx := Hox.out.rd
                  have htake := RdI.take hrx Hm.out.symm k hk
                  have hdrop := RdI.drop hrx Hm.out.symm k hk
                  refine wpT_two rfl rfl rfl rfl (fun K hK => ?_) (fun K hK => ?_)
                  · obtain ⟨v1, z1, hrun1, ho1, hf1, hm1⟩ := app_items wt wx.drew (.slice none 0 0) (.slice a5 k c5) [] (ps.take k) (OwnI.nil _ _) (htake.keep (Fr.refl wx _).drew) (by simp; omega) (fun p hp j hj hl => by simp [Value.ownBlock])
                    rw [List.nil_append] at ho1
                    have hv1 : ∀ j, v1.ownBlock = some j → wx.heap.size ≤ j := fun j hj => by
                      rcases hm1 j hj with h | h
                      · simp [Value.ownBlock] at h
                      · exact h
                    have hf1' : Fr wx z1 (fun _ => False) := (Fr.refl wx (fun _ => False)).drew.trans hf1 (fun j _ h => by simp [Value.ownBlock] at h)
                    refine op_append_run (.const (.slice none 0 0)) (.tmp 57) 68 rfl rfl rfl hrun1 ?_
                    refine hK _ _ (hTm hf1 (fun j h => by simp [Value.ownBlock] at h)) ?_
                    clear hK K
                    simp only [Act.put, List.setIfInBounds_toArray, List.set_cons_zero, List.set_cons_succ]
                    refine wpT_one rfl rfl (fun K hK => ?_)
                    go_simp
                    refine hK _ _ (hTm ((Fr.refl z1 (fun _ => False)).alloc _) (fun j h => h.elim)) ?_
                    clear hK K
                    have hlit : RdI wt (z1.alloc (.cells #[.int .i64 (c : Int), .slice (some ⟨G, 0, none⟩) 1 1] 71)) (.slice (some ⟨z1.heap.size, 0, none⟩) 1 1) [([i], .slice (some ⟨G, 0, none⟩) 1 1)] := by
                      refine ⟨?_, fun p hp => ?_⟩
                      · have h1 := holdsN_lit 2 z1 71 1 (irow wt [([i], .slice (some ⟨G, 0, none⟩) 1 1)]) (by simp [irow]) (by omega)
                        have e1 : (irow wt [([i], .slice (some ⟨G, 0, none⟩) 1 1)]).toArray = #[.int .i64 (c : Int), .slice (some ⟨G, 0, none⟩) 1 1] := by simp [irow, W_one, Hc.out]
                        rw [e1] at h1
                        exact h1
                      · simp at hp
                        subst hp
                        exact Hyx.out.keep (hf1'.alloc _)
                    have hf1a : Fr wx (z1.alloc (.cells #[.int .i64 (c : Int), .slice (some ⟨G, 0, none⟩) 1 1] 71)) (fun _ => False) := hf1'.alloc _
                    have ho1a := ho1.keep ((Fr.refl z1 (fun _ => False)).alloc (.cells #[.int .i64 (c : Int), .slice (some ⟨G, 0, none⟩) 1 1] 71))
                    generalize hw0 : z1.alloc (.cells #[.int .i64 (c : Int), .slice (some ⟨G, 0, none⟩) 1 1] 71) = w0 at hf1a hlit ho1a ⊢
                    obtain ⟨v2, z2, hrun2, ho2, hf2, hm2⟩ := app_items wt w0 v1 _ (ps.take k) [([i], .slice (some ⟨G, 0, none⟩) 1 1)] ho1a hlit (by simp; omega) (fun p hp j hj hl h => by
                      have := Hold.out p (Hsub.out p (List.mem_append_left _ hp)) j hj hl
                      have := hv1 j h
                      omega)
                    have hv2 : ∀ j, v2.ownBlock = some j → wx.heap.size ≤ j := fun j hj => by
                      rcases hm2 j hj with h | h
                      · exact hv1 j h
                      · have := hf1a.size; omega
                    have hf2' : Fr wx z2 (fun _ => False) := hf1a.newer hf2 hv1
                    refine wpT_one rfl rfl (fun K hK => ?_)
                    refine op_append_run (.tmp 58) (.tmp 60) 68 rfl rfl rfl hrun2 ?_
                    refine hK _ _ (hTm hf2 hv1) ?_
                    clear hK K
                    simp only [Act.put, List.setIfInBounds_toArray, List.set_cons_zero, List.set_cons_succ]
                    obtain ⟨v3, z3, hrun3, ho3, hf3, hm3⟩ := app_items wt z2 v2 _ (ps.take k ++ [([i], .slice (some ⟨G, 0, none⟩) 1 1)]) (ps.drop k) ho2 (hdrop.keep hf2') (by have := Hm.out; simp; omega) (fun p hp j hj hl h => by
                      have := Hold.out p (Hsub.out p hp) j hj hl
                      have := hv2 j h
                      omega)
                    refine wpT_one rfl rfl (fun K hK => ?_)
                    refine op_append_run (.tmp 61) (.tmp 64) 68 rfl rfl rfl hrun3 ?_
                    refine hK _ _ (hTm hf3 hv2) ?_
                    clear hK K
                    simp only [Act.put, List.setIfInBounds_toArray, List.set_cons_zero, List.set_cons_succ]
                    repeat (refine wpT_take (v := ?_) rfl rfl (fun x hx => ?_) ?_; rotate_left; (focus (go_simp; with_reducible rfl)); simp only [Act.put, List.setIfInBounds_toArray, List.set_cons_zero, List.set_cons_succ])
                    have hv3 : ∀ j, v3.ownBlock = some j → wx.heap.size ≤ j := fun j hj => by
                      rcases hm3 j hj with h | h
                      · exact hv2 j h
                      · have := hf2'.size; omega
                    unfold wpT
                    go_wp2_with fail
                    all_goals
                      go_roundg (n - (i + 1))
                      case rel => exact ⟨i + 1, _, rfl, by omega, by go_num, ho3, Hfin.out, by simp; have := Hm.out; omega, hwx.none (hf2'.newer hf3 hv2), fun p hp j hj hl h => by
                          have := Hold.out p (Hsub.out p hp) j hj hl
                          have := hv3 j h
                          omega, fun j hj => by have := hv3 j hj; have := hwx.size; omega⟩
                      case measure => rw [Hg.out]; omega
                  · go_simp
                    refine hK _ _ (hTm ((Fr.refl wx.drew (fun _ => False)).alloc _) (fun j h => h.elim)) ?_
                    clear hK K
                    have hf0 : Fr wx (wx.alloc (.cells #[.int .i64 (c : Int), .slice (some ⟨G, 0, none⟩) 1 1] 71)).drew (fun _ => False) := ((Fr.refl wx (fun _ => False)).alloc _).drew
                    have hlit : RdI wt (wx.alloc (.cells #[.int .i64 (c : Int), .slice (some ⟨G, 0, none⟩) 1 1] 71)).drew (.slice (some ⟨wx.heap.size, 0, none⟩) 1 1) [([i], .slice (some ⟨G, 0, none⟩) 1 1)] := by
                      refine ⟨?_, fun p hp => ?_⟩
                      · have h1 := holdsN_lit 2 wx 71 1 (irow wt [([i], .slice (some ⟨G, 0, none⟩) 1 1)]) (by simp [irow]) (by omega)
                        have e1 : (irow wt [([i], .slice (some ⟨G, 0, none⟩) 1 1)]).toArray = #[.int .i64 (c : Int), .slice (some ⟨G, 0, none⟩) 1 1] := by simp [irow, W_one, Hc.out]
                        rw [e1] at h1
                        exact h1.keep (Fr.refl _ _).drew
                      · simp at hp
                        subst hp
                        exact Hyx.out.keep hf0
                    generalize hw0 : (wx.alloc (.cells #[.int .i64 (c : Int), .slice (some ⟨G, 0, none⟩) 1 1] 71)).drew = w0 at hf0 hlit ⊢
                    obtain ⟨v1, z1, hrun1, ho1, hf1, hm1⟩ := app_items wt w0 (.slice none 0 0) (.slice a5 k c5) [] (ps.take k) (OwnI.nil _ _) (htake.keep hf0) (by simp; omega) (fun p hp j hj hl => by simp [Value.ownBlock])
                    rw [List.nil_append] at ho1
                    have hv1 : ∀ j, v1.ownBlock = some j → wx.heap.size ≤ j := fun j hj => by
                      rcases hm1 j hj with h | h
                      · simp [Value.ownBlock] at h
                      · have := hf0.size; omega
                    have hf1' : Fr w0 z1 (fun _ => False) := hf1.mono (fun j _ h => by simp [Value.ownBlock] at h)
                    have hf1w := hf0.none hf1'
                    refine wpT_one rfl rfl (fun K hK => ?_)
                    refine op_append_run (.const (.slice none 0 0)) (.tmp 57) 68 rfl rfl rfl hrun1 ?_
                    refine hK _ _ (hTm hf1 (fun j h => by simp [Value.ownBlock] at h)) ?_
                    clear hK K
                    simp only [Act.put, List.setIfInBounds_toArray, List.set_cons_zero, List.set_cons_succ]
                    obtain ⟨v2, z2, hrun2, ho2, hf2, hm2⟩ := app_items wt z1 v1 _ (ps.take k) [([i], .slice (some ⟨G, 0, none⟩) 1 1)] ho1 (hlit.keep hf1') (by simp; omega) (fun p hp j hj hl h => by
                      have := Hold.out p (Hsub.out p (List.mem_append_left _ hp)) j hj hl
                      have := hv1 j h
                      omega)
                    have hv2 : ∀ j, v2.ownBlock = some j → wx.heap.size ≤ j := fun j hj => by
                      rcases hm2 j hj with h | h
                      · exact hv1 j h
                      · have := hf1w.size; omega
                    have hf2' : Fr wx z2 (fun _ => False) := hf1w.newer hf2 hv1
                    refine wpT_one rfl rfl (fun K hK => ?_)
                    refine op_append_run (.tmp 58) (.tmp 60) 68 rfl rfl rfl hrun2 ?_
                    refine hK _ _ (hTm hf2 hv1) ?_
                    clear hK K
                    simp only [Act.put, List.setIfInBounds_toArray, List.set_cons_zero, List.set_cons_succ]
                    obtain ⟨v3, z3, hrun3, ho3, hf3, hm3⟩ := app_items wt z2 v2 _ (ps.take k ++ [([i], .slice (some ⟨G, 0, none⟩) 1 1)]) (ps.drop k) ho2 (hdrop.keep hf2') (by have := Hm.out; simp; omega) (fun p hp j hj hl h => by
                      have := Hold.out p (Hsub.out p hp) j hj hl
                      have := hv2 j h
                      omega)
                    refine wpT_one rfl rfl (fun K hK => ?_)
                    refine op_append_run (.tmp 61) (.tmp 64) 68 rfl rfl rfl hrun3 ?_
                    refine hK _ _ (hTm hf3 hv2) ?_
                    clear hK K
                    simp only [Act.put, List.setIfInBounds_toArray, List.set_cons_zero, List.set_cons_succ]
                    repeat (refine wpT_take (v := ?_) rfl rfl (fun x hx => ?_) ?_; rotate_left; (focus (go_simp; with_reducible rfl)); simp only [Act.put, List.setIfInBounds_toArray, List.set_cons_zero, List.set_cons_succ])
                    have hv3 : ∀ j, v3.ownBlock = some j → wx.heap.size ≤ j := fun j hj => by
                      rcases hm3 j hj with h | h
                      · exact hv2 j h
                      · have := hf2'.size; omega
                    unfold wpT
                    go_wp2_with fail
                    all_goals
                      go_roundg (n - (i + 1))
                      case rel => exact ⟨i + 1, _, rfl, by omega, by go_num, ho3, Hfin.out, by simp; have := Hm.out; omega, hwx.none (hf2'.newer hf3 hv2), fun p hp j hj hl h => by
                          have := Hold.out p (Hsub.out p hp) j hj hl
                          have := hv3 j h
                          omega, fun j hj => by have := hv3 j hj; have := hwx.size; omega⟩
                      case measure => rw [Hg.out]; omega


              · obtain ⟨q, hq⟩ : ∃ q, k = q + 1 := ⟨k - 1, by omega⟩
                obtain ⟨pc, hpc⟩ : ∃ p, ps[q]? = some p := ⟨_, List.getElem?_eq_getElem (by rw [← Hm.out]; omega)⟩
                obtain ⟨sq, hsq, hpq⟩ := coin_at Hps.out hpc
                obtain ⟨b5, o5, cp5, e, cc0, -, -⟩ := (Hoz.out.keep hfi).rd.get q pc hpc
                simp only [Value.slice.injEq] at e
                obtain ⟨rfl, -, rfl⟩ := e
                rw [hpq, W_one] at cc0
                have hb5 : b5 < wr.heap.size := World.block_lt_of_cell? _ _ cc0
                obtain ⟨cq, hcq⟩ : ∃ x, x = wt sq := ⟨_, rfl⟩
                rw [← hcq] at cc0
                have kc : ∀ x, Fr wr.drew x (fun _ => False) → x.cell? ⟨b5, o5 + q * 2, none⟩ = some (.int .i64 (cq : Int)) := fun x hx => by
                  rw [World.cell?_of_block (w := wr) (hx.block b5 hb5 (fun h => h))]
                  exact cc0
                have hkq : IntKind.i64.wrap ((k : Int) - 1) = (q : Int) := by rw [IntWalk.i64_in _ (by omega)]; omega
                have hq1 : (q : Int) < (m : Int) := by omega
                have hq2 : q < m := by omega
                have hd1 : (0 : Int) < (k : Int) := by omega
                have hd2 : decide ((0 : Int) < (k : Int)) = true := decide_eq_true hd1
                have hd4 : decide (0 < k) = true := decide_eq_true (by omega)
                have Hq : Hid _ := hq
                have Hsq : Hid _ := hsq
                have Hcq : Hid _ := hcq
                clear hq hpc hpq cc0 hk0 hsq hcq
                by_cases hle : c < cq
                · have hd3 : decide ((c : Int) < (cq : Int)) = true := decide_eq_true (by omega)
                  have hd5 : decide (c < cq) = true := decide_eq_true hle
                  go_wp2_with fail
                  refine wp_region_all (fun _ => False) [.c ?_, .c ?_, .c ?_, .c ?_, .c ?_, .c ?_, .c ?_, .c ?_, .c ?_, .c ?_, .c ?_, .c ?_, .c ?_] (by kernel_rfl) (by kernel_rfl) rfl ?last ?walk
                  case last => repeat (first | exact Lasts.nil | refine Lasts.c ?_)
                  case walk =>
                    repeat (first | (refine wpAll_take rfl rfl (fun x hx => ?_) ?_; (focus (go_simp; with_reducible rfl)); simp only [Act.put, List.setIfInBounds_toArray, List.set_cons_zero, List.set_cons_succ]) | (refine wpAll_pass rfl rfl ?_ ?_; (focus rfl); simp only [Act.put, List.setIfInBounds_toArray, List.set_cons_zero, List.set_cons_succ]))
                    refine wpAll_nil (fun wx hfx _ => ?_)
                    replace hfx : Fr wr wx (fun _ => False) := (Fr.refl wr (fun _ => False)).drew.none hfx
                    replace hfx := hfi.none hfx
                    go_wp2_with fail
                    go_roundg q
                    case rel => exact ⟨q, rfl, by omega, by first | rfl | rw [hkq], fun y hy => by rw [Hsq.out] at hy; simp only [Option.some.injEq] at hy; rw [← hy, ← Hcq.out]; exact hle, hfx⟩
                    case measure => rw [Hgk.out]; have := Hq.out; omega
                · have hd3 : decide ((c : Int) < (cq : Int)) = false := decide_eq_false (by omega)
                  have hd5 : decide (c < cq) = false := decide_eq_false hle
                  have Htk : Hid (∀ y ∈ (symsTo wt i).take k, wt y ≤ c) := by
                    have := take_le wt (symsTo wt i) (syms_up wt i) q sq c Hsq.out (by rw [← Hcq.out]; omega)
                    rw [← Hq.out] at this
                    exact this
                  go_wp2_with fail
                  refine wp_region_all (fun _ => False) [.c ?_, .c ?_, .c ?_, .c ?_, .c ?_, .c ?_, .c ?_, .c ?_, .c ?_, .c ?_, .c ?_, .c ?_, .c ?_] (by kernel_rfl) (by kernel_rfl) rfl ?last ?walk
                  case last => repeat (first | exact Lasts.nil | refine Lasts.c ?_)
                  case walk =>
                    repeat (first | (refine wpAll_take rfl rfl (fun x hx => ?_) ?_; (focus (go_simp; with_reducible rfl)); simp only [Act.put, List.setIfInBounds_toArray, List.set_cons_zero, List.set_cons_succ]) | (refine wpAll_pass rfl rfl ?_ ?_; (focus rfl); simp only [Act.put, List.setIfInBounds_toArray, List.set_cons_zero, List.set_cons_succ]))
                    refine wpAll_nil (fun wx hfx _ => ?_)
                    replace hfx : Fr wr wx (fun _ => False) := (Fr.refl wr (fun _ => False)).drew.none hfx
                    replace hfx := hfi.none hfx
                    clear hd1 hd2 hd3 hd4 hd5 hw hfi kc hkq hq1 hq2 hb5 hle Hsq Hcq
                    have hox := Hoz.out.keep hfx
                    have hyx := Hyz.out.keep hfx
                    have hbx := hfx.kept Hbz.out (fun h => h)
                    have hwx := hfz.none hfx
                    have hsz := hfx.size
                    have hGx : G < wx.heap.size := by have := HGz.out; omega
                    have hbc0 : ∀ x, Fr wx.drew x (fun j => wx.heap.size ≤ j) → x.cell? ⟨G + 1, 0, none⟩ = some (.int .i64 (c : Int)) := fun x hx => two_cell0 (hx.kept (b := G + 1) (o := .cells #[.int .i64 (c : Int), .slice (some ⟨G, 0, none⟩) 1 1] 71 (0, 0)) hbx (fun h => by have := lt_of_block hbx; omega))
                    have hbc1 : ∀ x, Fr wx.drew x (fun j => wx.heap.size ≤ j) → x.cell? ⟨G + 1, 1, none⟩ = some (.slice (some ⟨G, 0, none⟩) 1 1) := fun x hx => two_cell1 (hx.kept (b := G + 1) (o := .cells #[.int .i64 (c : Int), .slice (some ⟨G, 0, none⟩) 1 1] 71 (0, 0)) hbx (fun h => by have := lt_of_block hbx; omega))
                    have Hold : Hid (∀ p ∈ ps ++ [([i], Value.slice (some ⟨G, 0, none⟩) 1 1)], ∀ j, p.2.ownBlock = some j → 0 < p.1.length → j < wx.heap.size) := fun p hp j hj hl => by
                      rcases List.mem_append.1 hp with h | h
                      · exact good_older hox.2 p h j hj hl
                      · simp at h
                        subst h
                        simp [Value.ownBlock] at hj
                        omega
                    have Hsub : Hid (∀ p ∈ ps.take k ++ [([i], Value.slice (some ⟨G, 0, none⟩) 1 1)] ++ ps.drop k, p ∈ ps ++ [([i], Value.slice (some ⟨G, 0, none⟩) 1 1)]) := fun p hp => by
                      rcases List.mem_append.1 hp with h | h
                      · rcases List.mem_append.1 h with h | h
                        · exact List.mem_append_left _ (List.mem_of_mem_take h)
                        · exact List.mem_append_right _ h
                      · exact List.mem_append_left _ (List.mem_of_mem_drop h)
                    have Hox : Hid (OwnI wt wx (.slice (some ⟨b5, o5, none⟩) m c5) ps) := hox
                    have Hyx : Hid (Reads .i64 wx (.slice (some ⟨G, 0, none⟩) 1 1) [i]) := hyx
                    have Hfin : Hid (fsts (ps.take k ++ [([i], Value.slice (some ⟨G, 0, none⟩) 1 1)] ++ ps.drop k) = coin (symsTo wt (i + 1))) := by
                      show _ = _
                      rw [symsTo, if_neg (by rw [← Hc.out]; exact h0), ins_at wt i (symsTo wt i) k (by rw [← Hml.out]; exact hk) (fun y hy => by rw [← Hc.out]; exact Htk.out y hy) (fun y hy => by rw [← Hc.out]; exact Hdk.out y hy)]
                      have e1 : fsts (ps.take k) = (coin (symsTo wt i)).take k := by rw [← Hps.out]; unfold fsts; rw [List.map_take]
                      have e2 : fsts (ps.drop k) = (coin (symsTo wt i)).drop k := by rw [← Hps.out]; unfold fsts; rw [List.map_drop]
                      unfold fsts at e1 e2 ⊢
                      rw [List.map_append, List.map_append, e1, e2]
                      simp [coin]
                    have hTm : ∀ {a b : World} {S : Nat → Prop}, Fr a b S → (∀ j, S j → wx.heap.size ≤ j) → Fr a b (fun j => wx.heap.size ≤ j) := fun h hs => h.mono (fun j _ hj => hs j hj)
                    have hkc : (k : Int) ≤ (c5 : Int) := by omega
                    have hkm : (k : Int) ≤ (m : Int) := by omega
                    clear hox hyx hbx hfx
                    go_wp2_with fail
                    refine wp_region_tree (fun j => wx.heap.size ≤ j) (.take 0 (.take 1 (.take 2 (.take 4 (.take 7 (.take 8 (.take 9 (.two 3 (.one 5 (.one 6 (.one 10 (.take 11 .nil)))) 5 (.one 3 (.one 6 (.one 10 (.take 11 .nil)))))))))))) (by kernel_rfl) (by kernel_rfl) (by decide) (by kernel_rfl) ?_
                    repeat (refine wpT_take (v := ?_) rfl rfl (fun x hx => ?_) ?_; rotate_left; (focus (go_simp; with_reducible rfl)); simp only [Act.put, List.setIfInBounds_toArray, List.set_cons_zero, List.set_cons_succ])
                    have hrx := Hox.out.rd
                    have htake := RdI.take hrx Hm.out.symm k hk
                    have hdrop : RdI wt wx (.slice (if c5 = k then some ⟨b5, o5, none⟩ else some ⟨b5, o5 + k * 2, none⟩) (m - k) (c5 - k)) (ps.drop k) := by
                      have h1 := RdI.drop hrx Hm.out.symm k hk
                      simp only [Option.map_some, add_none] at h1
                      exact h1
                    refine wpT_two rfl rfl rfl rfl (fun K hK => ?_) (fun K hK => ?_)
                    · obtain ⟨v1, z1, hrun1, ho1, hf1, hm1⟩ := app_items wt wx.drew (.slice none 0 0) (.slice (some ⟨b5, o5, none⟩) k c5) [] (ps.take k) (OwnI.nil _ _) (htake.keep (Fr.refl wx _).drew) (by simp; omega) (fun p hp j hj hl => by simp [Value.ownBlock])
                      rw [List.nil_append] at ho1
                      have hv1 : ∀ j, v1.ownBlock = some j → wx.heap.size ≤ j := fun j hj => by
                        rcases hm1 j hj with h | h
                        · simp [Value.ownBlock] at h
                        · exact h
                      have hf1' : Fr wx z1 (fun _ => False) := (Fr.refl wx (fun _ => False)).drew.trans hf1 (fun j _ h => by simp [Value.ownBlock] at h)
                      refine op_append_run (.const (.slice none 0 0)) (.tmp 57) 68 rfl rfl rfl hrun1 ?_
                      refine hK _ _ (hTm hf1 (fun j h => by simp [Value.ownBlock] at h)) ?_
                      clear hK K
                      simp only [Act.put, List.setIfInBounds_toArray, List.set_cons_zero, List.set_cons_succ]
                      refine wpT_one rfl rfl (fun K hK => ?_)
                      go_simp
                      refine hK _ _ (hTm ((Fr.refl z1 (fun _ => False)).alloc _) (fun j h => h.elim)) ?_
                      clear hK K
                      have hlit : RdI wt (z1.alloc (.cells #[.int .i64 (c : Int), .slice (some ⟨G, 0, none⟩) 1 1] 71)) (.slice (some ⟨z1.heap.size, 0, none⟩) 1 1) [([i], .slice (some ⟨G, 0, none⟩) 1 1)] := by
                        refine ⟨?_, fun p hp => ?_⟩
                        · have h1 := holdsN_lit 2 z1 71 1 (irow wt [([i], .slice (some ⟨G, 0, none⟩) 1 1)]) (by simp [irow]) (by omega)
                          have e1 : (irow wt [([i], .slice (some ⟨G, 0, none⟩) 1 1)]).toArray = #[.int .i64 (c : Int), .slice (some ⟨G, 0, none⟩) 1 1] := by simp [irow, W_one, Hc.out]
                          rw [e1] at h1
                          exact h1
                        · simp at hp
                          subst hp
                          exact Hyx.out.keep (hf1'.alloc _)
                      have hf1a : Fr wx (z1.alloc (.cells #[.int .i64 (c : Int), .slice (some ⟨G, 0, none⟩) 1 1] 71)) (fun _ => False) := hf1'.alloc _
                      have ho1a := ho1.keep ((Fr.refl z1 (fun _ => False)).alloc (.cells #[.int .i64 (c : Int), .slice (some ⟨G, 0, none⟩) 1 1] 71))
                      generalize hw0 : z1.alloc (.cells #[.int .i64 (c : Int), .slice (some ⟨G, 0, none⟩) 1 1] 71) = w0 at hf1a hlit ho1a ⊢
                      obtain ⟨v2, z2, hrun2, ho2, hf2, hm2⟩ := app_items wt w0 v1 _ (ps.take k) [([i], .slice (some ⟨G, 0, none⟩) 1 1)] ho1a hlit (by simp; omega) (fun p hp j hj hl h => by
                        have := Hold.out p (Hsub.out p (List.mem_append_left _ hp)) j hj hl
                        have := hv1 j h
                        omega)
                      have hv2 : ∀ j, v2.ownBlock = some j → wx.heap.size ≤ j := fun j hj => by
                        rcases hm2 j hj with h | h
                        · exact hv1 j h
                        · have := hf1a.size; omega
                      have hf2' : Fr wx z2 (fun _ => False) := hf1a.newer hf2 hv1
                      refine wpT_one rfl rfl (fun K hK => ?_)
                      refine op_append_run (.tmp 58) (.tmp 60) 68 rfl rfl rfl hrun2 ?_
                      refine hK _ _ (hTm hf2 hv1) ?_
                      clear hK K
                      simp only [Act.put, List.setIfInBounds_toArray, List.set_cons_zero, List.set_cons_succ]
                      obtain ⟨v3, z3, hrun3, ho3, hf3, hm3⟩ := app_items wt z2 v2 _ (ps.take k ++ [([i], .slice (some ⟨G, 0, none⟩) 1 1)]) (ps.drop k) ho2 (hdrop.keep hf2') (by have := Hm.out; simp; omega) (fun p hp j hj hl h => by
                        have := Hold.out p (Hsub.out p hp) j hj hl
                        have := hv2 j h
                        omega)
                      refine wpT_one rfl rfl (fun K hK => ?_)
                      refine op_append_run (.tmp 61) (.tmp 64) 68 rfl rfl rfl hrun3 ?_
                      refine hK _ _ (hTm hf3 hv2) ?_
                      clear hK K
                      simp only [Act.put, List.setIfInBounds_toArray, List.set_cons_zero, List.set_cons_succ]
                      repeat (refine wpT_take (v := ?_) rfl rfl (fun x hx => ?_) ?_; rotate_left; (focus (go_simp; with_reducible rfl)); simp only [Act.put, List.setIfInBounds_toArray, List.set_cons_zero, List.set_cons_succ])
                      have hv3 : ∀ j, v3.ownBlock = some j → wx.heap.size ≤ j := fun j hj => by
                        rcases hm3 j hj with h | h
                        · exact hv2 j h
                        · have := hf2'.size; omega
                      unfold wpT
                      go_wp2_with fail
                      all_goals
                        go_roundg (n - (i + 1))
                        case rel => exact ⟨i + 1, _, rfl, by omega, by go_num, ho3, Hfin.out, by simp; have := Hm.out; omega, hwx.none (hf2'.newer hf3 hv2), fun p hp j hj hl h => by
                            have := Hold.out p (Hsub.out p hp) j hj hl
                            have := hv3 j h
                            omega, fun j hj => by have := hv3 j hj; have := hwx.size; omega⟩
                        case measure => rw [Hg.out]; omega
                    · go_simp
                      refine hK _ _ (hTm ((Fr.refl wx.drew (fun _ => False)).alloc _) (fun j h => h.elim)) ?_
                      clear hK K
                      have hf0 : Fr wx (wx.alloc (.cells #[.int .i64 (c : Int), .slice (some ⟨G, 0, none⟩) 1 1] 71)).drew (fun _ => False) := ((Fr.refl wx (fun _ => False)).alloc _).drew
                      have hlit : RdI wt (wx.alloc (.cells #[.int .i64 (c : Int), .slice (some ⟨G, 0, none⟩) 1 1] 71)).drew (.slice (some ⟨wx.heap.size, 0, none⟩) 1 1) [([i], .slice (some ⟨G, 0, none⟩) 1 1)] := by
                        refine ⟨?_, fun p hp => ?_⟩
                        · have h1 := holdsN_lit 2 wx 71 1 (irow wt [([i], .slice (some ⟨G, 0, none⟩) 1 1)]) (by simp [irow]) (by omega)
                          have e1 : (irow wt [([i], .slice (some ⟨G, 0, none⟩) 1 1)]).toArray = #[.int .i64 (c : Int), .slice (some ⟨G, 0, none⟩) 1 1] := by simp [irow, W_one, Hc.out]
                          rw [e1] at h1
                          exact h1.keep (Fr.refl _ _).drew
                        · simp at hp
                          subst hp
                          exact Hyx.out.keep hf0
                      generalize hw0 : (wx.alloc (.cells #[.int .i64 (c : Int), .slice (some ⟨G, 0, none⟩) 1 1] 71)).drew = w0 at hf0 hlit ⊢
                      obtain ⟨v1, z1, hrun1, ho1, hf1, hm1⟩ := app_items wt w0 (.slice none 0 0) (.slice (some ⟨b5, o5, none⟩) k c5) [] (ps.take k) (OwnI.nil _ _) (htake.keep hf0) (by simp; omega) (fun p hp j hj hl => by simp [Value.ownBlock])
                      rw [List.nil_append] at ho1
                      have hv1 : ∀ j, v1.ownBlock = some j → wx.heap.size ≤ j := fun j hj => by
                        rcases hm1 j hj with h | h
                        · simp [Value.ownBlock] at h
                        · have := hf0.size; omega
                      have hf1' : Fr w0 z1 (fun _ => False) := hf1.mono (fun j _ h => by simp [Value.ownBlock] at h)
                      have hf1w := hf0.none hf1'
                      refine wpT_one rfl rfl (fun K hK => ?_)
                      refine op_append_run (.const (.slice none 0 0)) (.tmp 57) 68 rfl rfl rfl hrun1 ?_
                      refine hK _ _ (hTm hf1 (fun j h => by simp [Value.ownBlock] at h)) ?_
                      clear hK K
                      simp only [Act.put, List.setIfInBounds_toArray, List.set_cons_zero, List.set_cons_succ]
                      obtain ⟨v2, z2, hrun2, ho2, hf2, hm2⟩ := app_items wt z1 v1 _ (ps.take k) [([i], .slice (some ⟨G, 0, none⟩) 1 1)] ho1 (hlit.keep hf1') (by simp; omega) (fun p hp j hj hl h => by
                        have := Hold.out p (Hsub.out p (List.mem_append_left _ hp)) j hj hl
                        have := hv1 j h
                        omega)
                      have hv2 : ∀ j, v2.ownBlock = some j → wx.heap.size ≤ j := fun j hj => by
                        rcases hm2 j hj with h | h
                        · exact hv1 j h
                        · have := hf1w.size; omega
                      have hf2' : Fr wx z2 (fun _ => False) := hf1w.newer hf2 hv1
                      refine wpT_one rfl rfl (fun K hK => ?_)
                      refine op_append_run (.tmp 58) (.tmp 60) 68 rfl rfl rfl hrun2 ?_
                      refine hK _ _ (hTm hf2 hv1) ?_
                      clear hK K
                      simp only [Act.put, List.setIfInBounds_toArray, List.set_cons_zero, List.set_cons_succ]
                      obtain ⟨v3, z3, hrun3, ho3, hf3, hm3⟩ := app_items wt z2 v2 _ (ps.take k ++ [([i], .slice (some ⟨G, 0, none⟩) 1 1)]) (ps.drop k) ho2 (hdrop.keep hf2') (by have := Hm.out; simp; omega) (fun p hp j hj hl h => by
                        have := Hold.out p (Hsub.out p hp) j hj hl
                        have := hv2 j h
                        omega)
                      refine wpT_one rfl rfl (fun K hK => ?_)
                      refine op_append_run (.tmp 61) (.tmp 64) 68 rfl rfl rfl hrun3 ?_
                      refine hK _ _ (hTm hf3 hv2) ?_
                      clear hK K
                      simp only [Act.put, List.setIfInBounds_toArray, List.set_cons_zero, List.set_cons_succ]
                      repeat (refine wpT_take (v := ?_) rfl rfl (fun x hx => ?_) ?_; rotate_left; (focus (go_simp; with_reducible rfl)); simp only [Act.put, List.setIfInBounds_toArray, List.set_cons_zero, List.set_cons_succ])
                      have hv3 : ∀ j, v3.ownBlock = some j → wx.heap.size ≤ j := fun j hj => by
                        rcases hm3 j hj with h | h
                        · exact hv2 j h
                        · have := hf2'.size; omega
                      unfold wpT
                      go_wp2_with fail
                      all_goals
                        go_roundg (n - (i + 1))
                        case rel => exact ⟨i + 1, _, rfl, by omega, by go_num, ho3, Hfin.out, by simp; have := Hm.out; omega, hwx.none (hf2'.newer hf3 hv2), fun p hp j hj hl h => by
                            have := Hold.out p (Hsub.out p hp) j hj hl
                            have := hv3 j h
                            omega, fun j hj => by have := hv3 j hj; have := hwx.size; omega⟩
                        case measure => rw [Hg.out]; omega


        · obtain rfl : i = n := by omega
          have hmi : m = (there (zs.map clampN)).length := by
            have e1 : (fsts ps).length = (coin (symsTo wt i)).length := by rw [Hps.out]
            unfold fsts at e1
            rw [List.length_map, coin_length, ← Hth.out] at e1
            rw [Hm.out]
            exact e1
          have HM : Hid _ := hmi
          clear hmi
          obtain ⟨P, hP⟩ : ∃ P, P = 2 ^ L := ⟨_, rfl⟩
          have hPb : P ≤ 32768 := by rw [hP]; exact Nat.le_trans (Nat.pow_le_pow_right (by omega) hL15) (by decide)
          have HP : Hid _ := hP
          have hpw : wrap64 ((2 : Int) ^ L) = (P : Int) := by
            have e1 : (2 : Int) ^ L = ((2 ^ L : Nat) : Int) := by simp
            rw [e1, ← hP, wrap64_small _ (by omega) (by omega)]
          clear hP
          by_cases hmP : P < m
          · have hd : decide ((P : Int) < (m : Int)) = true := by simp; omega
            have He : Hid (pmLens (zs.map clampN) L = []) := by
              show _ = _
              unfold pmLens
              rw [if_pos (by rw [← HM.out, ← HP.out]; exact .inr hmP)]
            go_wp2_with fail
            go_ret
            refine ⟨_, rfl, ?_, hf, fun k hk => by simp [Value.ownBlock] at hk⟩
            rw [He.out]
            exact OwnN.nil _
          · have hd : decide ((P : Int) < (m : Int)) = false := by simp; omega
            have Hpm : Hid (pmLens (zs.map clampN) L = fnRow i (pmLen (zs.map clampN) L)) := by
              show _ = _
              unfold pmLens fnRow
              rw [if_neg (by rw [← HM.out, ← HP.out, List.length_map, ← Hn.out]; omega), List.length_map, ← Hn.out]
            obtain ⟨i0, hi0, hz0, hz1, hz2⟩ := info_parts infoIntR
            go_wp2_with (at_make; refine wpList_make_full _ rfl _ _ 28 rfl 0 3 i0 (.int .i64 0) 1 Try.underlying28 hi0 hz0 hz1 _ _ _ _ i rfl rfl rfl rfl ?b1 ?b2 (Nat.zero_le _) ?_)
            case b1 => rw [hz2]; omega
            case b2 => unfold maxLen; omega
            clear hpw hd
            intro wm hown hgrow
            have hz : (madeCells #[Value.int .i64 0] i).toList = row .i64 (fnRow i (fun _ => 0)) := by
              rw [toList_madeCells_one]
              apply List.ext_getElem?
              intro t
              simp only [row, fnRow, List.map_map, List.getElem?_map]
              by_cases ht : t < i
              · simp [ht]
              · simp [ht]
            rw [hz] at hown
            have hfm : Fr wr wm (fun _ => False) := (Fr.refl wr _).grown hgrow (fun k hk => by cases hk)
            have hfwm := hf.none hfm
            obtain ⟨g, hg⟩ : ∃ g, g = wr.heap.size := ⟨_, rfl⟩
            have Hgw : Hid (wc.heap.size ≤ g) := by show _ ≤ _; have := hf.size; omega
            rw [← hg] at hown ⊢
            have Hown : Hid (OwnC wm (.slice (some ⟨g, 0, none⟩) i i) (fnRow i (fun _ => 0))) := by unfold OwnC; rw [fnRow_length]; exact hown
            have Ho2 : Hid (OwnI wt wm (.slice a5 m c5) ps) := Ho.out.keep hfm
            have Hold : Hid (∀ p ∈ ps, ∀ k, p.2.ownBlock = some k → 0 < p.1.length → k < g) := fun p hp k hk hl => by have := good_older Ho.out.2 p hp k hk hl; omega
            clear hgrow hfm hf hg hown hz Ho hi0 hz0 hz1 hz2
            rcases (by omega : m = 0 ∨ m = 1 ∨ 2 ≤ m) with hm0 | hm1 | hm2
            · have Hr : Hid (fnRow i (pmLen (zs.map clampN) L) = fnRow i (fun _ => 0)) := by
                show _ = _
                have e0 : there (zs.map clampN) = [] := List.eq_nil_of_length_eq_zero (by rw [← HM.out]; exact hm0)
                congr 1
                funext s
                have h1 := (there_mem (zs.map clampN) s)
                have hs := (pmLen_pos (counts := zs.map clampN) (L := L) hL1 (by rw [e0]; simp) s).1
                rw [e0] at h1
                simp at h1
                omega
              subst hm0
              go_wp2_with fail
              go_ret
              refine ⟨_, rfl, ?_, hfwm, fun k hk => by simp [Value.ownBlock] at hk; rw [← hk]; exact Hgw.out⟩
              rw [Hpm.out, Hr.out]
              exact Hown.out
            · obtain ⟨s0, hs0⟩ : ∃ s, there (zs.map clampN) = [s] := List.length_eq_one_iff.1 (by rw [← HM.out]; exact hm1)
              have hsn : s0 < i := by
                have h1 : s0 ∈ there (zs.map clampN) := by rw [hs0]; simp
                unfold there at h1
                have := ((syms_mem _ _ _).1 h1).1
                rw [List.length_map, ← Hn.out] at this
                exact this
              have Hr : Hid ((fnRow i (fun _ => 0)).set s0 1 = fnRow i (pmLen (zs.map clampN) L)) := by
                show _ = _
                refine fnRow_set i _ _ s0 1 ?_ ?_
                · unfold pmLen
                  rw [if_pos (by rw [hs0]; rfl), if_neg ((there_mem _ _).1 (by rw [hs0]; simp))]
                · intro t ht
                  unfold pmLen
                  rw [if_pos (by rw [hs0]; rfl), if_pos]
                  have := (there_mem (zs.map clampN) t)
                  rw [hs0] at this
                  simp only [List.mem_singleton] at this
                  by_cases h0 : cnt (zs.map clampN) t = 0
                  · exact h0
                  · exact absurd (this.2 h0) ht
              obtain ⟨p, hp⟩ : ∃ p, ps = [p] := List.length_eq_one_iff.1 (by rw [← Hm.out]; exact hm1)
              have hp1 : p.1 = [s0] := by
                have := Hps.out
                rw [hp, ← Hth.out, hs0] at this
                simpa [fsts, coin] using this
              have ho := Ho2.out.rd
              rw [hp] at ho
              obtain ⟨b, off, cp, e, cc0, cc1, hrd⟩ := RdI.get ho 0 p rfl
              simp only [Value.slice.injEq] at e
              obtain ⟨rfl, -, rfl⟩ := e
              rw [hp1] at hrd
              obtain ⟨ay, cy, hey, hcy, hcl⟩ := hrd
              obtain ⟨by_, oy, rfl, hcell⟩ := hcl (by simp [row])
              have cs0 := hcell 0 _ (row_get .i64 [s0] 0 (by simp))
              rw [hey, Nat.zero_mul, Nat.add_zero] at cc1
              simp only [row, List.map_cons, List.map_nil, List.length_cons, List.length_nil, Nat.zero_add, List.getD_cons_zero, Nat.add_zero] at cc1 cs0 hcy
              have hoc := Hown.out
              unfold OwnC at hoc
              rw [fnRow_length] at hoc
              have hfz := World.ownsRow.frozenAt hoc s0
              have hce : wm.cell? ⟨g, s0, none⟩ = some (.int .i64 0) := by
                rw [World.ownsRow.cellAt hoc s0 (by omega)]
                simp [row, fnRow, hsn]
              have Hst : Hid (OwnC (wm.setCell ⟨g, s0, none⟩ (.int .i64 1)) (.slice (some ⟨g, 0, none⟩) i i) (fnRow i (pmLen (zs.map clampN) L))) := by
                have := (World.ownsRow.stored hoc s0 (.int .i64 ((1 : Nat) : Int))).1
                unfold OwnC
                rw [fnRow_length, ← Hr.out, row_set]
                exact this
              have hs1 : (s0 : Int) < (i : Int) := by omega
              clear ho hoc hs0 hp hp1 hey hcl hcell
              subst hm1
              go_wp2_with fail
              go_ret
              refine ⟨_, rfl, ?_, hfwm.setCell ⟨g, s0, none⟩ (fun h => by have := Hgw.out; simp at h; omega) _, fun k hk => by simp [Value.ownBlock] at hk; rw [← hk]; exact Hgw.out⟩
              rw [Hpm.out]
              exact Hst.out
            · have hb1 : ((m : Int) == 1) = false := by rw [beq_eq_false_iff_ne]; omega
              have hb2 : decide ((m : Int) < 2) = false := decide_eq_false (by omega)
              have hmn : m ≤ i := by have := Hm.out; omega
              have Hw40 : Hid (∀ s, wt s ≤ 1099511627776) := fun s => by
                rw [Hwt.out]
                unfold cnt
                rw [List.getD_eq_getElem?_getD, List.getElem?_map]
                cases zs[s]? with
                | none => simp
                | some z => exact clampN_le z
              have Hcs : Hid (fsts ps = coin (there (zs.map clampN))) := by show _ = _; rw [Hth.out]; exact Hps.out
              obtain ⟨cs, hcs⟩ : ∃ cs, cs = there (zs.map clampN) := ⟨_, rfl⟩
              rw [← hcs] at Hcs HM
              have Hcsd : Hid _ := hcs
              have Hlt : Hid (∀ s ∈ cs, s < i) := fun s hs => by
                rw [hcs, Hth.out] at hs
                exact ((syms_mem _ _ _).1 hs).1
              clear hcs
              go_wp2_with fail
              go_loopg [11, 12] (L - 1) (fun g' S I wi => ∃ (j : Nat) (rs : List Pk), g' = L - j ∧ 1 ≤ j ∧ j ≤ L ∧ I = .int .i64 (j : Int) ∧ OwnI wt wi S rs ∧ fsts rs = lv wt cs (j - 1) ∧ Fr wm wi (fun _ => False) ∧ (∀ p ∈ rs, ∀ k, p.2.ownBlock = some k → 0 < p.1.length → k ≠ g))
              case atStart => exact ⟨1, ps, rfl, Nat.le_refl _, hL1, rfl, Ho2.out, Hcs.out, Fr.refl _ _, fun p hp k hk hl e => by have := Hold.out p hp k hk hl; omega⟩
              case round =>
                obtain ⟨j, rs, hg', hj1, hjL, rfl, hor, hrs, hfi, hap⟩ := hrel
                have Hg' : Hid _ := hg'
                have Hor : Hid (OwnI wt wr u11 rs) := hor
                have Hrs : Hid _ := hrs
                have Hap : Hid _ := hap
                have hrl : rs.length = (lv wt cs (j - 1)).length := by rw [← hrs]; simp [fsts]
                have Hrl : Hid (rs.length = (lv wt cs (j - 1)).length) := hrl
                have hrl2 : rs.length ≤ 512 := by have := lv_long wt cs (j - 1); have := HM.out; omega
                obtain ⟨ar, cr, rfl, hcr⟩ := hor.rd.form
                clear hg' hor hrs hap hrl
                by_cases hjlt : j < L
                · have hj2 : (j : Int) < (L : Int) := by omega
                  have hpw2 : 2 ^ (j - 1) ≤ 16384 := Nat.le_trans (Nat.pow_le_pow_right (by omega) (by omega : j - 1 ≤ 14)) (by decide)
                  have h40 : 16384 * 1099511627776 ≤ 4611686018427387903 := by decide
                  have hyw : ∀ y ∈ fsts rs, W wt y ≤ 4611686018427387903 := fun y hy => by
                    rw [Hrs.out] at hy
                    exact Nat.le_trans (lv_W wt cs Hw40.out (j - 1) y hy) (Nat.le_trans (Nat.mul_le_mul_right 1099511627776 hpw2) h40)
                  have hyl : ∀ y ∈ fsts rs, y.length ≤ 1000000 := fun y hy => by
                    rw [Hrs.out] at hy
                    have := (lv_in wt cs (j - 1) y hy).2.1
                    omega
                  have Hyw : Hid _ := hyw
                  have Hyl : Hid _ := hyl
                  clear hyw hyl h40
                  go_wp2_with fail
                  have hcall := refMerged_any wt (.slice a5 m c5) (.slice ar rs.length cr) ps rs wr (Ho2.out.keep hfi).rd Hor.out.rd (by rw [← Hm.out]; omega) (by omega) Hyw.out Hyl.out
                  refine hcall.mono ?_
                  clear hcall
                  rintro e w2 ⟨sv, rs2, rfl, ho2, hrs2, hf2, -, hnw⟩
                  have Hor2 : Hid (OwnI wt w2 sv rs2) := ho2
                  have Hrs2 : Hid (fsts rs2 = lv wt cs (j + 1 - 1)) := by
                    show _ = _
                    rw [hrs2, Hcs.out, Hrs.out]
                    obtain ⟨j', hj'⟩ : ∃ j', j - 1 = j' := ⟨_, rfl⟩
                    have e2 : j + 1 - 1 = j' + 1 := by omega
                    rw [hj', e2, lv]
                  have Hap2 : Hid (∀ p ∈ rs2, ∀ k, p.2.ownBlock = some k → 0 < p.1.length → k ≠ g) := fun p hp k hk hl e => by
                    rcases hnw p hp with h | h
                    · have := Hold.out p h k hk hl; omega
                    · have h1 := h k hk
                      have h2 := hfi.size
                      have h3 := (World.ownsRow.lt Hown.out g rfl).2
                      omega
                  obtain ⟨a2, c2, rfl, hc2⟩ := ho2.rd.form
                  have hf3 := hfi.none hf2
                  clear ho2 hrs2 hf2 hnw hfi hpw2
                  go_wp2_with fail
                  go_roundg (L - (j + 1))
                  case rel => exact ⟨j + 1, rs2, rfl, by omega, by omega, by go_num, Hor2.out, Hrs2.out, hf3, Hap2.out⟩
                  case measure => rw [Hg'.out]; omega
                · obtain rfl : j = L := by omega
                  have Hown2 : Hid (OwnC wr (.slice (some ⟨g, 0, none⟩) i i) (fnRow i (fun _ => 0))) := hfi.owns Hown.out (fun _ _ h => h)
                  have hf3 := hfwm.none hfi
                  obtain ⟨q, hq⟩ : ∃ q, q = rs.length := ⟨_, rfl⟩
                  rw [← hq] at Hrl hrl2 hcr Hor ⊢
                  have Hq : Hid _ := hq
                  have Hfit : Hid (2 * m - 2 ≤ q) := by
                    have := pm_fits (wt := wt) (cs := cs) (L := j) hL1 (by rw [← HM.out]; exact hm2) (by rw [← HM.out, ← HP.out]; omega)
                    rw [← HM.out] at this
                    show _ ≤ _
                    have := Hrl.out
                    omega
                  have ht1 : IntKind.i64.wrap (2 * (m : Int)) = ((2 * m : Nat) : Int) := by rw [IntWalk.i64_in _ (by omega)]; omega
                  have ht2 : IntKind.i64.wrap (((2 * m : Nat) : Int) - 2) = ((2 * m - 2 : Nat) : Int) := by rw [IntWalk.i64_in _ (by omega)]; omega
                  obtain ⟨T, hT⟩ : ∃ T, T = 2 * m := ⟨_, rfl⟩
                  obtain ⟨T2, hT2⟩ : ∃ T2, T2 = 2 * m - 2 := ⟨_, rfl⟩
                  rw [← hT2, ← hT] at ht2
                  rw [← hT] at ht1
                  have HT2 : Hid _ := hT2
                  have hT2q : T2 ≤ q := by have := Hfit.out; omega
                  clear hT hT2 hq hfi hfwm
                  go_wp2_with fail
                  have hgl : ∀ k, (Value.slice ar q cr).ownBlock = some k → k ≠ g := fun k hk e => by
                    have := own_apart Hown2.out Hor.out.1 (by decide) k hk
                    rw [e] at this
                    exact this rfl
                  have Hrd : Hid (∀ x, Fr wr x (fun k => k = g) → RdI wt x (.slice ar q cr) rs) := fun x hx => RdI.frame Hor.out.rd hx hgl (fun p hp k hk hl => Hap.out p hp k hk hl)
                  have Hgh : Hid (wc.heap.size ≤ g) := Hgw.out
                  clear hgl
                  go_loopg [13] T2 (fun g' I wi => ∃ (t : Nat) (f : Nat → Nat), g' = T2 - t ∧ t ≤ T2 ∧ I = .int .i64 (t : Int) ∧ OwnC wi (.slice (some ⟨g, 0, none⟩) i i) (fnRow i f) ∧ (∀ s, f s = occ ((lv wt cs (j - 1)).take t) s) ∧ (∀ s, f s ≤ 16384 * t) ∧ Fr wr wi (fun k => k = g))
                  case atStart => exact ⟨0, fun _ => 0, rfl, by omega, rfl, Hown2.out, fun s => by simp [occ], fun s => Nat.zero_le _, Fr.refl _ _⟩
                  case round =>
                    obtain ⟨t, f, hgt, ht, rfl, hot, hft, hfb, hfi⟩ := hrel
                    have Hgt : Hid _ := hgt
                    have Hot : Hid (OwnC wr (.slice (some ⟨g, 0, none⟩) i i) (fnRow i f)) := hot
                    have Hft : Hid _ := hft
                    have Hfb : Hid _ := hfb
                    clear hgt hot hft hfb
                    by_cases htT : t < T2
                    · obtain ⟨p, hp⟩ : ∃ p, rs[t]? = some p := ⟨_, List.getElem?_eq_getElem (by rw [← Hq.out]; omega)⟩
                      have hpy : (lv wt cs (j - 1))[t]? = some p.1 := by rw [← Hrs.out]; exact fsts_get hp
                      obtain ⟨y, v⟩ := p
                      have hyi := lv_in wt cs (j - 1) y (List.mem_of_getElem? hpy)
                      have hyb : y.length ≤ 16384 := Nat.le_trans hyi.2.1 (Nat.le_trans (Nat.pow_le_pow_right (by omega) (by omega : j - 1 ≤ 14)) (by decide))
                      have Hys : Hid (∀ s ∈ y, s < i) := fun s hs => Hlt.out s (hyi.2.2 s hs)
                      have htk : (lv wt cs (j - 1)).take (t + 1) = (lv wt cs (j - 1)).take t ++ [y] := by rw [List.take_add_one, hpy]; rfl
                      have Hft2 : Hid (∀ s, f s + y.count s = occ ((lv wt cs (j - 1)).take (t + 1)) s) := fun s => by
                        rw [htk, Hft.out s]
                        simp [occ]
                      obtain ⟨b, off, cp, e, -, cc1, hrd⟩ := RdI.get (Hrd.out _ hfi) t (y, v) hp
                      simp only [Value.slice.injEq] at e
                      obtain ⟨rfl, -, rfl⟩ := e
                      have hbg : b ≠ g := by
                        have := own_apart Hown2.out Hor.out.1 (by decide) b rfl
                        intro e
                        rw [e] at this
                        exact this rfl
                      have hyp : 0 < y.length := List.length_pos_iff.2 hyi.1
                      have hvg := Hap.out _ (List.mem_of_getElem? hp)
                      obtain ⟨ay, cy, hey, hcy, hcl⟩ := hrd
                      rw [length_row] at hey hcy
                      obtain ⟨by_, oy, rfl, hcell⟩ := hcl (by rw [length_row]; exact hyp)
                      simp only at hey
                      subst hey
                      have hyg : by_ ≠ g := hvg by_ rfl hyp
                      have Hcell : Hid (∀ x, Fr wr x (fun k => k = g) → ∀ k, k < y.length → x.cell? ⟨by_, oy + k, none⟩ = some (.int .i64 ((y.getD k 0 : Nat) : Int))) := fun x hx k hk => by
                        have h1 := hcell k _ (row_get .i64 y k hk)
                        have h2 := World.block_lt_of_cell? _ _ h1
                        rw [World.cell?_of_block (w := wr) (hx.block _ h2 hyg)]
                        exact h1
                      have Hcc : Hid (∀ x, Fr wr x (fun k => k = g) → x.cell? ⟨b, off + t * 2 + 1, none⟩ = some (.slice (some ⟨by_, oy, none⟩) y.length cy)) := fun x hx => by
                        have h2 := World.block_lt_of_cell? _ _ cc1
                        rw [World.cell?_of_block (w := wr) (hx.block _ h2 hbg)]
                        exact cc1
                      obtain ⟨ny, hny⟩ : ∃ ny, ny = y.length := ⟨_, rfl⟩
                      rw [← hny] at Hcell Hcc hcy hyb
                      have Hny : Hid _ := hny
                      have Hfr : Hid _ := hfi
                      have htT1 : (t : Int) < (T2 : Int) := by omega
                      have htq : (t : Int) < (q : Int) := by omega
                      have htq2 : t < q := by omega
                      clear hp hpy hyi htk cc1 hbg hyp hvg hcl hcell hyg hny hfi
                      go_wp2_with fail
                      go_loopg [14] ny (fun g' I wi => ∃ (k : Nat) (h : Nat → Nat), g' = ny - k ∧ k ≤ ny ∧ I = .int .i64 (k : Int) ∧ OwnC wi (.slice (some ⟨g, 0, none⟩) i i) (fnRow i h) ∧ (∀ s, h s = f s + (y.take k).count s) ∧ Fr wr wi (fun k => k = g))
                      case atStart => exact ⟨0, f, rfl, by omega, rfl, Hot.out, fun s => by simp, Fr.refl _ _⟩
                      case round =>
                        obtain ⟨k, h, hgk, hk, rfl, hok, hhk, hfk⟩ := hrel
                        have Hgk : Hid _ := hgk
                        have Hok : Hid (OwnC wr (.slice (some ⟨g, 0, none⟩) i i) (fnRow i h)) := hok
                        have Hhk : Hid _ := hhk
                        clear hgk hok hhk
                        have ccx := Hcc.out _ hfk
                        by_cases hkn : k < ny
                        · have csk := Hcell.out _ hfk k hkn
                          have hyk : y[k]? = some (y.getD k 0) := by rw [List.getD_eq_getElem?_getD, List.getElem?_eq_getElem (by rw [← Hny.out]; exact hkn)]; rfl
                          obtain ⟨s0, hs0⟩ : ∃ s0, s0 = y.getD k 0 := ⟨_, rfl⟩
                          rw [← hs0] at csk hyk
                          have hsn : s0 < i := Hys.out s0 (List.mem_of_getElem? hyk)
                          have hcnt : (y.take k).count s0 ≤ k := Nat.le_trans List.count_le_length (by rw [List.length_take]; omega)
                          have htk2 : y.take (k + 1) = y.take k ++ [s0] := by rw [List.take_add_one, hyk]; rfl
                          obtain ⟨x, hx⟩ : ∃ x, x = h s0 := ⟨_, rfl⟩
                          have hxb : x ≤ 9000000 := by
                            have h1 := Hhk.out s0
                            have h2 := Hfb.out s0
                            omega
                          have hoc := Hok.out
                          unfold OwnC at hoc
                          rw [fnRow_length] at hoc
                          have hfz := World.ownsRow.frozenAt hoc s0
                          have hce : wr.cell? ⟨g, s0, none⟩ = some (.int .i64 (x : Int)) := by
                            rw [World.ownsRow.cellAt hoc s0 (by omega), hx]
                            simp [row, fnRow, hsn]
                          have Hh2 : Hid ((fnRow i h).set s0 (x + 1) = fnRow i (fun s => f s + (y.take (k + 1)).count s)) := by
                            show _ = _
                            refine fnRow_set i _ _ s0 _ ?_ ?_
                            · rw [htk2, List.count_append, hx, Hhk.out s0]
                              simp
                              omega
                            · intro t ht
                              rw [htk2, List.count_append, Hhk.out t]
                              have : List.count t [s0] = 0 := by
                                rw [List.count_eq_zero]
                                intro h
                                simp at h
                                exact ht h
                              omega
                          have Hst2 : Hid (OwnC (wr.setCell ⟨g, s0, none⟩ (.int .i64 ((x : Int) + 1))) (.slice (some ⟨g, 0, none⟩) i i) (fnRow i (fun s => f s + (y.take (k + 1)).count s))) := by
                            have := (World.ownsRow.stored hoc s0 (.int .i64 ((x : Int) + 1))).1
                            unfold OwnC
                            rw [fnRow_length, ← Hh2.out, row_set]
                            exact this
                          have hxw : IntKind.i64.wrap ((x : Int) + 1) = ((x + 1 : Nat) : Int) := by rw [IntWalk.i64_in _ (by omega)]; omega
                          have hs1 : (s0 : Int) < (i : Int) := by omega
                          have hk1 : (k : Int) < (ny : Int) := by omega
                          clear hyk hs0 hcnt htk2 hx hoc
                          go_wp2_with fail
                          go_roundg (ny - (k + 1))
                          case rel => exact ⟨k + 1, _, rfl, by omega, by go_num, Hst2.out, fun s => rfl, hfk.setCell ⟨g, s0, none⟩ (fun _ => rfl) _⟩
                          case measure => rw [Hgk.out]; omega
                        · have hke : k = ny := by omega
                          have Hot2 : Hid (OwnC wr (.slice (some ⟨g, 0, none⟩) i i) (fnRow i h)) := Hok.out
                          have Hh3 : Hid (∀ s, h s = occ ((lv wt cs (j - 1)).take (t + 1)) s) := fun s => by
                            rw [Hhk.out s, List.take_of_length_le (by rw [← Hny.out]; omega), Hft2.out s]
                          have Hb3 : Hid (∀ s, h s ≤ 16384 * (t + 1)) := fun s => by
                            have h1 := Hhk.out s
                            have h2 := Hfb.out s
                            have h3 : (y.take k).count s ≤ k := Nat.le_trans List.count_le_length (by rw [List.length_take]; omega)
                            omega
                          have hfo := Hfr.out.trans hfk (fun _ _ h => h)
                          subst hke
                          clear hkn
                          go_wp2_with fail
                          go_roundg (T2 - (t + 1))
                          case rel => exact ⟨t + 1, h, rfl, by omega, by go_num, Hot2.out, Hh3.out, Hb3.out, hfo⟩
                          case measure => rw [Hgt.out]; omega
                    · have hte : t = T2 := by omega
                      have Hr : Hid (fnRow i f = fnRow i (pmLen (zs.map clampN) j)) := by
                        show _ = _
                        congr 1
                        funext s
                        rw [Hft.out s]
                        unfold pmLen pmOcc
                        rw [← Hcsd.out, if_neg (by rw [← HM.out]; omega), ← HM.out, ← HT2.out, ← Hwt.out, hte]
                      have hf23 := hf3.newer hfi (fun k hk => by rw [hk]; exact Hgh.out)
                      have hd1 : ¬ (t : Int) < (T2 : Int) := by omega
                      subst hte
                      go_wp2_with fail
                      go_ret
                      refine ⟨_, rfl, ?_, hf23, fun k hk => by simp [Value.ownBlock] at hk; rw [← hk]; exact Hgh.out⟩
                      rw [Hpm.out, ← Hr.out]
                      exact Hot.out

theorem refLens_any (v : Value) (zs : List Int) (most : Int) (w : World) (h : ReadsZ w v zs) (hm1 : -9223372036854775808 ≤ most) (hm2 : most ≤ 9223372036854775807) :
    Calls Try.prog 18 #[v, .int .i64 most] w fun e w' => ∃ sv, e = .returned sv ∧ Reads .i64 w' sv (pmLens (zs.map clampN) (clampM most)) ∧ Fr w w' (fun _ => False) :=
  (refLens_own v zs most w h hm1 hm2).mono fun _ _ ⟨sv, he, ho, hf, _⟩ => ⟨sv, he, ho.reads, hf⟩

end Go.Proofs.Ytclfbdfgmeliaaa

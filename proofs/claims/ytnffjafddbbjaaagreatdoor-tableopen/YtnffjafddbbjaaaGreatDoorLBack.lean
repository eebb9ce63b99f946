/-
  The contract of the reference's Back.
-/
import Derived.Test.YtnffjafddbbjaaaGreatDoorJ3
import Derived.Test.YtnffjafddbbjaaaGreatDoorLCheck
import Derived.Test.YtnffjafddbbjaaaGreatDoorLIns
import Derived.Test.YtnffjafddbbjaaaGreatDoorJ10
import Derived.Test.YtnffjafddbbjaaaGreatDoorLCell2
namespace Go.Proofs.YtnffjafddbbjaaaGreatDoor
open Go.RowKit

set_option maxRecDepth 4000 in
set_option maxHeartbeats 3200000 in
theorem refBack_any (n : Nat) (v : Value) (l : List Lf) (w : World) (h : RdL w v l) (hl : l.length ≤ 100000) (hfit : ∀ x ∈ l, LfFit x) : Calls Tryz.prog 44 #[.int .u64 (n : Int), v] w fun r w' => (∃ v', r = .returned (.tuple #[histV (backF n l).1 v', .int .i64 ((backF n l).2.2 : Int)]) ∧ RdV w' v' (backF n l).2.1) ∧ Fr w w' (fun _ => False) := by
  obtain ⟨a0, c0, rfl, hc0⟩ := h.form
  obtain ⟨m, hm⟩ : ∃ m, m = l.length := ⟨_, rfl⟩
  rw [← hm] at h hl hc0 ⊢
  obtain ⟨⟨C1, C2⟩, hC⟩ : ∃ C, C = lifeCheckF n l := ⟨_, rfl⟩
  obtain ⟨⟨B1, B2, B3⟩, hB⟩ : ∃ B, B = backF n l := ⟨_, rfl⟩
  rw [← hB]
  have HB : Hid ((B1, B2, B3) = if C2 = 0 then (n, backE [] l, 0) else (0, [], C2)) := by show _ = _; rw [hB]; unfold backF; rw [← hC]
  have HC : Hid _ := hC
  have Hr : Hid (RdL w (.slice a0 m c0) l) := h
  have Hm : Hid _ := hm
  have Hfit : Hid _ := hfit
  clear h hm hC hB hfit
  unfold histV
  dsimp only
  go_enter Tryz.func44, Tryz.ntmps44
  go_wp2_with fail
  obtain ⟨p4, hp4⟩ : ∃ p, p = w.heap.size := ⟨_, rfl⟩
  rw [← hp4]
  refine (refLifeCheck_any n _ l _ (HoldsN.keep Hr.out ((Fr.refl _ _).alloc _)) (by have := Hm.out; omega) Hfit.out).mono ?_
  rw [← HC.out]
  rintro r x1 ⟨rfl, g⟩
  have h4 : x1.heap[p4]? = some (.cells #[.int .u64 0, .slice none 0 0] 25 (0, 0)) := g.kept (by rw [hp4]; exact heap_alloc_new _ _) (fun h => h)
  have Hx1 : Hid (Fr w x1 (fun _ => False)) := ((Fr.refl w (fun _ => False)).alloc _).none g
  have H4 : Hid _ := h4
  have Hp4 : Hid (p4 = w.heap.size) := hp4
  clear g h4 hp4
  by_cases hc2 : C2 = 0
  · subst hc2
    have HB2 : Hid (B1 = n ∧ B2 = backE [] l ∧ B3 = 0) := by
      have := HB.out
      rw [if_pos rfl] at this
      simp only [Prod.mk.injEq] at this
      exact this
    clear HB
    obtain rfl := HB2.out.1
    obtain rfl := HB2.out.2.2
    go_wp2_with fail
    obtain ⟨p8, hp8⟩ : ∃ p, p = x1.heap.size := ⟨_, rfl⟩
    obtain ⟨w8, hw8⟩ : ∃ x, x = x1.alloc (.cells #[.int .u64 (B1 : Int), .slice none 0 0] 25) := ⟨_, rfl⟩
    rw [← hw8, ← hp8]
    have H8 : Hid (w8.heap[p8]? = some (.cells #[.int .u64 (B1 : Int), .slice none 0 0] 25 (0, 0))) := by show _ = _; rw [hw8, hp8]; exact heap_alloc_new _ _
    have hlt48 : p4 < p8 := by rw [hp8]; exact lt_of_block H4.out
    have Hb4 : Hid (∀ z, Fr w8 z (fun k => k = p8) → z.heap[p4]? = some (.cells #[.int .u64 0, .slice none 0 0] 25 (0, 0))) := fun z hz => hz.kept (by rw [hw8]; exact blk_alloc _ H4.out) (fun h => by omega)
    have Hw8 : Hid (Fr w w8 (fun _ => False)) := by show Fr _ _ _; rw [hw8]; exact Hx1.out.alloc _
    have Hlt : Hid (p4 < p8) := hlt48
    have Hrl : Hid (∀ z, Fr w8 z (fun k => k = p8) → RdL z (.slice a0 m c0) l) := fun z hz => HoldsN.keep Hr.out (Fr.newer Hw8.out hz (fun i hi => by have h2 := Hp4.out; have h3 := Hlt.out; omega))
    clear hp8 hw8 hlt48 Hx1 H4 Hr
    go_loopg [9] m (fun g I wr => ∃ (i : Nat) (hev : List Ev) (ah : Option Addr) (lh ch : Nat), g = m - i ∧ i ≤ m ∧ I = .int .i64 (i : Int) ∧ wr.heap[p8]? = some (.cells #[.int .u64 (B1 : Int), .slice ah lh ch] 25 (0, 0)) ∧ RdV wr (.slice ah lh ch) hev ∧ hev.length ≤ 2 * i ∧ backE hev (l.drop i) = B2 ∧ Fr w8 wr (fun k => k = p8))
    case atStart => exact ⟨0, [], none, 0, 0, by omega, by omega, rfl, H8.out, RdV.nil _, by simp, HB2.out.2.1.symm, Fr.refl _ _⟩
    case round =>
      obtain ⟨i, hev, ah, lh, ch, hg, hi, rfl, h8, hv, hvl, hst, hf⟩ := hrel
      have Hg : Hid _ := hg
      have H8r : Hid _ := h8
      have Hv : Hid (RdV wr (.slice ah lh ch) hev) := hv
      have Hvl : Hid _ := hvl
      have Hs : Hid _ := hst
      have Hf : Hid (Fr w8 wr (fun k => k = p8)) := hf
      clear hg h8 hv hvl hst hf H8
      by_cases hlt : i < m
      · have hin : (i : Int) < (m : Int) := by omega
        have hin' : decide (i < m) = true := decide_eq_true hlt
        obtain ⟨⟨⟨e1, e2⟩, s, q⟩, ha⟩ : ∃ a, l[i]? = some a := ⟨_, List.getElem?_eq_getElem (by rw [← Hm.out]; omega)⟩
        have Hst : Hid (backE (if 0 ≤ q then insP (insP hev (s, (e1, e2), true)) (q, (e1, e2), false) else insP hev (s, (e1, e2), true)) (l.drop (i + 1)) = B2) := by
          show _ = _
          rw [← Hs.out, drop_at ha, backE]
        obtain ⟨bk, off, cap, e3, hbk, hca⟩ := (Hrl.out wr Hf.out).get i _ ha
        simp only [Value.slice.injEq] at e3
        obtain ⟨rfl, -, rfl⟩ := e3
        have hbn : ¬ bk = p8 := fun h => by
          subst h
          obtain ⟨-, -, k2, -⟩ := hca wr (Fr.refl _ _)
          obtain ⟨k0, -, -, -⟩ := hca wr (Fr.refl _ _)
          simp only [World.cell?, H8r.out] at k0 k2
          match off with
          | 0 => simp at k0 k2
          | off + 1 => simp at k2
        have Hla : Hid (∀ z, Fr wr z (fun k => k = p8) → z.cell? ⟨bk, off + i * 4, none⟩ = some (.int .u32 (e1 : Int)) ∧ z.cell? ⟨bk, off + i * 4 + 1, none⟩ = some (.int .u32 (e2 : Int)) ∧ z.cell? ⟨bk, off + i * 4 + 2, none⟩ = some (.int .i64 s) ∧ z.cell? ⟨bk, off + i * 4 + 3, none⟩ = some (.int .i64 q)) := fun z hz => hca z (hz.mono (fun j _ hj => by intro h; exact hbn (h ▸ hj)))
        have hi0 : (0 : Int) ≤ (i : Int) := by omega
        clear hca ha Hs hbk hbn
        go_upto_region 8 with fail
        go_cut [9] from 28 to 42 (fun V wx => V = .int .i64 (i : Int) ∧ ∃ (ah : Option Addr) (lh ch : Nat), wx.heap[p8]? = some (.cells #[.int .u64 (B1 : Int), .slice ah lh ch] 25 (0, 0)) ∧ RdV wx (.slice ah lh ch) (insP hev (s, (e1, e2), true)) ∧ Fr wr wx (fun k => k = p8))
        case first =>
          have kz : ∀ z, Fr wr.drew z (fun k => k = p8) → z.cell? ⟨bk, off + i * 4 + 2, none⟩ = some (.int .i64 s) := fun z hz => (Hla.out z (((Fr.refl wr _).drew).trans hz (fun _ _ h => h))).2.2.1
          have ka : ∀ z, Fr wr.drew z (fun k => k = p8) → z.cell? ⟨bk, off + i * 4, none⟩ = some (.int .u32 (e1 : Int)) := fun z hz => (Hla.out z (((Fr.refl wr _).drew).trans hz (fun _ _ h => h))).1
          have kb : ∀ z, Fr wr.drew z (fun k => k = p8) → z.cell? ⟨bk, off + i * 4 + 1, none⟩ = some (.int .u32 (e2 : Int)) := fun z hz => (Hla.out z (((Fr.refl wr _).drew).trans hz (fun _ _ h => h))).2.1
          go_wp2_with fail
          refine wp_region_tree (fun k => k = p8) (.take 0 (.take 2 (.take 3 (.take 4 (.take 5 (.take 6 (.take 7 (.take 8 (.take 9 (.take 10 (.take 11 (.take 12 (.one 1 (.one 13 (.take 14 (.one 15 .nil)))))))))))))))) (by kernel_rfl) (by kernel_rfl) (by decide) (by kernel_rfl) ?_
          repeat (refine wpT_take (v := ?_) rfl rfl (fun x hx => ?_) ?_; rotate_left; (focus (go_simp; with_reducible rfl)); simp only [Act.put, List.setIfInBounds_toArray, List.set_cons_zero, List.set_cons_succ])
          clear ka kb kz
          have c1' : wr.drew.cell? ⟨p8, 1, none⟩ = some (.slice ah lh ch) := two_cell1 (w := wr.drew) H8r.out
          refine wpT_one rfl rfl (fun K hK => ?_)
          go_simp
          refine hK _ _ (Fr.refl _ _) ?_
          clear hK K
          refine wpT_one rfl rfl (fun K hK => ?_)
          go_simp
          refine (refInsert_any _ (hev) (s, (e1, e2), true) _ (Hv.out.keep ((Fr.refl wr _).drew)) (by have h1 := Hvl.out; (try rw [insP_length]); omega)).mono ?_
          rintro r x3 ⟨⟨v3, rfl, hr3⟩, g⟩
          refine hK _ _ (g.mono (fun _ _ h => h.elim)) ?_
          clear hK K c1'
          obtain ⟨a3, c3, rfl, -⟩ := RdV.form hr3
          obtain ⟨l3, hl3⟩ : ∃ x, x = (insP (hev) (s, (e1, e2), true)).length := ⟨_, rfl⟩
          rw [← hl3] at hr3 ⊢
          have G3 : Hid (Fr wr x3 (fun _ => False)) := (Fr.refl wr (fun _ => False)).drew.none g
          have h8x := G3.out.kept H8r.out (fun h => h)
          have H8x : Hid _ := h8x
          have Hr3 : Hid (RdV x3 (.slice a3 l3 c3) _) := hr3
          have c1' : x3.cell? ⟨p8, 1, none⟩ = some (.slice ah lh ch) := two_cell1 h8x
          have f1' : x3.frozen? ⟨p8, 1, none⟩ = false := two_free h8x 1
          clear h8x hr3 g hl3
          repeat (refine wpT_take (v := ?_) rfl rfl (fun x hx => ?_) ?_; rotate_left; (focus (go_simp; with_reducible rfl)); simp only [Act.put, List.setIfInBounds_toArray, List.set_cons_zero, List.set_cons_succ])
          refine wpT_one rfl rfl (fun K hK => ?_)
          go_simp
          refine hK _ _ (fr_cell x3 _ _ _) ?_
          clear hK K
          have h8y := two_set1 (u := .slice a3 l3 c3) H8x.out
          have Hr4 : Hid (RdV (x3.setCell ⟨p8, 1, none⟩ (.slice a3 l3 c3)) (.slice a3 l3 c3) _) := RdV.frame Hr3.out (fr_cell x3 _ _ _) (fun h0 => RdV.apart Hr3.out H8x.out h0)
          have H8y : Hid _ := h8y
          have Hf4 : Hid (Fr wr (x3.setCell ⟨p8, 1, none⟩ (.slice a3 l3 c3)) (fun k => k = p8)) := (G3.out.mono (fun _ _ h => h.elim)).trans (fr_cell x3 _ _ _) (fun _ _ h => h)
          clear h8y c1' f1'
          unfold wpT
          go_wp2_with fail
          go_meet
          case rel => exact ⟨rfl, _, _, _, H8y.out, Hr4.out, Hf4.out⟩
        case rest =>
        obtain ⟨rfl, ah2, lh2, ch2, h8b, hvb, hfc⟩ := hcut
        rename_i hKc
        refine hKc _ _ ?_
        clear hKc
        have H8b : Hid _ := h8b
        have Hvb : Hid (RdV wc (.slice ah2 lh2 ch2) (insP hev (s, (e1, e2), true))) := hvb
        have Hfc : Hid (Fr wr wc (fun k => k = p8)) := hfc
        clear h8b hvb hfc
        have Hlb : Hid (∀ z, Fr wc z (fun k => k = p8) → z.cell? ⟨bk, off + i * 4, none⟩ = some (.int .u32 (e1 : Int)) ∧ z.cell? ⟨bk, off + i * 4 + 1, none⟩ = some (.int .u32 (e2 : Int)) ∧ z.cell? ⟨bk, off + i * 4 + 2, none⟩ = some (.int .i64 s) ∧ z.cell? ⟨bk, off + i * 4 + 3, none⟩ = some (.int .i64 q)) := fun z hz => Hla.out z (Hfc.out.trans hz (fun _ _ h => h))
        obtain ⟨-, -, -, k3⟩ := Hlb.out wc (Fr.refl _ _)
        by_cases hq : 0 ≤ q
        · have d1 : decide (0 ≤ q) = true := decide_eq_true hq
          have Hst2 : Hid (backE (insP (insP hev (s, (e1, e2), true)) (q, (e1, e2), false)) (l.drop (i + 1)) = B2) := by
            have := Hst.out
            rw [if_pos hq] at this
            exact this
          clear hq
          go_upto_region 10 with fail
          clear k3 d1
          have kz : ∀ z, Fr wc.drew z (fun k => k = p8) → z.cell? ⟨bk, off + i * 4 + 3, none⟩ = some (.int .i64 q) := fun z hz => (Hlb.out z (((Fr.refl wc _).drew).trans hz (fun _ _ h => h))).2.2.2
          have ka : ∀ z, Fr wc.drew z (fun k => k = p8) → z.cell? ⟨bk, off + i * 4, none⟩ = some (.int .u32 (e1 : Int)) := fun z hz => (Hlb.out z (((Fr.refl wc _).drew).trans hz (fun _ _ h => h))).1
          have kb : ∀ z, Fr wc.drew z (fun k => k = p8) → z.cell? ⟨bk, off + i * 4 + 1, none⟩ = some (.int .u32 (e2 : Int)) := fun z hz => (Hlb.out z (((Fr.refl wc _).drew).trans hz (fun _ _ h => h))).2.1
          go_wp2_with fail
          refine wp_region_tree (fun k => k = p8) (.take 0 (.take 2 (.take 3 (.take 4 (.take 5 (.take 6 (.take 7 (.take 8 (.take 9 (.take 10 (.take 11 (.take 12 (.one 1 (.one 13 (.take 14 (.one 15 .nil)))))))))))))))) (by kernel_rfl) (by kernel_rfl) (by decide) (by kernel_rfl) ?_
          repeat (refine wpT_take (v := ?_) rfl rfl (fun x hx => ?_) ?_; rotate_left; (focus (go_simp; with_reducible rfl)); simp only [Act.put, List.setIfInBounds_toArray, List.set_cons_zero, List.set_cons_succ])
          clear ka kb kz
          have c1' : wc.drew.cell? ⟨p8, 1, none⟩ = some (.slice ah2 lh2 ch2) := two_cell1 (w := wc.drew) H8b.out
          refine wpT_one rfl rfl (fun K hK => ?_)
          go_simp
          refine hK _ _ (Fr.refl _ _) ?_
          clear hK K
          refine wpT_one rfl rfl (fun K hK => ?_)
          go_simp
          refine (refInsert_any _ (insP hev (s, (e1, e2), true)) (q, (e1, e2), false) _ (Hvb.out.keep ((Fr.refl wc _).drew)) (by have h1 := Hvl.out; (try rw [insP_length]); omega)).mono ?_
          rintro r x3 ⟨⟨v3, rfl, hr3⟩, g⟩
          refine hK _ _ (g.mono (fun _ _ h => h.elim)) ?_
          clear hK K c1'
          obtain ⟨a3, c3, rfl, -⟩ := RdV.form hr3
          obtain ⟨l3, hl3⟩ : ∃ x, x = (insP (insP hev (s, (e1, e2), true)) (q, (e1, e2), false)).length := ⟨_, rfl⟩
          rw [← hl3] at hr3 ⊢
          have G3 : Hid (Fr wc x3 (fun _ => False)) := (Fr.refl wc (fun _ => False)).drew.none g
          have h8x := G3.out.kept H8b.out (fun h => h)
          have H8x : Hid _ := h8x
          have Hr3 : Hid (RdV x3 (.slice a3 l3 c3) _) := hr3
          have c1' : x3.cell? ⟨p8, 1, none⟩ = some (.slice ah2 lh2 ch2) := two_cell1 h8x
          have f1' : x3.frozen? ⟨p8, 1, none⟩ = false := two_free h8x 1
          clear h8x hr3 g hl3
          repeat (refine wpT_take (v := ?_) rfl rfl (fun x hx => ?_) ?_; rotate_left; (focus (go_simp; with_reducible rfl)); simp only [Act.put, List.setIfInBounds_toArray, List.set_cons_zero, List.set_cons_succ])
          refine wpT_one rfl rfl (fun K hK => ?_)
          go_simp
          refine hK _ _ (fr_cell x3 _ _ _) ?_
          clear hK K
          have h8y := two_set1 (u := .slice a3 l3 c3) H8x.out
          have Hr4 : Hid (RdV (x3.setCell ⟨p8, 1, none⟩ (.slice a3 l3 c3)) (.slice a3 l3 c3) _) := RdV.frame Hr3.out (fr_cell x3 _ _ _) (fun h0 => RdV.apart Hr3.out H8x.out h0)
          have H8y : Hid _ := h8y
          have Hf4 : Hid (Fr wc (x3.setCell ⟨p8, 1, none⟩ (.slice a3 l3 c3)) (fun k => k = p8)) := (G3.out.mono (fun _ _ h => h.elim)).trans (fr_cell x3 _ _ _) (fun _ _ h => h)
          clear h8y c1' f1'
          unfold wpT
          go_wp2_with fail
          have Hfd : Hid (Fr w8 _ (fun k => k = p8)) := (Hf.out.trans Hfc.out (fun _ _ h => h)).trans Hf4.out (fun _ _ h => h)
          go_roundg (m - (i + 1))
          case rel => exact ⟨i + 1, _, _, _, _, rfl, by omega, by go_num, H8y.out, Hr4.out, by have := Hvl.out; rw [insP_length, insP_length]; omega, Hst2.out, Hfd.out⟩
          case measure => rw [Hg.out]; omega
        · have d1 : decide (0 ≤ q) = false := decide_eq_false hq
          have Hst2 : Hid (backE (insP hev (s, (e1, e2), true)) (l.drop (i + 1)) = B2) := by
            have := Hst.out
            rw [if_neg hq] at this
            exact this
          have Hfd : Hid (Fr w8 wc (fun k => k = p8)) := Hf.out.trans Hfc.out (fun _ _ h => h)
          clear hq
          go_wp2_with fail
          go_roundg (m - (i + 1))
          case rel => exact ⟨i + 1, _, _, _, _, rfl, by omega, by go_num, H8b.out, Hvb.out, by have := Hvl.out; rw [insP_length]; omega, Hst2.out, Hfd.out⟩
          case measure => rw [Hg.out]; omega
      · have hin : ¬ (i : Int) < (m : Int) := by omega
        have hin' : decide (i < m) = false := decide_eq_false hlt
        have Hres : Hid (hev = B2) := by
          have := Hs.out
          rw [List.drop_eq_nil_of_le (by rw [← Hm.out]; omega), backE] at this
          exact this
        have H4r : Hid (wr.heap[p4]? = some (.cells #[.int .u64 0, .slice none 0 0] 25 (0, 0))) := Hb4.out wr Hf.out
        obtain ⟨c0', c1'⟩ : wr.cell? ⟨p8, 0, none⟩ = some (.int .u64 (B1 : Int)) ∧ wr.cell? ⟨p8, 1, none⟩ = some (.slice ah lh ch) := ⟨two_cell0 H8r.out, two_cell1 H8r.out⟩
        obtain ⟨e0', e1'⟩ : wr.cell? ⟨p4, 0, none⟩ = some (.int .u64 0) ∧ wr.cell? ⟨p4, 1, none⟩ = some (.slice none 0 0) := ⟨two_cell0 H4r.out, two_cell1 H4r.out⟩
        have f0' : wr.frozen? ⟨p4, 0, none⟩ = false := two_free H4r.out 0
        have f1' : wr.frozen? ⟨p4, 1, none⟩ = false := two_free H4r.out 1
        have Hfin : Hid (Fr w ((wr.setCell ⟨p4, 0, none⟩ (.int .u64 (B1 : Int))).setCell ⟨p4, 1, none⟩ (.slice ah lh ch)) (fun _ => False)) := by
          have h1 : Fr w wr (fun _ => False) := Hw8.out.newer Hf.out (fun i hi => by have h2 := Hp4.out; have h3 := Hlt.out; omega)
          exact h1.newer ((fr_cell wr _ _ _).trans (fr_cell _ _ _ _) (fun _ _ h => h)) (fun i hi => by have h2 := Hp4.out; omega)
        have Hof : Hid (RdV ((wr.setCell ⟨p4, 0, none⟩ (.int .u64 (B1 : Int))).setCell ⟨p4, 1, none⟩ (.slice ah lh ch)) (.slice ah lh ch) B2) := by
          rw [← Hres.out]
          exact RdV.frame Hv.out ((fr_cell wr _ _ _).trans (fr_cell _ _ _ _) (fun _ _ h => h)) (fun h0 => RdV.apart Hv.out H4r.out h0)
        have Hrow : Hid _ := two_set1 (two_set0 H4r.out (u := .int .u64 (B1 : Int))) (u := .slice ah lh ch)
        go_wp2
        refine bodyPost_ret (results_cell2 rfl rfl rfl (run_loadVar_row _ _ 25 _ _ (0, 0) _ Hrow.out Tryz.underlying25 rfl histSize)) rfl ?_
        exact ⟨⟨_, rfl, Hof.out⟩, Hfin.out⟩
  · have d1 : ((C2 : Int) != 0) = true := by rw [bne_iff_ne]; omega
    have d1' : ((C2 : Int) == 0) = false := by rw [beq_eq_false_iff_ne]; omega
    have d1'' : (C2 == 0) = false := by rw [beq_eq_false_iff_ne]; exact hc2
    have HB2 : Hid (B1 = 0 ∧ B2 = [] ∧ B3 = C2) := by
      have := HB.out
      rw [if_neg hc2] at this
      simp only [Prod.mk.injEq] at this
      exact this
    obtain rfl := HB2.out.1
    obtain rfl := HB2.out.2.1
    obtain rfl := HB2.out.2.2
    clear hc2 HB
    obtain ⟨e0', e1'⟩ : x1.cell? ⟨p4, 0, none⟩ = some (.int .u64 0) ∧ x1.cell? ⟨p4, 1, none⟩ = some (.slice none 0 0) := ⟨two_cell0 H4.out, two_cell1 H4.out⟩
    have f0' : x1.frozen? ⟨p4, 0, none⟩ = false := two_free H4.out 0
    have f1' : x1.frozen? ⟨p4, 1, none⟩ = false := two_free H4.out 1
    have Hfin : Hid (Fr w ((x1.setCell ⟨p4, 0, none⟩ (.int .u64 0)).setCell ⟨p4, 1, none⟩ (.slice none 0 0)) (fun _ => False)) :=
      Hx1.out.newer ((fr_cell x1 _ _ _).trans (fr_cell _ _ _ _) (fun _ _ h => h)) (fun i hi => by have h2 := Hp4.out; omega)
    have Hrow : Hid _ := two_set1 (two_set0 H4.out (u := .int .u64 0)) (u := .slice none 0 0)
    go_wp2
    refine bodyPost_ret (results_cell2 rfl rfl rfl (run_loadVar_row _ _ 25 _ _ (0, 0) _ Hrow.out Tryz.underlying25 rfl histSize)) rfl ?_
    exact ⟨⟨_, rfl, RdV.nil _⟩, Hfin.out⟩

end Go.Proofs.YtnffjafddbbjaaaGreatDoor

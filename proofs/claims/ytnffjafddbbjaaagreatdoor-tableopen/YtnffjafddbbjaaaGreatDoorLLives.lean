/-
  The contract of the reference's Lives.
-/
import Derived.Test.YtnffjafddbbjaaaGreatDoorLLess
import Derived.Test.YtnffjafddbbjaaaGreatDoorJ3
import Derived.Test.YtnffjafddbbjaaaGreatDoorJ10
namespace Go.Proofs.YtnffjafddbbjaaaGreatDoor
open Go.RowKit

/-- Is the one ahead of place k behind e? -/
def lessBack (l : List Lf) (e : Lf) : Nat → Bool
  | 0 => false
  | k + 1 => (l[k]?.map (fun x => lLess e x)).getD false
theorem gK_end {l : List Lf} {e : Lf} {k : Nat} (h : lessBack l e k = false) : gK lLess l e k = k := by
  cases k with
  | zero => rfl
  | succ k => rw [gK, if_neg (by rw [lessBack] at h; rw [h]; simp)]
theorem four_set3 {w : World} {x0 x1 x2 x3 u : Value} {T : TypeId} {p : Nat} (h : w.heap[p]? = some (.cells #[x0, x1, x2, x3] T (0, 0))) : (w.setCell ⟨p, 3, none⟩ u).heap[p]? = some (.cells #[x0, x1, x2, u] T (0, 0)) := four_put3 h u

set_option maxRecDepth 4000 in
set_option maxHeartbeats 3200000 in
theorem refLives_any (n : Nat) (v : Value) (evs : List Ev) (w : World) (h : RdV w v evs) (hl : evs.length ≤ 100000) (hfit : ∀ x ∈ evs, EvFit x) : Calls Tryz.prog 19 #[histV n v] w fun r w' =>
    (∃ v', r = .returned (.tuple #[v', .int .i64 ((livesF n evs).2 : Int)]) ∧ RdL w' v' (livesF n evs).1) ∧ Fr w w' (fun _ => False) := by
  obtain ⟨a0, c0, rfl, hc0⟩ := h.form
  obtain ⟨m, hm⟩ : ∃ m, m = evs.length := ⟨_, rfl⟩
  rw [← hm] at h hl hc0 ⊢
  have Hr : Hid (RdV w (.slice a0 m c0) evs) := h
  have Hm : Hid _ := hm
  have Hl : Hid (evs.length ≤ 100000) := by show _ ≤ _; omega
  have Hfit : Hid _ := hfit
  obtain ⟨C, hC⟩ : ∃ C, C = checkF n evs := ⟨_, rfl⟩
  have HC : Hid _ := hC
  obtain ⟨R, hR⟩ : ∃ R, R = livesF n evs := ⟨_, rfl⟩
  rw [← hR]
  have HR : Hid _ := hR
  clear h hm hfit hC hR
  have Hh : Hid (histV n (.slice a0 m c0) = .agg #[.int .u64 (n : Int), .slice a0 m c0]) := rfl
  rw [Hh.out]
  go_enter Tryz.func19, Tryz.ntmps19
  go_upto_region 1 with fail
  obtain ⟨p, hp⟩ : ∃ p, p = w.heap.size := ⟨_, rfl⟩
  obtain ⟨wa, hwa⟩ : ∃ wa, wa = w.alloc (.cells #[.int .u64 (n : Int), .slice a0 m c0] 25) := ⟨_, rfl⟩
  rw [← hwa, ← hp]
  have Hpb : Hid (∀ z, Fr wa z (fun _ => False) → z.heap[p]? = some (.cells #[.int .u64 (n : Int), .slice a0 m c0] 25 (0, 0))) := fun z hz => hz.kept (by rw [hwa, hp]; exact heap_alloc_new _ _) (fun h => h)
  have Hwa : Hid (Fr w wa (fun _ => False)) := by show Fr _ _ _; rw [hwa]; exact (Fr.refl _ _).alloc _
  have Hr : Hid (∀ z, Fr wa z (fun _ => False) → RdV z (.slice a0 m c0) evs) := fun z hz => Hr.out.keep (Hwa.out.none hz)
  clear hp hwa
  obtain ⟨ca, cb⟩ : wa.cell? ⟨p, 0, none⟩ = some (.int .u64 (n : Int)) ∧ wa.cell? ⟨p, 1, none⟩ = some (.slice a0 m c0) := ⟨two_cell0 (Hpb.out wa (Fr.refl _ _)), two_cell1 (Hpb.out wa (Fr.refl _ _))⟩
  go_wp2_with fail
  refine (refCheck_any n _ evs wa (Hr.out wa (Fr.refl _ _)) (by have := Hl.out; omega) Hfit.out).mono ?_
  rw [← HC.out]
  rintro r x1 ⟨rfl, g⟩
  have G1 : Hid (Fr wa x1 (fun _ => False)) := g
  obtain ⟨C1, C2⟩ := C
  dsimp only
  clear g ca cb
  by_cases hc : C2 = 0
  case neg =>
    have Hres : Hid (R = ([], C2)) := by show _ = _; rw [HR.out]; unfold livesF; rw [← HC.out]; exact if_neg hc
    obtain rfl := Hres.out
    have d1 : ((C2 : Int) != 0) = true := by rw [bne_iff_ne]; omega
    have d1' : ((C2 : Int) == 0) = false := by rw [beq_eq_false_iff_ne]; omega
    have d1n : (C2 == 0) = false := by rw [beq_eq_false_iff_ne]; exact hc
    have Hfo : Hid (Fr w x1 (fun _ => False)) := Hwa.out.none G1.out
    have Hrd : Hid (RdL x1 (.slice none 0 0) []) := RdL.nil _
    go_wp2
    go_ret2
    exact ⟨⟨_, rfl, Hrd.out⟩, Hfo.out⟩
  subst hc
  have Hck : Hid ((checkF n evs).2 = 0) := by show _ = _; rw [← HC.out]
  obtain ⟨Rl, hRl⟩ : ∃ Rl, Rl = livesE [] evs := ⟨_, rfl⟩
  have Hres : Hid (R = (Rl, 0)) := by show _ = _; rw [HR.out, hRl]; unfold livesF; exact if_pos Hck.out
  obtain rfl := Hres.out
  have HRl : Hid _ := hRl
  have Htm : Hid (∀ x ∈ evs, 0 ≤ x.1) := fun x hx => (good_times (good_check Hck.out).2.2.1 x hx).1
  clear hRl HC HR
  go_wp2_with fail
  go_loopg [6, 7] m (fun g S I wr => ∃ (i : Nat) (out : List Lf), g = m - i ∧ i ≤ m ∧ I = .int .i64 (i : Int) ∧ RdL wr S out ∧ out.length ≤ i ∧ livesE out (evs.drop i) = Rl ∧ Fr wa wr (fun _ => False))
  case atStart => exact ⟨0, [], by omega, by omega, rfl, RdL.nil _, by simp, HRl.out.symm, G1.out⟩
  case round =>
    obtain ⟨i, out, hg, hi, rfl, hout, hol, hst, hf⟩ := hrel
    obtain ⟨ao, co, hS, hco⟩ := hout.form
    obtain ⟨L, hL⟩ : ∃ L, L = out.length := ⟨_, rfl⟩
    rw [← hL] at hS hco hol
    subst hS
    have Hg : Hid _ := hg
    have Hout : Hid (RdL wr (.slice ao L co) out) := hout
    have Hol : Hid _ := hol
    have Hco : Hid _ := hco
    have HL : Hid _ := hL
    have Hs : Hid _ := hst
    have Hf : Hid (Fr wa wr (fun _ => False)) := hf
    clear hg hout hol hst hf hL hco
    obtain ⟨ca, cb⟩ : wr.cell? ⟨p, 0, none⟩ = some (.int .u64 (n : Int)) ∧ wr.cell? ⟨p, 1, none⟩ = some (.slice a0 m c0) := ⟨two_cell0 (Hpb.out wr Hf.out), two_cell1 (Hpb.out wr Hf.out)⟩
    by_cases hlt : i < m
    case neg =>
      have hin : ¬ (i : Int) < (m : Int) := by omega
      have hin' : decide (i < m) = false := decide_eq_false hlt
      have Hres : Hid (Rl = out) := by
        show _ = _
        rw [← Hs.out, List.drop_eq_nil_of_le (by rw [← Hm.out]; omega), livesE]
      obtain rfl := Hres.out
      have Hfo : Hid (Fr w wr (fun _ => False)) := Hwa.out.none Hf.out
      go_wp2
      go_ret2
      exact ⟨⟨_, rfl, Hout.out⟩, Hfo.out⟩
    have hin : (i : Int) < (m : Int) := by omega
    have hin' : decide (i < m) = true := decide_eq_true hlt
    obtain ⟨⟨t, ⟨e1, e2⟩, ad⟩, ha⟩ : ∃ a, evs[i]? = some a := ⟨_, List.getElem?_eq_getElem (by rw [← Hm.out]; omega)⟩
    have Hst : Hid (livesE (if ad = true then gIns lLess out ((e1, e2), t, endF (e1, e2) (evs.drop (i + 1))) else out) (evs.drop (i + 1)) = Rl) := by
      show _ = _
      rw [← Hs.out, drop_at ha]
      rfl
    obtain ⟨bk, off, cap, e3, hbk, hca⟩ := (Hr.out wa (Fr.refl _ _)).get i _ ha
    simp only [Value.slice.injEq] at e3
    obtain ⟨rfl, -, rfl⟩ := e3
    obtain ⟨k0, k1, k2, k3⟩ := hca wr (Hf.out.mono (fun _ _ h => h.elim))
    have hi0 : (0 : Int) ≤ (i : Int) := by omega
    clear hca ha hbk Hs
    go_upto_region 9 with fail
    obtain ⟨pe, hpe⟩ : ∃ p, p = wr.heap.size := ⟨_, rfl⟩
    obtain ⟨wE, hwE⟩ : ∃ x, x = wr.alloc (.cells #[.int .i64 t, .int .u32 (e1 : Int), .int .u32 (e2 : Int), .bool ad] 60) := ⟨_, rfl⟩
    rw [← hwE, ← hpe]
    have Hpe : Hid (wE.heap[pe]? = some (.cells #[.int .i64 t, .int .u32 (e1 : Int), .int .u32 (e2 : Int), .bool ad] 60 (0, 0))) := by show _ = _; rw [hwE, hpe]; exact heap_alloc_new _ _
    have HfE : Hid (Fr wa wE (fun _ => False)) := by show Fr _ _ _; rw [hwE]; exact Hf.out.alloc _
    have Hout : Hid (RdL wE (.slice ao L co) out) := by show RdL _ _ _; rw [hwE]; exact Hout.out.keep ((Fr.refl _ _).alloc _)
    clear k0 k1 k2 k3 ca cb hwE hpe
    obtain ⟨k0, k1, k2, k3⟩ := four_cells Hpe.out
    cases ad with
    | false =>
      go_wp2_with fail
      go_roundg (m - (i + 1))
      case rel => exact ⟨i + 1, out, rfl, by omega, by go_num, Hout.out, by rw [← HL.out]; have := Hol.out; omega, Hst.out, HfE.out⟩
      case measure => rw [Hg.out]; omega
    | true =>
    obtain ⟨E, hE⟩ : ∃ E, E = endF (e1, e2) (evs.drop (i + 1)) := ⟨_, rfl⟩
    have HE : Hid _ := hE
    have Hst : Hid (livesE (gIns lLess out ((e1, e2), t, E)) (evs.drop (i + 1)) = Rl) := by show _ = _; rw [HE.out]; exact Hst.out
    clear hE
    go_upto_region 11 with fail
    obtain ⟨pl, hpl⟩ : ∃ p, p = wE.heap.size := ⟨_, rfl⟩
    obtain ⟨wl, hwl⟩ : ∃ x, x = wE.alloc (.cells #[.int .u32 (e1 : Int), .int .u32 (e2 : Int), .int .i64 t, .int .i64 (-1)] 82) := ⟨_, rfl⟩
    rw [← hwl, ← hpl]
    have Hpl : Hid (wl.heap[pl]? = some (.cells #[.int .u32 (e1 : Int), .int .u32 (e2 : Int), .int .i64 t, .int .i64 (-1)] 82 (0, 0))) := by show _ = _; rw [hwl, hpl]; exact heap_alloc_new _ _
    have Hpw : Hid (wE.heap.size ≤ pl) := by show _ ≤ _; omega
    have HEl : Hid (Fr wE wl (fun _ => False)) := by show Fr _ _ _; rw [hwl]; exact (Fr.refl _ _).alloc _
    clear k0 k1 k2 k3 hwl hpl
    go_wp2_with fail
    go_loopg [10] (m - (i + 1)) (fun g I wr => ∃ (k : Nat) (To : Int), g = m - k ∧ k ≤ m ∧ i + 1 ≤ k ∧ I = .int .i64 (k : Int) ∧ wr.heap[pl]? = some (.cells #[.int .u32 (e1 : Int), .int .u32 (e2 : Int), .int .i64 t, .int .i64 To] 82 (0, 0)) ∧ ((To = -1 ∧ endF (e1, e2) (evs.drop k) = E) ∨ (0 ≤ To ∧ To = E)) ∧ Fr wE wr (fun _ => False))
    case atStart => exact ⟨i + 1, -1, rfl, by omega, Nat.le_refl _, by go_num, Hpl.out, .inl ⟨rfl, HE.out.symm⟩, HEl.out⟩
    case round =>
      obtain ⟨k, To, hg2, hk, hik, rfl, hpl, hto, hf2⟩ := hrel
      have Hg2 : Hid _ := hg2
      have Hpl : Hid _ := hpl
      have Hto : Hid _ := hto
      have Hf2 : Hid (Fr wE wr (fun _ => False)) := hf2
      have Hlw : Hid (∀ z, Fr wr z (fun j => j = pl) → Fr wE z (fun _ => False)) := fun z hz => Hf2.out.trans hz (fun j hj h => by have := Hpw.out; omega)
      obtain ⟨cb⟩ : Nonempty (wr.cell? ⟨p, 1, none⟩ = some (.slice (some ⟨bk, off, none⟩) m c0)) := ⟨two_cell1 (Hpb.out wr (HfE.out.none Hf2.out))⟩
      obtain ⟨l0, l1, l2, l3⟩ := four_cells Hpl.out
      clear hg2 hpl hto hf2
      obtain ⟨B, hB⟩ : ∃ B, B = decide (k < m ∧ To < 0) := ⟨_, rfl⟩
      have HB : Hid _ := hB
      clear hB
      go_upto_region 12 with fail
      go_cut [51] from 42 to 69 (fun V wx => V = .bool B ∧ wx = wr)
      case first =>
        by_cases h1 : k < m
        · have d1 : decide ((k : Int) < (m : Int)) = true := decide_eq_true (by omega)
          have d1' : decide (k < m) = true := decide_eq_true h1
          have d1p : (k : Int) < (m : Int) := by omega
          have HBT : Hid (decide (To < 0) = B) := by show _ = _; rw [HB.out]; exact decide_eq_decide.2 ⟨fun h => ⟨h1, h⟩, fun h => h.2⟩
          go_wp2_with fail
          go_meet
          case rel => exact ⟨by first | rfl | rw [HBT.out], rfl⟩
        · have d1 : decide ((k : Int) < (m : Int)) = false := decide_eq_false (by omega)
          have d1' : decide (k < m) = false := decide_eq_false h1
          have d1p : ¬ (k : Int) < (m : Int) := by omega
          have HBT : Hid (B = false) := by show _ = _; rw [HB.out]; exact decide_eq_false (fun h => h1 h.1)
          obtain rfl := HBT.out
          go_wp2_with fail
          go_meet
          case rel => exact ⟨rfl, rfl⟩
      case rest =>
        obtain ⟨rfl, rfl⟩ := hcut
        rename_i hKc
        refine hKc _ _ ?_
        clear hKc
        cases B with
        | true =>
          obtain ⟨hkm, hT⟩ := of_decide_eq_true HB.out.symm
          have HTo : Hid (To = -1 ∧ endF (e1, e2) (evs.drop k) = E) := by
            rcases Hto.out with h | h
            · exact h
            · omega
          obtain ⟨⟨s, ⟨f1, f2⟩, ax⟩, ha⟩ : ∃ a, evs[k]? = some a := ⟨_, List.getElem?_eq_getElem (by rw [← Hm.out]; omega)⟩
          have Hs0 : Hid (0 ≤ s) := Htm.out _ (List.mem_of_getElem? ha)
          have Hdr : Hid (evs.drop k = (s, (f1, f2), ax) :: evs.drop (k + 1)) := drop_at ha
          obtain ⟨bk', off', cap', e4, hbk, hca⟩ := (Hr.out wa (Fr.refl _ _)).get k _ ha
          simp only [Value.slice.injEq, Option.some.injEq, Addr.mk.injEq] at e4
          obtain ⟨⟨rfl, rfl, -⟩, -, rfl⟩ := e4
          have HG : Hid (Fr wa wc.drew (fun _ => False)) := (HfE.out.none Hf2.out).drew
          have HG2 : Hid (Fr wE wc.drew (fun _ => False)) := Hf2.out.drew
          have ka : ∀ z, Fr wc.drew z (fun _ => False) → z.cell? ⟨bk, off + k * 4, none⟩ = some (.int .i64 s) := fun z hz => (hca z ((HG.out.none hz).mono (fun _ _ h => h.elim))).1
          have kb : ∀ z, Fr wc.drew z (fun _ => False) → z.cell? ⟨bk, off + k * 4 + 1, none⟩ = some (.int .u32 (f1 : Int)) := fun z hz => (hca z ((HG.out.none hz).mono (fun _ _ h => h.elim))).2.1
          have kc : ∀ z, Fr wc.drew z (fun _ => False) → z.cell? ⟨bk, off + k * 4 + 2, none⟩ = some (.int .u32 (f2 : Int)) := fun z hz => (hca z ((HG.out.none hz).mono (fun _ _ h => h.elim))).2.2.1
          have kf : ∀ z, Fr wc.drew z (fun _ => False) → z.cell? ⟨pe, 1, none⟩ = some (.int .u32 (e1 : Int)) := fun z hz => (four_cells ((HG2.out.none hz).kept Hpe.out (fun h => h))).2.1
          have kg : ∀ z, Fr wc.drew z (fun _ => False) → z.cell? ⟨pe, 2, none⟩ = some (.int .u32 (e2 : Int)) := fun z hz => (four_cells ((HG2.out.none hz).kept Hpe.out (fun h => h))).2.2.1
          have kp : ∀ z, Fr wc.drew z (fun _ => False) → z.cell? ⟨p, 1, none⟩ = some (.slice (some ⟨bk, off, none⟩) m c0) := fun z hz => two_cell1 (Hpb.out z (HG.out.none hz))
          have hkn : (k : Int) < (m : Int) := by omega
          have hk0 : (0 : Int) ≤ (k : Int) := by omega
          obtain ⟨D, hD⟩ : ∃ D, D = decide ((f1, f2) = (e1, e2)) := ⟨_, rfl⟩
          have HD : Hid _ := hD
          have Hca : Hid (∀ z, Fr wa z (fun _ => False) → z.cell? ⟨bk, off + k * 4, none⟩ = some (.int .i64 s)) := fun z hz => (hca z (hz.mono (fun _ _ h => h.elim))).1
          clear hca ha hbk hD
          go_wp2_with fail
          refine wp_region_tree (fun _ => False) (.take 0 (.take 1 (.take 2 (.take 3 (.take 4 (.take 5 (.take 6 (.take 7 (.take 8 .nil))))))))) (by kernel_rfl) (by kernel_rfl) (by decide) (by kernel_rfl) ?_
          iterate 8 (refine wpT_take (v := ?_) rfl rfl (fun x hx => ?_) ?_; rotate_left; (focus (go_simp; with_reducible rfl)); simp only [Act.put, List.setIfInBounds_toArray, List.set_cons_zero, List.set_cons_succ])
          refine wpT_take (v := .bool D) rfl rfl (fun x hx => ?_) ?_
          · rw [HD.out]
            go_simp
            by_cases h1 : f1 = e1 <;> by_cases h2 : f2 = e2 <;> simp [h1, h2, Int.ofNat_inj]
          simp only [Act.put, List.setIfInBounds_toArray, List.set_cons_zero, List.set_cons_succ]
          clear ka kb kc kf kg kp l0 l1 l2 l3 cb
          unfold wpT
          have Hpd : Hid (wc.drew.heap[pl]? = some (.cells #[.int .u32 (e1 : Int), .int .u32 (e2 : Int), .int .i64 t, .int .i64 To] 82 (0, 0))) := Hpl.out
          generalize wc.drew = wd at HG HG2 Hpd ⊢
          cases D with
          | true =>
            have HsE : Hid (s = E) := by show _ = _; rw [← HTo.out.2, Hdr.out, endF_eq (x := (s, (f1, f2), ax)) (of_decide_eq_true HD.out.symm)]
            have k0 := Hca.out wd HG.out
            have cb := two_cell1 (Hpb.out wd HG.out)
            obtain ⟨l0, l1, l2, l3⟩ := four_cells Hpd.out
            have fz := four_free (k := 3) Hpd.out
            have Hp3 : Hid _ := four_set3 (u := .int .i64 s) Hpd.out
            have Hf3 : Hid (Fr wE (wd.setCell ⟨pl, 3, none⟩ (.int .i64 s)) (fun _ => False)) := HG2.out.trans (fr_cell _ _ _ _) (fun j hj h => by have := Hpw.out; omega)
            go_wp2_with fail
            go_roundg (m - (k + 1))
            case rel => exact ⟨k + 1, s, rfl, by omega, by omega, by go_num, Hp3.out, .inr ⟨Hs0.out, HsE.out⟩, Hf3.out⟩
            case measure => rw [Hg2.out]; omega
          | false =>
            have Hnx : Hid (endF (e1, e2) (evs.drop (k + 1)) = E) := by show _ = _; rw [← HTo.out.2, Hdr.out, endF_ne (x := (s, (f1, f2), ax)) (of_decide_eq_false HD.out.symm)]
            go_wp2_with fail
            go_roundg (m - (k + 1))
            case rel => exact ⟨k + 1, To, rfl, by omega, by omega, by go_num, Hpd.out, .inl ⟨HTo.out.1, Hnx.out⟩, HG2.out⟩
            case measure => rw [Hg2.out]; omega
        | false =>
          have HTo : Hid (To = E) := by
            show _ = _
            rcases Hto.out with ⟨h1, h2⟩ | ⟨h1, h2⟩
            · have h3 := of_decide_eq_false HB.out.symm
              have h4 : k = m := by omega
              rw [h1, ← h2, List.drop_eq_nil_of_le (by rw [← Hm.out]; omega)]
              rfl
            · exact h2
          obtain rfl := HTo.out
          obtain ⟨wb, hwb⟩ : ∃ x, x = wc := ⟨_, rfl⟩
          subst hwb
          have HoutB : Hid (∀ z, Fr wb z (fun _ => False) → RdL z (.slice ao L co) out) := fun z hz => Hout.out.keep (Hf2.out.none hz)
          have HplB : Hid (∀ z, Fr wb z (fun _ => False) → z.heap[pl]? = some (.cells #[.int .u32 (e1 : Int), .int .u32 (e2 : Int), .int .i64 t, .int .i64 To] 82 (0, 0))) := fun z hz => hz.kept Hpl.out (fun h => h)
          have HfB : Hid (Fr wa wb (fun _ => False)) := HfE.out.none Hf2.out
          clear l0 l1 l2 l3 cb hik hk Hlw Hpl Hpw HEl Hout HfE Hpe Hf2 Hto
          go_wp2_with fail
          go_loopg [11] L (fun g I wr => ∃ j : Nat, g = j ∧ j ≤ L ∧ I = .int .i64 (j : Int) ∧ gK lLess out ((e1, e2), t, To) j = gK lLess out ((e1, e2), t, To) out.length ∧ Fr wb wr (fun _ => False))
          case atStart => exact ⟨L, rfl, Nat.le_refl _, rfl, by rw [← HL.out], Fr.refl _ _⟩
          case round =>
            obtain ⟨j, hg3, hj, rfl, hle, hf3⟩ := hrel
            have Hg3 : Hid _ := hg3
            have Hle : Hid _ := hle
            have Hf3 : Hid (Fr wb wr (fun _ => False)) := hf3
            clear hg3 hle hf3
            obtain ⟨B, hB⟩ : ∃ B, B = lessBack out ((e1, e2), t, To) j := ⟨_, rfl⟩
            have HB : Hid _ := hB
            clear hB
            go_upto_region 17 with fail
            go_cut [82] from 72 to 84 (fun V wx => V = .bool B ∧ Fr wr wx (fun _ => False))
            case first =>
              by_cases h0 : j = 0
              · subst h0
                obtain rfl : B = false := HB.out
                go_wp2_with fail
                refine wp_region_tree (fun _ => False) (.take 0 (.take 1 (.take 2 (.take 3 (.take 4 (.take 5 (.take 6 (.take 7 (.take 8 (.one 9 (.take 10 .nil))))))))))) (by kernel_rfl) (by kernel_rfl) (by decide) (by kernel_rfl) ?_
                iterate 3 (refine wpT_take (v := ?_) rfl rfl (fun x hx => ?_) ?_; rotate_left; (focus (go_simp; with_reducible rfl)); simp only [Act.put, List.setIfInBounds_toArray, List.set_cons_zero, List.set_cons_succ])
                iterate 6 (refine wpT_pass rfl rfl ?_; simp only [Act.put, List.setIfInBounds_toArray, List.set_cons_zero, List.set_cons_succ])
                refine wpT_skip rfl rfl ?_
                simp only [Act.put, List.setIfInBounds_toArray, List.set_cons_zero, List.set_cons_succ]
                repeat (refine wpT_take (v := ?_) rfl rfl (fun x hx => ?_) ?_; rotate_left; (focus (go_simp; with_reducible rfl)); simp only [Act.put, List.setIfInBounds_toArray, List.set_cons_zero, List.set_cons_succ])
                have G3 : Hid (Fr wr wr.drew (fun _ => False)) := (Fr.refl wr (fun _ => False)).drew
                unfold wpT
                go_wp2_with fail
                go_meet
                case rel => exact ⟨rfl, G3.out⟩
              · obtain ⟨j1, hje⟩ : ∃ q, j = q + 1 := ⟨j - 1, by omega⟩
                obtain ⟨⟨⟨f1, f2⟩, s, s2⟩, ha⟩ : ∃ a, out[j1]? = some a := ⟨_, List.getElem?_eq_getElem (by rw [← HL.out]; omega)⟩
                have HB2 : Hid (lLess ((e1, e2), t, To) ((f1, f2), s, s2) = B) := by
                  show _ = _
                  rw [HB.out, hje]
                  show _ = (out[j1]?.map (fun x => lLess ((e1, e2), t, To) x)).getD false
                  rw [ha]
                  rfl
                obtain ⟨bo, oo, co', e3, hbo, hca⟩ := (HoutB.out wb (Fr.refl _ _)).get j1 _ ha
                simp only [Value.slice.injEq] at e3
                obtain ⟨rfl, -, rfl⟩ := e3
                have HG : Hid (Fr wb wr.drew (fun _ => False)) := Hf3.out.drew
                have ka : ∀ z, Fr wr.drew z (fun _ => False) → z.cell? ⟨bo, oo + j1 * 4, none⟩ = some (.int .u32 (f1 : Int)) := fun z hz => (hca z ((HG.out.none hz).mono (fun _ _ h => h.elim))).1
                have kb : ∀ z, Fr wr.drew z (fun _ => False) → z.cell? ⟨bo, oo + j1 * 4 + 1, none⟩ = some (.int .u32 (f2 : Int)) := fun z hz => (hca z ((HG.out.none hz).mono (fun _ _ h => h.elim))).2.1
                have kc : ∀ z, Fr wr.drew z (fun _ => False) → z.cell? ⟨bo, oo + j1 * 4 + 2, none⟩ = some (.int .i64 s) := fun z hz => (hca z ((HG.out.none hz).mono (fun _ _ h => h.elim))).2.2.1
                have kd : ∀ z, Fr wr.drew z (fun _ => False) → z.cell? ⟨bo, oo + j1 * 4 + 3, none⟩ = some (.int .i64 s2) := fun z hz => (hca z ((HG.out.none hz).mono (fun _ _ h => h.elim))).2.2.2
                have ke : ∀ z, Fr wr.drew z (fun _ => False) → z.cell? ⟨pl, 0, none⟩ = some (.int .u32 (e1 : Int)) := fun z hz => (four_cells (HplB.out z (HG.out.none hz))).1
                have kf : ∀ z, Fr wr.drew z (fun _ => False) → z.cell? ⟨pl, 1, none⟩ = some (.int .u32 (e2 : Int)) := fun z hz => (four_cells (HplB.out z (HG.out.none hz))).2.1
                have kg : ∀ z, Fr wr.drew z (fun _ => False) → z.cell? ⟨pl, 2, none⟩ = some (.int .i64 t) := fun z hz => (four_cells (HplB.out z (HG.out.none hz))).2.2.1
                have kh : ∀ z, Fr wr.drew z (fun _ => False) → z.cell? ⟨pl, 3, none⟩ = some (.int .i64 To) := fun z hz => (four_cells (HplB.out z (HG.out.none hz))).2.2.2
                have hpos : decide ((0 : Int) < (j : Int)) = true := decide_eq_true (by omega)
                have hpos' : decide (0 < j) = true := decide_eq_true (by omega)
                have hsub : IntKind.i64.wrap ((j : Int) - 1) = (j1 : Int) := by have h1 := Hol.out; rw [IntWalk.i64_in _ (by omega)]; omega
                have hk1 : (j1 : Int) < (L : Int) := by omega
                have hk10 : (0 : Int) ≤ (j1 : Int) := by omega
                clear hca hbo ha hje
                go_wp2_with fail
                refine wp_region_tree (fun _ => False) (.take 0 (.take 1 (.take 2 (.take 3 (.take 4 (.take 5 (.take 6 (.take 7 (.take 8 (.one 9 (.take 10 .nil))))))))))) (by kernel_rfl) (by kernel_rfl) (by decide) (by kernel_rfl) ?_
                repeat (refine wpT_take (v := ?_) rfl rfl (fun x hx => ?_) ?_; rotate_left; (focus (go_simp; with_reducible rfl)); simp only [Act.put, List.setIfInBounds_toArray, List.set_cons_zero, List.set_cons_succ])
                refine wpT_one rfl rfl (fun K hK => ?_)
                go_simp
                refine (refLifeLess_any ((e1, e2), t, To) ((f1, f2), s, s2) _).mono ?_
                rw [HB2.out]
                rintro r x3 ⟨rfl, g⟩
                refine hK _ _ g ?_
                clear hK K ka kb kc kd ke kf kg kh
                have G3 : Hid (Fr wr x3 (fun _ => False)) := (Fr.refl wr (fun _ => False)).drew.none g
                clear g
                repeat (refine wpT_take (v := ?_) rfl rfl (fun x hx => ?_) ?_; rotate_left; (focus (go_simp; with_reducible rfl)); simp only [Act.put, List.setIfInBounds_toArray, List.set_cons_zero, List.set_cons_succ])
                unfold wpT
                go_wp2_with fail
                go_meet
                case rel => exact ⟨rfl, G3.out⟩
            case rest =>
              obtain ⟨rfl, hfc⟩ := hcut
              rename_i hKc
              refine hKc _ _ ?_
              clear hKc
              have Hfc : Hid (Fr wb wc (fun _ => False)) := Hf3.out.none hfc
              clear hfc
              cases B with
              | true =>
                obtain ⟨j1, hje⟩ : ∃ q, j = q + 1 := by
                  cases j with
                  | zero => have := HB.out; cases this
                  | succ q => exact ⟨q, rfl⟩
                have Hle2 : Hid (gK lLess out ((e1, e2), t, To) j1 = gK lLess out ((e1, e2), t, To) out.length) := by
                  show _ = _
                  rw [← Hle.out, hje, gK, if_pos (by have := HB.out; rw [hje] at this; exact this.symm)]
                have hsub : (j : Int) - 1 = (j1 : Int) := by omega
                have hjb : j1 ≤ 100000 := by have := Hol.out; omega
                go_wp2_with fail
                go_roundg j1
                case rel => exact ⟨j1, rfl, by omega, by go_num, Hle2.out, Hfc.out⟩
                case measure => rw [Hg3.out]; omega
              | false =>
                have HK : Hid (gK lLess out ((e1, e2), t, To) out.length = j) := by show _ = _; rw [← Hle.out]; exact gK_end HB.out.symm
                have HgI : Hid (gIns lLess out ((e1, e2), t, To) = out.take j ++ ((e1, e2), t, To) :: out.drop j) := by show _ = _; unfold gIns; rw [HK.out]
                have HlI : Hid ((out.take j ++ ((e1, e2), t, To) :: out.drop j).length ≤ i + 1) := by show _ ≤ _; have h1 := Hol.out; have h2 := HL.out; rw [List.length_append, List.length_cons, List.length_take, List.length_drop]; omega
                have Hst2 : Hid (livesE (out.take j ++ ((e1, e2), t, To) :: out.drop j) (evs.drop (i + 1)) = Rl) := by show _ = _; rw [← HgI.out]; exact Hst.out
                obtain ⟨W, hW⟩ : ∃ W, W = wc.drew := ⟨_, rfl⟩
                have HfW : Hid (Fr wb W (fun _ => False)) := by rw [hW]; exact Hfc.out.drew
                have ka : ∀ z, Fr W z (fun k => W.heap.size ≤ k) → z.cell? ⟨pl, 0, none⟩ = some (.int .u32 (e1 : Int)) := fun z hz => (four_cells (HplB.out z (HfW.out.none (hz.old (Nat.le_refl _))))).1
                have kb : ∀ z, Fr W z (fun k => W.heap.size ≤ k) → z.cell? ⟨pl, 1, none⟩ = some (.int .u32 (e2 : Int)) := fun z hz => (four_cells (HplB.out z (HfW.out.none (hz.old (Nat.le_refl _))))).2.1
                have kc : ∀ z, Fr W z (fun k => W.heap.size ≤ k) → z.cell? ⟨pl, 2, none⟩ = some (.int .i64 t) := fun z hz => (four_cells (HplB.out z (HfW.out.none (hz.old (Nat.le_refl _))))).2.2.1
                have kd : ∀ z, Fr W z (fun k => W.heap.size ≤ k) → z.cell? ⟨pl, 3, none⟩ = some (.int .i64 To) := fun z hz => (four_cells (HplB.out z (HfW.out.none (hz.old (Nat.le_refl _))))).2.2.2
                have hkc : (j : Int) ≤ (co : Int) := by have := Hco.out; omega
                have hkn : (j : Int) ≤ (L : Int) := by omega
                have hk0 : (0 : Int) ≤ (j : Int) := by omega
                obtain ⟨A, hA⟩ : ∃ A, (if co = j then ao else Option.map (fun x => x.add (j * 4)) ao) = A := ⟨_, rfl⟩
                have Hpre : Hid (RdL W (.slice ao j co) (out.take j)) := (HoutB.out W HfW.out).take HL.out.symm j hj
                have Hpost : Hid (RdL W (.slice A (L - j) (co - j)) (out.drop j)) := by rw [← hA]; exact (HoutB.out W HfW.out).drop HL.out.symm j hj
                have Hll : Hid ((out.take j).length + 1 + (out.drop j).length ≤ 2000000) := by have h0 := Hl.out; have h1 := Hol.out; have h2 := HL.out; have h3 := Hm.out; show _ ≤ _; rw [List.length_take, List.length_drop]; omega
                go_wp2_with fail
                refine wp_region_tree (fun k => W.heap.size ≤ k) (.take 0 (.take 1 (.take 2 (.take 4 (.take 7 (.take 8 (.take 9 (.two 3 (.one 5 (.one 6 (.one 10 (.take 11 .nil)))) 5 (.one 3 (.one 6 (.one 10 (.take 11 .nil)))))))))))) (by kernel_rfl) (by kernel_rfl) (by decide) (by kernel_rfl) ?_
                rw [← hW]
                clear hW
                repeat (refine wpT_take (v := ?_) rfl rfl (fun x hx => ?_) ?_; rotate_left; (focus (go_simp; with_reducible rfl)); simp only [Act.put, List.setIfInBounds_toArray, List.set_cons_zero, List.set_cons_succ])
                clear ka kb kc kd
                have e0 : Fr W W (fun k => W.heap.size ≤ k) := Fr.refl _ _
                refine wpT_two rfl rfl rfl rfl (fun K hK => ?_) (fun K hK => ?_)
                · obtain ⟨v4, w4, hrun4, ho4, hf4, hn4⟩ := app_lives_nil W (.slice ao j co) _ W.heap.size (Nat.le_refl _) Hpre.out (by have := Hll.out; omega)
                  refine op_append_run (.const (.slice none 0 0)) (.tmp 87) 51 rfl rfl rfl hrun4 ?_
                  refine hK _ _ hf4 ?_
                  clear hK K
                  simp only [Act.put, List.setIfInBounds_toArray, List.set_cons_zero, List.set_cons_succ]
                  refine wpT_one rfl rfl (fun K hK => ?_)
                  go_simp
                  refine hK _ _ (((Fr.refl w4 (fun _ => False)).alloc _).mono (fun _ _ h => h.elim)) ?_
                  clear hK K
                  have hfl : Fr W (w4.alloc (.cells #[.int .u32 (e1 : Int), .int .u32 (e2 : Int), .int .i64 t, .int .i64 To] 82)) (fun k => W.heap.size ≤ k) := hf4.alloc _
                  have hlit := lit_life w4 ((e1, e2), t, To)
                  have hof := ho4.alloc (.cells #[.int .u32 (e1 : Int), .int .u32 (e2 : Int), .int .i64 t, .int .i64 To] 82)
                  obtain ⟨v5, w5, hrun5, ho5, hf5, hn5⟩ := app_lives_new _ v4 _ _ [((e1, e2), t, To)] W.heap.size hfl.size hof hn4 hlit (by have := Hll.out; simp only [List.length_singleton]; omega)
                  refine wpT_one rfl rfl (fun K hK => ?_)
                  refine op_append_run (.tmp 88) (.tmp 90) 51 rfl rfl rfl hrun5 ?_
                  refine hK _ _ hf5 ?_
                  clear hK K
                  simp only [Act.put, List.setIfInBounds_toArray, List.set_cons_zero, List.set_cons_succ]
                  have hf6 : Fr W w5 (fun k => W.heap.size ≤ k) := (hfl).trans hf5 (fun _ _ h => h)
                  obtain ⟨v6, w6, hrun6, ho6, hf7, hn6⟩ := app_lives_new w5 v5 (.slice A (L - j) (co - j)) _ _ W.heap.size hf6.size ho5 hn5 (Hpost.out.keep (hf6.old (Nat.le_refl _))) (by have := Hll.out; rw [List.length_append, List.length_singleton]; omega)
                  refine wpT_one rfl rfl (fun K hK => ?_)
                  refine op_append_run (.tmp 91) (.tmp 94) 51 rfl rfl rfl hrun6 ?_
                  refine hK _ _ hf7 ?_
                  clear hK K
                  simp only [Act.put, List.setIfInBounds_toArray, List.set_cons_zero, List.set_cons_succ]
                  repeat (refine wpT_take (v := ?_) rfl rfl (fun x hx => ?_) ?_; rotate_left; (focus (go_simp; with_reducible rfl)); simp only [Act.put, List.setIfInBounds_toArray, List.set_cons_zero, List.set_cons_succ])
                  have Hfo : Hid (Fr wa w6 (fun _ => False)) := (HfB.out.none HfW.out).none ((hf6.trans hf7 (fun _ _ h => h)).old (Nat.le_refl _))
                  have Ho6 : Hid (OwnL w6 v6 (out.take j ++ ((e1, e2), t, To) :: out.drop j)) := by rw [List.append_assoc] at ho6; exact ho6
                  clear hf4 hf5 hf6 hf7 hfl ho4 ho5 ho6 hn4 hn5 hn6 hrun4 hrun5 hrun6 hlit
                  unfold wpT
                  go_wp2_with fail
                  go_roundg (m - (i + 1))
                  case rel => exact ⟨i + 1, _, rfl, by omega, by go_num, Ho6.out.rd, HlI.out, Hst2.out, Hfo.out⟩
                  case measure => rw [Hg.out]; omega
                · go_simp
                  refine hK _ _ (((Fr.refl W (fun _ => False)).alloc _).mono (fun _ _ h => h.elim)) ?_
                  clear hK K
                  have hfl : Fr W (W.alloc (.cells #[.int .u32 (e1 : Int), .int .u32 (e2 : Int), .int .i64 t, .int .i64 To] 82)) (fun k => W.heap.size ≤ k) := e0.alloc _
                  have hlit := lit_life W ((e1, e2), t, To)
                  obtain ⟨v4, w4, hrun4, ho4, hf4a, hn4a⟩ := app_lives_nil _ (.slice ao j co) _ (W.heap.size + 1) (by simp) (Hpre.out.keep (hfl.old (Nat.le_refl _))) (by have := Hll.out; omega)
                  have hf4 := hf4a.mono (T := fun k => W.heap.size ≤ k) (fun i _ hi => by omega)
                  have hn4 : ∀ k, v4.ownBlock = some k → W.heap.size ≤ k := fun k hk => by have := hn4a k hk; omega
                  refine wpT_one rfl rfl (fun K hK => ?_)
                  refine op_append_run (.const (.slice none 0 0)) (.tmp 87) 51 rfl rfl rfl hrun4 ?_
                  refine hK _ _ hf4 ?_
                  clear hK K
                  simp only [Act.put, List.setIfInBounds_toArray, List.set_cons_zero, List.set_cons_succ]
                  have hlit2 := hlit.frame hf4a (fun _ k hk => by simp [Value.ownBlock] at hk; subst hk; omega)
                  obtain ⟨v5, w5, hrun5, ho5, hf5, hn5⟩ := app_lives_new _ v4 _ _ [((e1, e2), t, To)] W.heap.size (hfl.trans hf4 (fun _ _ h => h)).size ho4 hn4 hlit2 (by have := Hll.out; simp only [List.length_singleton]; omega)
                  refine wpT_one rfl rfl (fun K hK => ?_)
                  refine op_append_run (.tmp 88) (.tmp 90) 51 rfl rfl rfl hrun5 ?_
                  refine hK _ _ hf5 ?_
                  clear hK K
                  simp only [Act.put, List.setIfInBounds_toArray, List.set_cons_zero, List.set_cons_succ]
                  have hf6 : Fr W w5 (fun k => W.heap.size ≤ k) := (hfl.trans hf4 (fun _ _ h => h)).trans hf5 (fun _ _ h => h)
                  obtain ⟨v6, w6, hrun6, ho6, hf7, hn6⟩ := app_lives_new w5 v5 (.slice A (L - j) (co - j)) _ _ W.heap.size hf6.size ho5 hn5 (Hpost.out.keep (hf6.old (Nat.le_refl _))) (by have := Hll.out; rw [List.length_append, List.length_singleton]; omega)
                  refine wpT_one rfl rfl (fun K hK => ?_)
                  refine op_append_run (.tmp 91) (.tmp 94) 51 rfl rfl rfl hrun6 ?_
                  refine hK _ _ hf7 ?_
                  clear hK K
                  simp only [Act.put, List.setIfInBounds_toArray, List.set_cons_zero, List.set_cons_succ]
                  repeat (refine wpT_take (v := ?_) rfl rfl (fun x hx => ?_) ?_; rotate_left; (focus (go_simp; with_reducible rfl)); simp only [Act.put, List.setIfInBounds_toArray, List.set_cons_zero, List.set_cons_succ])
                  have Hfo : Hid (Fr wa w6 (fun _ => False)) := (HfB.out.none HfW.out).none ((hf6.trans hf7 (fun _ _ h => h)).old (Nat.le_refl _))
                  have Ho6 : Hid (OwnL w6 v6 (out.take j ++ ((e1, e2), t, To) :: out.drop j)) := by rw [List.append_assoc] at ho6; exact ho6
                  clear hf4 hf5 hf6 hf7 hfl ho4 ho5 ho6 hn4 hn5 hn6 hrun4 hrun5 hrun6 hlit
                  unfold wpT
                  go_wp2_with fail
                  go_roundg (m - (i + 1))
                  case rel => exact ⟨i + 1, _, rfl, by omega, by go_num, Ho6.out.rd, HlI.out, Hst2.out, Hfo.out⟩
                  case measure => rw [Hg.out]; omega

end Go.Proofs.YtnffjafddbbjaaaGreatDoor

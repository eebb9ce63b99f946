/-
  The contract of history's Check.
-/
import Derived.Test.YthdlhdeaeaahoaaHWrong
import Derived.Test.YthdlhdeaeaahoaaHTurn
import Derived.Test.YthdlhdeaeaahoaaHFits
namespace Go.Proofs.Ythdlhdeaeaahoaa
open Go.RowKit

theorem chk_wrong {n : Nat} {now : List Eg} {pv : Option Ev} {i : Nat} {x : Ev} {r : List Ev} (h : wrongF n pv x ≠ 0) : chkF n now pv i (x :: r) = (i, wrongF n pv x) := by
  unfold wrongF at h ⊢
  by_cases h1 : x.1 < 0 ∨ 4611686018427387903 < x.1
  · rw [if_pos h1]; exact chk_limit h1
  · rw [if_neg h1] at h ⊢
    cases h2 : eRight x.2.1.1 x.2.1.2 n with
    | false => rw [if_pos rfl]; exact chk_vertex h1 h2
    | true =>
      rw [h2, if_neg (by simp)] at h
      rw [if_neg (by simp)]
      cases h3 : (pv.any fun p => !eBef p x) with
      | true => rw [if_pos rfl]; exact chk_order h1 h2 h3
      | false => rw [h3, if_neg (by simp)] at h; exact absurd rfl h
theorem wrong_zero {n : Nat} {pv : Option Ev} {x : Ev} (h : wrongF n pv x = 0) : ¬ (x.1 < 0 ∨ 4611686018427387903 < x.1) ∧ eRight x.2.1.1 x.2.1.2 n = true ∧ (pv.any fun p => !eBef p x) = false := by
  unfold wrongF at h
  by_cases h1 : x.1 < 0 ∨ 4611686018427387903 < x.1
  · rw [if_pos h1] at h; cases h
  · rw [if_neg h1] at h
    cases h2 : eRight x.2.1.1 x.2.1.2 n with
    | false => rw [h2, if_pos rfl] at h; cases h
    | true =>
      rw [h2, if_neg (by simp)] at h
      cases h3 : (pv.any fun p => !eBef p x) with
      | true => rw [h3, if_pos rfl] at h; cases h
      | false => exact ⟨h1, rfl, rfl⟩

set_option maxRecDepth 4000 in
set_option maxHeartbeats 1600000 in
theorem check_any (n : Nat) (v : Value) (evs : List Ev) (w : World) (h : RdV w v evs) (hn : n < 18446744073709551616) (hl : evs.length ≤ 1000000) (hfit : ∀ x ∈ evs, EvFit x) : Calls Try.prog 32 #[histV n v] w fun r w' => r = .returned (.tuple #[.int .i64 ((checkF n evs).1 : Int), .int .i64 ((checkF n evs).2 : Int)]) ∧ Fr w w' (fun _ => False) := by
  obtain ⟨a0, c0, rfl, hc0⟩ := h.form
  obtain ⟨m, hm⟩ : ∃ m, m = evs.length := ⟨_, rfl⟩
  rw [← hm] at h hl hc0 ⊢
  obtain ⟨⟨R1, R2⟩, hR⟩ : ∃ R, R = checkF n evs := ⟨_, rfl⟩
  rw [← hR]
  have HR : Hid _ := hR
  have Hr : Hid (RdV w (.slice a0 m c0) evs) := h
  have Hm : Hid _ := hm
  have Hl : Hid (evs.length ≤ 1000000) := by show _ ≤ _; omega
  have Hfit : Hid _ := hfit
  have Hn : Hid _ := hn
  have wm : IntKind.u64.wrap (m : Int) = (m : Int) := by rw [IntKind.wrap_u64]; omega
  clear h hm hR hfit hn
  dsimp only
  have Hh : Hid (histV n (.slice a0 m c0) = .agg #[.int .u64 (n : Int), .slice a0 m c0]) := rfl
  rw [Hh.out]
  go_enter Try.func32, Try.ntmps32
  go_upto_region 1 with fail
  obtain ⟨p, hp⟩ : ∃ p, p = w.heap.size := ⟨_, rfl⟩
  obtain ⟨wa, hwa⟩ : ∃ wa, wa = w.alloc (.cells #[.int .u64 (n : Int), .slice a0 m c0] 25) := ⟨_, rfl⟩
  rw [← hwa, ← hp]
  have Hpb : Hid (∀ z, Fr wa z (fun _ => False) → z.heap[p]? = some (.cells #[.int .u64 (n : Int), .slice a0 m c0] 25 (0, 0))) := fun z hz => hz.kept (by rw [hwa, hp]; exact heap_alloc_new _ _) (fun h => h)
  have Hwa : Hid (Fr w wa (fun _ => False)) := by show Fr _ _ _; rw [hwa]; exact (Fr.refl _ _).alloc _
  have Hr : Hid (∀ z, Fr wa z (fun _ => False) → RdV z (.slice a0 m c0) evs) := fun z hz => Hr.out.keep (Hwa.out.none hz)
  clear hp hwa
  obtain ⟨ca, cb⟩ : wa.cell? ⟨p, 0, none⟩ = some (.int .u64 (n : Int)) ∧ wa.cell? ⟨p, 1, none⟩ = some (.slice a0 m c0) := ⟨two_cell0 (Hpb.out wa (Fr.refl _ _)), two_cell1 (Hpb.out wa (Fr.refl _ _))⟩
  go_wp2_with fail
  refine (fits_any n m wa Hn.out (by have := Hl.out; rw [← Hm.out] at this; exact this)).mono ?_
  by_cases hn : 4294967296 < n
  · have Hres : Hid ((R1, R2) = (0, 26)) := by show _ = _; rw [HR.out]; unfold checkF; exact if_pos (.inl hn)
    rw [decide_eq_false (by omega)]
    rintro r x1 ⟨rfl, g⟩
    have Hfo : Hid (Fr w x1 (fun _ => False)) := Hwa.out.none g
    clear g ca cb
    go_wp2
    go_ret2
    simp only [Prod.mk.injEq] at Hres
    obtain ⟨rfl, rfl⟩ := Hres.out
    exact ⟨rfl, Hfo.out⟩
  rw [decide_eq_true (by omega)]
  rintro r x1 ⟨rfl, g⟩
  have G1 : Hid (Fr wa x1 (fun _ => False)) := g
  have Hst : Hid (chkF n [] none 0 evs = (R1, R2)) := by show _ = _; rw [HR.out, checkF_small Hl.out hn]
  have hmm := @run_makeMap Try.prog
  clear hn HR g ca cb
  go_upto_region 4 with fail
  obtain ⟨b, hb⟩ : ∃ b, b = x1.heap.size := ⟨_, rfl⟩
  obtain ⟨wb, hwb⟩ : ∃ x, x = x1.alloc (.map #[] 0) := ⟨_, rfl⟩
  rw [← hwb, ← hb]
  have Hmap : Hid (OwnM wb b 0 []) := by show OwnM _ _ _ _; rw [hwb, hb]; exact ownM_new x1
  have Hwb : Hid (Fr wa wb (fun _ => False)) := by show Fr _ _ _; rw [hwb]; exact G1.out.alloc _
  have Hb : Hid (wa.heap.size ≤ b) := by show _ ≤ _; rw [hb]; exact G1.out.size
  clear hb hwb hmm
  obtain ⟨ca, cb⟩ : wb.cell? ⟨p, 0, none⟩ = some (.int .u64 (n : Int)) ∧ wb.cell? ⟨p, 1, none⟩ = some (.slice a0 m c0) := ⟨two_cell0 (Hpb.out wb Hwb.out), two_cell1 (Hpb.out wb Hwb.out)⟩
  go_wp2_with fail
  clear ca cb
  go_loopg [20] m (fun g I wr => ∃ (i : Nat) (now : List Eg), g = m - i ∧ i ≤ m ∧ I = .int .i64 (i : Int) ∧ OwnM wr b i now ∧ eRising now = true ∧ chkF n now (prevAt evs i) i (evs.drop i) = (R1, R2) ∧ Fr wa wr (fun _ => False))
  case atStart => exact ⟨0, [], by omega, by omega, rfl, Hmap.out, rfl, Hst.out, Hwb.out⟩
  case round =>
    obtain ⟨i, now, hg, hi, rfl, hmap, hris, hst, hf⟩ := hrel
    have Hg : Hid _ := hg
    have Hmap : Hid (OwnM wr b i now) := hmap
    have Hris : Hid _ := hris
    have Hs : Hid _ := hst
    have Hf : Hid (Fr wa wr (fun _ => False)) := hf
    clear hg hmap hris hst hf
    obtain ⟨ca, cb⟩ : wr.cell? ⟨p, 0, none⟩ = some (.int .u64 (n : Int)) ∧ wr.cell? ⟨p, 1, none⟩ = some (.slice a0 m c0) := ⟨two_cell0 (Hpb.out wr Hf.out), two_cell1 (Hpb.out wr Hf.out)⟩
    by_cases hlt : i < m
    · have hin : (i : Int) < (m : Int) := by omega
      have hin' : decide (i < m) = true := decide_eq_true hlt
      obtain ⟨⟨t, ⟨e1, e2⟩, ad⟩, ha⟩ : ∃ a, evs[i]? = some a := ⟨_, List.getElem?_eq_getElem (by rw [← Hm.out]; omega)⟩
      have Ha : Hid _ := ha
      have Hx : Hid (EvFit (t, (e1, e2), ad)) := Hfit.out _ (List.mem_of_getElem? ha)
      have Hst : Hid (chkF n now (prevAt evs i) i ((t, (e1, e2), ad) :: evs.drop (i + 1)) = (R1, R2)) := by
        show _ = _
        rw [← Hs.out]
        rw [drop_at ha]
      obtain ⟨bk, off, cap, e3, hbk, hca⟩ := (Hr.out wa (Fr.refl _ _)).get i _ ha
      simp only [Value.slice.injEq] at e3
      obtain ⟨rfl, -, rfl⟩ := e3
      obtain ⟨k0, k1, k2, k3⟩ := hca wr (Hf.out.mono (fun _ _ h => h.elim))
      have hi0 : (0 : Int) ≤ (i : Int) := by omega
      clear hca ha hbk Hs
      go_upto_region 7 with fail
      obtain ⟨pe, hpe⟩ : ∃ p, p = wr.heap.size := ⟨_, rfl⟩
      obtain ⟨wE, hwE⟩ : ∃ x, x = wr.alloc (.cells #[.int .i64 t, .int .u32 (e1 : Int), .int .u32 (e2 : Int), .bool ad] 53) := ⟨_, rfl⟩
      rw [← hwE, ← hpe]
      have Hpe : Hid (∀ z, Fr wE z (fun _ => False) → z.heap[pe]? = some (.cells #[.int .i64 t, .int .u32 (e1 : Int), .int .u32 (e2 : Int), .bool ad] 53 (0, 0))) := fun z hz => hz.kept (by rw [hwE, hpe]; exact heap_alloc_new _ _) (fun h => h)
      have HfE : Hid (Fr wa wE (fun _ => False)) := by show Fr _ _ _; rw [hwE]; exact Hf.out.alloc _
      have HrE : Hid (Fr wr wE (fun _ => False)) := by show Fr _ _ _; rw [hwE]; exact (Fr.refl _ _).alloc _
      have Hmap : Hid (∀ z, Fr wE z (fun _ => False) → OwnM z b i now) := fun z hz => OwnM.frame Hmap.out (HrE.out.none hz) (fun h => h)
      clear k0 k1 k2 k3 ca cb hwE hpe
      obtain ⟨ca, cb⟩ : wE.cell? ⟨p, 0, none⟩ = some (.int .u64 (n : Int)) ∧ wE.cell? ⟨p, 1, none⟩ = some (.slice (some ⟨bk, off, none⟩) m c0) := ⟨two_cell0 (Hpb.out wE HfE.out), two_cell1 (Hpb.out wE HfE.out)⟩
      obtain ⟨W, hW⟩ : ∃ W, W = wrongF n (prevAt evs i) (t, (e1, e2), ad) := ⟨_, rfl⟩
      have HW : Hid _ := hW
      clear hW
      go_wp2_with fail
      refine (wrong_any n _ evs i (t, (e1, e2), ad) _ (Hr.out wE HfE.out) Hl.out Hx.out Ha.out).mono ?_
      rw [← HW.out]
      rintro r x2 ⟨rfl, g⟩
      have G2 : Hid (Fr wE x2 (fun _ => False)) := g
      clear g ca cb
      by_cases hW0 : W = 0
      · have Hz : Hid _ := wrong_zero (HW.out.symm.trans hW0)
        subst hW0
        obtain ⟨k0, k1, k2, k3⟩ := four_cells (Hpe.out x2 G2.out)
        obtain ⟨TF, hTF⟩ : ∃ T, T = turnF now (e1, e2) ad := ⟨_, rfl⟩
        have HTF : Hid _ := hTF
        clear hTF
        go_wp2_with fail
        refine (turn_any b i now (t, (e1, e2), ad) x2 (Hmap.out x2 G2.out) Hris.out (by have := Hl.out; rw [← Hm.out] at this; omega) Hx.out).mono ?_
        rw [show turnF now (t, (e1, e2), ad).2.1 (t, (e1, e2), ad).2.2 = TF from HTF.out.symm]
        rintro r x5 ⟨rfl, g, hm5⟩
        have G5 : Hid (Fr wa x5 (fun _ => False)) := (HfE.out.none G2.out).trans g (fun k hk h => by have := Hb.out; omega)
        have Hm5 : Hid _ := hm5
        clear hm5 g k0 k1 k2 k3
        cases TF with
        | none =>
          have Hres : Hid ((R1, R2) = (i, 25)) := by show _ = _; rw [← Hst.out]; exact chk_edge Hz.out.1 Hz.out.2.1 Hz.out.2.2 HTF.out.symm
          have Hfo : Hid (Fr w x5 (fun _ => False)) := Hwa.out.none G5.out
          go_wp2
          go_ret2
          simp only [Prod.mk.injEq] at Hres
          obtain ⟨rfl, rfl⟩ := Hres.out
          exact ⟨rfl, Hfo.out⟩
        | some now' =>
          have Hst5 : Hid (chkF n now' (prevAt evs (i + 1)) (i + 1) (evs.drop (i + 1)) = (R1, R2)) := by
            show _ = _
            rw [show prevAt evs (i + 1) = some (t, (e1, e2), ad) from Ha.out, ← Hst.out]
            exact (chk_step Hz.out.1 Hz.out.2.1 Hz.out.2.2 HTF.out.symm).symm
          go_wp2_with fail
          go_roundg (m - (i + 1))
          case rel => exact ⟨i + 1, now', rfl, by omega, by go_num, Hm5.out _ rfl, turn_rising HTF.out.symm, Hst5.out, G5.out⟩
          case measure => rw [Hg.out]; omega
      · have Hres : Hid ((R1, R2) = (i, W)) := by show _ = _; rw [← Hst.out, HW.out]; exact chk_wrong (by rw [← HW.out]; exact hW0)
        have Hfo : Hid (Fr w x2 (fun _ => False)) := (Hwa.out.none HfE.out).none G2.out
        have d1 : ((W : Int) != 0) = true := by rw [bne_iff_ne]; omega
        have d1' : ((W : Int) == 0) = false := by rw [beq_eq_false_iff_ne]; omega
        have d1n : (W == 0) = false := by rw [beq_eq_false_iff_ne]; exact hW0
        go_wp2
        go_ret2
        simp only [Prod.mk.injEq] at Hres
        obtain ⟨rfl, rfl⟩ := Hres.out
        exact ⟨rfl, Hfo.out⟩
    · have hin : ¬ (i : Int) < (m : Int) := by omega
      have hin' : decide (i < m) = false := decide_eq_false hlt
      have Hres : Hid ((R1, R2) = (0, 0)) := by
        show _ = _
        rw [← Hs.out, List.drop_eq_nil_of_le (by rw [← Hm.out]; omega), chkF]
      have Hfo : Hid (Fr w wr (fun _ => False)) := Hwa.out.none Hf.out
      go_wp2
      go_ret2
      simp only [Prod.mk.injEq] at Hres
      obtain ⟨rfl, rfl⟩ := Hres.out
      exact ⟨rfl, Hfo.out⟩

end Go.Proofs.Ythdlhdeaeaahoaa

/-
  The contract of the reference's After.
-/
import Derived.Test.YtpeibameegjefaaDoorJ2
namespace Go.Proofs.YtpeibameegjefaaDoor
open Go.RowKit

set_option maxRecDepth 4000 in
set_option maxHeartbeats 1600000 in
theorem refAfter_any (n : Nat) (v : Value) (evs : List Ev) (k : Int) (w : World) (h : RdV w v evs) (hl : evs.length ≤ 1000000) (hfit : ∀ x ∈ evs, EvFit x) (hk : -9223372036854775808 ≤ k ∧ k ≤ 9223372036854775807) : Calls Tryd.prog 46 #[histV n v, .int .i64 k] w fun r w' => (∃ v', r = .returned (.tuple #[v', .int .i64 ((afterF n evs k).2 : Int)]) ∧ RdE w' v' (afterF n evs k).1 ∧ (∀ b, v'.ownBlock = some b → w.heap.size ≤ b)) ∧ Fr w w' (fun _ => False) := by
  obtain ⟨a0, c0, rfl, hc0⟩ := h.form
  obtain ⟨m, hm⟩ : ∃ m, m = evs.length := ⟨_, rfl⟩
  rw [← hm] at h hl hc0 ⊢
  obtain ⟨⟨R1, R2⟩, hR⟩ : ∃ R, R = afterF n evs k := ⟨_, rfl⟩
  rw [← hR]
  dsimp only
  have HR : Hid _ := hR
  have Hr : Hid (RdV w (.slice a0 m c0) evs) := h
  have Hm : Hid _ := hm
  have Hl : Hid (evs.length ≤ 1000000) := by show _ ≤ _; omega
  have Hfit : Hid _ := hfit
  have Hk : Hid _ := hk
  clear h hm hR hfit hk
  obtain ⟨⟨ci, ce⟩, hC⟩ : ∃ C, C = checkF n evs := ⟨_, rfl⟩
  have HC : Hid _ := hC
  clear hC
  unfold histV
  go_enter Tryd.func46, Tryd.ntmps46
  go_wp2_with fail
  obtain ⟨p, hp⟩ : ∃ p, p = w.heap.size := ⟨_, rfl⟩
  obtain ⟨wa, hwa⟩ : ∃ wa, wa = w.alloc (.cells #[.int .u64 (n : Int), .slice a0 m c0] 25) := ⟨_, rfl⟩
  rw [← hwa, ← hp]
  have Hpb : Hid (∀ z, Fr wa z (fun _ => False) → z.heap[p]? = some (.cells #[.int .u64 (n : Int), .slice a0 m c0] 25 (0, 0))) := fun z hz => hz.kept (by rw [hwa, hp]; exact heap_alloc_new _ _) (fun h => h)
  have Hwa : Hid (Fr w wa (fun _ => False)) := by show Fr _ _ _; rw [hwa]; exact (Fr.refl _ _).alloc _
  have Hr : Hid (∀ z, Fr wa z (fun _ => False) → RdV z (.slice a0 m c0) evs) := fun z hz => Hr.out.keep (Hwa.out.none hz)
  clear hp hwa
  refine (refCheck_any n _ evs _ (Hr.out wa (Fr.refl _ _)) Hl.out Hfit.out).mono ?_
  rw [← HC.out]
  rintro r x1 ⟨rfl, g⟩
  have G1 : Hid (Fr wa x1 (fun _ => False)) := g
  clear g
  dsimp only
  by_cases hce : ce = 0
  · subst hce
    have Hres : Hid (aftF [] (evs.take k.toNat) = R1 ∧ R2 = 0) := by
      have := HR.out
      unfold afterF at this
      rw [← HC.out, if_pos rfl] at this
      simp only [Prod.mk.injEq] at this
      exact ⟨this.1.symm, this.2⟩
    obtain rfl := Hres.out.2
    obtain ⟨q, hq⟩ : ∃ q, q = min k.toNat m := ⟨_, rfl⟩
    have hqm : q ≤ m := by omega
    have Hqk : Hid (∀ i : Nat, i < m → (i < q ↔ (i : Int) < k)) := fun i hi => by constructor <;> intro h <;> omega
    have Htk : Hid ((evs.take k.toNat).length = q) := by show _ = _; rw [List.length_take, hq, ← Hm.out]
    clear hq
    go_wp2_with fail
    go_loopg [8, 9] m (fun g S I wr => ∃ (i : Nat) (now : List Eg), g = m - i ∧ i ≤ q ∧ I = .int .i64 (i : Int) ∧ RdE wr S now ∧ now.length ≤ i ∧ (∀ b, S.ownBlock = some b → w.heap.size ≤ b) ∧ aftF now ((evs.take k.toNat).drop i) = R1 ∧ Fr wa wr (fun _ => False))
    case atStart => exact ⟨0, [], by omega, by omega, rfl, RdE.nil _, by simp, fun b hb => (by simp [Value.ownBlock] at hb), by simpa using Hres.out.1, G1.out⟩
    case round =>
      obtain ⟨i, now, hg, hi, rfl, hnow, hnl, hnn, hst, hf⟩ := hrel
      have Hg : Hid _ := hg
      have Hnow : Hid (RdE wr u8 now) := hnow
      have Hnl : Hid _ := hnl
      have Hnn : Hid _ := hnn
      have Hst : Hid _ := hst
      have Hf : Hid (Fr wa wr (fun _ => False)) := hf
      clear hg hnow hnl hnn hst hf
      obtain ⟨ca, cb⟩ : wr.cell? ⟨p, 0, none⟩ = some (.int .u64 (n : Int)) ∧ wr.cell? ⟨p, 1, none⟩ = some (.slice a0 m c0) := ⟨two_cell0 (Hpb.out wr Hf.out), two_cell1 (Hpb.out wr Hf.out)⟩
      by_cases hlt : i < q
      · have him : i < m := by omega
        have hin : (i : Int) < (m : Int) := by omega
        have hin' : decide (i < m) = true := decide_eq_true him
        have hik : (i : Int) < k := (Hqk.out i him).1 hlt
        have hik' : decide ((i : Int) < k) = true := decide_eq_true hik
        obtain ⟨⟨t, ⟨e1, e2⟩, ad⟩, ha⟩ : ∃ a, evs[i]? = some a := ⟨_, List.getElem?_eq_getElem (by rw [← Hm.out]; omega)⟩
        have Hst2 : Hid (aftF ((turnF now (e1, e2) ad).getD []) ((evs.take k.toNat).drop (i + 1)) = R1) := by
          show _ = _
          rw [← Hst.out, drop_at (l := evs.take k.toNat) (i := i) (a := (t, (e1, e2), ad)) (by rw [List.getElem?_take, if_pos (by have h1 := Htk.out; rw [List.length_take] at h1; omega)]; exact ha), aftF]
        obtain ⟨bk, off, cap, e3, hbk, hca⟩ := (Hr.out wa (Fr.refl _ _)).get i _ ha
        simp only [Value.slice.injEq] at e3
        obtain ⟨rfl, -, rfl⟩ := e3
        obtain ⟨k0, k1, k2, k3⟩ := hca wr (Hf.out.mono (fun _ _ h => h.elim))
        have hi0 : (0 : Int) ≤ (i : Int) := by omega
        obtain ⟨TF, hTF⟩ : ∃ T, T = turnF now (e1, e2) ad := ⟨_, rfl⟩
        rw [← hTF] at Hst2
        have HTF : Hid _ := hTF
        clear hca ha hbk hTF
        go_wp2_with fail
        refine (refTurn_any u8 now (t, (e1, e2), ad) _ Hnow.out (by have := Hnl.out; omega)).mono ?_
        rw [show turnF now (t, (e1, e2), ad).2.1 (t, (e1, e2), ad).2.2 = TF from HTF.out.symm]
        rintro r x5 ⟨⟨v5, rfl, hr5, hn5⟩, g⟩
        have Hn5 : Hid (∀ b, v5.ownBlock = some b → w.heap.size ≤ b) := fun b hb => by have h1 := hn5 b hb; have h2 := Hf.out.size; have h3 := Hwa.out.size; omega
        have Hr5 : Hid _ := hr5
        have G5 : Hid (Fr wa x5 (fun _ => False)) := Hf.out.none g
        have Hlen : Hid ((TF.getD []).length ≤ i + 1) := by
          show _ ≤ _
          cases hT : TF with
          | none => simp
          | some z => have h1 := turn_length (HTF.out.symm.trans hT); have h2 := Hnl.out; rw [Option.getD_some]; omega
        obtain ⟨B5, hB5⟩ : ∃ B, B = TF.isSome := ⟨_, rfl⟩
        rw [← hB5]
        clear hr5 hn5 g k0 k1 k2 k3 ca cb hB5
        go_wp2_with fail
        go_roundg (m - (i + 1))
        case rel => exact ⟨i + 1, TF.getD [], rfl, by omega, by go_num, Hr5.out, Hlen.out, Hn5.out, Hst2.out, G5.out⟩
        case measure => rw [Hg.out]; omega
      · have hiq : i = q := by omega
        have Hend : Hid (now = R1) := by
          have := Hst.out
          rw [List.drop_eq_nil_of_le (by rw [Htk.out, hiq]; exact Nat.le_refl _), aftF] at this
          exact this
        have Hfo : Hid (Fr w wr (fun _ => False)) := Hwa.out.none Hf.out
        by_cases him : i < m
        · have hin : (i : Int) < (m : Int) := by omega
          have hin' : decide (i < m) = true := decide_eq_true him
          have hik : ¬ (i : Int) < k := fun h => hlt ((Hqk.out i him).2 h)
          have hik' : decide ((i : Int) < k) = false := decide_eq_false hik
          clear hiq
          go_wp2
          go_ret2
          exact ⟨⟨_, rfl, by rw [← Hend.out]; exact Hnow.out, Hnn.out⟩, Hfo.out⟩
        · have hin : ¬ (i : Int) < (m : Int) := by omega
          have hin' : decide (i < m) = false := decide_eq_false him
          clear hiq
          go_wp2
          go_ret2
          exact ⟨⟨_, rfl, by rw [← Hend.out]; exact Hnow.out, Hnn.out⟩, Hfo.out⟩
  · have f1 : ((ce : Int) != 0) = true := by rw [bne_iff_ne]; omega
    have f1' : ((ce : Int) == 0) = false := by rw [beq_eq_false_iff_ne]; omega
    have f2 : (ce == 0) = false := by rw [beq_eq_false_iff_ne]; exact hce
    obtain ⟨rfl, rfl⟩ : R1 = [] ∧ R2 = ce := by
      have := HR.out
      unfold afterF at this
      rw [← HC.out, if_neg hce] at this
      simpa using this
    have Hfo : Hid (Fr w x1 (fun _ => False)) := Hwa.out.none G1.out
    clear hce
    go_wp2
    go_ret2
    exact ⟨⟨_, rfl, RdE.nil _, fun b hb => by simp [Value.ownBlock] at hb⟩, Hfo.out⟩

end Go.Proofs.YtpeibameegjefaaDoor

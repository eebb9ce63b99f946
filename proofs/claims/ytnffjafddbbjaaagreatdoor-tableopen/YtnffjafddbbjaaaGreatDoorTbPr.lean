/-
  The contract of table's Print.
-/
import Derived.Test.YtnffjafddbbjaaaGreatDoorTbLine
import Derived.Test.YtnffjafddbbjaaaGreatDoorLPOf
import Derived.Test.YtnffjafddbbjaaaGreatDoorJ3
namespace Go.Proofs.YtnffjafddbbjaaaGreatDoor
open Go.RowKit

set_option maxRecDepth 4000 in
set_option maxHeartbeats 3200000 in
theorem tabPrint_any (n : Nat) (v : Value) (evs : List Ev) (w : World) (h : RdV w v evs) (hn : n < 18446744073709551616) (hl : evs.length ≤ 100000) (hfit : ∀ x ∈ evs, EvFit x) (hK : KBoth w) : Calls Tryz.prog 12 #[histV n v] w fun r w' =>
    r = .returned (.tuple #[.string (prTab n evs), .int .i64 ((checkF n evs).2 : Int)]) ∧ Fr w w' (fun _ => False) := by
  have hck := fun z hz => livesOf_any n v evs z hz hn hl hfit
  obtain ⟨a0, c0, rfl, hc0⟩ := h.form
  obtain ⟨m0, hm⟩ : ∃ m, m = evs.length := ⟨_, rfl⟩
  rw [← hm] at h hl hc0 hck ⊢
  obtain ⟨P, hP⟩ : ∃ P, P = prTab n evs := ⟨_, rfl⟩
  rw [← hP]
  obtain ⟨⟨LS, C2⟩, hC⟩ : ∃ C, C = livesF n evs := ⟨_, rfl⟩
  have hce : (checkF n evs).2 = C2 := by
    have : (livesF n evs).2 = C2 := by rw [← hC]
    rw [← this]
    unfold livesF
    split
    · assumption
    · rfl
  rw [hce]
  rw [← hC] at hck
  have HC : Hid _ := hC
  have HCE : Hid _ := hce
  have HP : Hid _ := hP
  have Hr : Hid (RdV w (.slice a0 m0 c0) evs) := h
  have Hm : Hid _ := hm
  have Hl : Hid _ := hl
  have Hn : Hid (n < 18446744073709551616) := hn
  have HK : Hid (KBoth w) := hK
  unfold histV at hck ⊢
  dsimp only at hck ⊢
  clear h hm hC hP hfit hce hK hn
  go_enter Tryz.func12, Tryz.ntmps12
  go_upto_region 1 with fail
  obtain ⟨p, hp⟩ : ∃ p, p = w.heap.size := ⟨_, rfl⟩
  obtain ⟨w1, hw1⟩ : ∃ x, x = w.alloc (.cells #[.int .u64 (n : Int), .slice a0 m0 c0] 25) := ⟨_, rfl⟩
  rw [← hw1, ← hp]
  have Hp : Hid (w1.heap[p]? = some (.cells #[.int .u64 (n : Int), .slice a0 m0 c0] 25 (0, 0))) := by show _ = _; rw [hw1, hp]; exact heap_alloc_new _ _
  have Hf1 : Hid (Fr w w1 (fun _ => False)) := by show Fr _ _ _; rw [hw1]; exact (Fr.refl _ _).alloc _
  clear hw1 hp
  obtain ⟨ca, cb⟩ : w1.cell? ⟨p, 0, none⟩ = some (.int .u64 (n : Int)) ∧ w1.cell? ⟨p, 1, none⟩ = some (.slice a0 m0 c0) := ⟨two_cell0 Hp.out, two_cell1 Hp.out⟩
  have hck1 := hck w1 (Hr.out.keep Hf1.out)
  clear hck
  go_wp2_with fail
  refine hck1.mono ?_
  rintro r x1 ⟨⟨vl, rfl, hrl⟩, g⟩
  obtain ⟨al, cl, hvl, hcl⟩ := hrl.form
  obtain ⟨m, hml⟩ : ∃ m, m = LS.length := ⟨_, rfl⟩
  rw [← hml] at hvl hcl
  subst hvl
  have Hml : Hid (m = LS.length) := hml
  have Hrl : Hid (RdL x1 (.slice al m cl) LS) := hrl
  have Hp1 : Hid (x1.heap[p]? = some (.cells #[.int .u64 (n : Int), .slice a0 m0 c0] 25 (0, 0))) := g.kept Hp.out (fun h => h)
  have Hx1 : Hid (Fr w x1 (fun _ => False)) := Hf1.out.none g
  clear g hck1 ca cb hrl hml
  by_cases h0 : C2 = 0
  case neg =>
    have hC0 : ((C2 : Int) == 0) = false := by rw [beq_eq_false_iff_ne]; omega
    have hC1 : ((C2 : Int) != 0) = true := by rw [bne_iff_ne]; omega
    have HPP : Hid (P = ⟨#[]⟩) := by show _ = _; rw [HP.out]; exact if_neg (by rw [HCE.out]; exact h0)
    obtain rfl := HPP.out
    clear h0
    go_wp2
    go_ret2
    exact ⟨rfl, Hx1.out⟩
  subst h0
  have hLS : LS = livesE [] evs := by
    have h1 := HC.out
    unfold livesF at h1
    rw [if_pos HCE.out] at h1
    exact (Prod.mk.inj h1).1
  have HPP : Hid (P = strOf (tabL n LS)) := by show _ = _; rw [HP.out, hLS]; exact if_pos HCE.out
  have HnN : Hid (n ≤ maxN) := (check_in HCE.out).1
  have Hin : Hid (∀ x ∈ LS, LfIn x) := by show ∀ x, _; rw [hLS]; exact lives_in HCE.out
  have Hlm : Hid (m ≤ 100000) := by
    have h1 := lives_length evs (good_check HCE.out).2.2.2
    have h2 := Hml.out
    have h3 := Hm.out
    rw [hLS] at h2
    show _ ≤ _
    omega
  clear hLS hl
  go_upto_region 5 with fail
  obtain ⟨b, hb⟩ : ∃ p, p = x1.heap.size := ⟨_, rfl⟩
  obtain ⟨x2, hx2⟩ : ∃ x, x = x1.alloc (.cells #[.pointer none, .slice none 0 0] 74) := ⟨_, rfl⟩
  rw [← hx2, ← hb]
  have Hb2 : Hid (Bld b x2 b ⟨#[]⟩) := by show Bld _ _ _ _; rw [hx2, hb]; exact bld_new x1
  have Hx2 : Hid (Fr x1 x2 (fun k => b ≤ k)) := by show Fr _ _ _; rw [hx2]; exact (Fr.refl _ _).alloc _
  have Hp2 : Hid (∀ z, Fr x1 z (fun k => b ≤ k) → z.heap[p]? = some (.cells #[.int .u64 (n : Int), .slice a0 m0 c0] 25 (0, 0))) := fun z hz => hz.kept Hp1.out (fun h => by
    have h1 : p < x1.heap.size := by
      rcases Nat.lt_or_ge p x1.heap.size with h' | h'
      · exact h'
      · have h2 := Hp1.out; simp [Array.getElem?_eq_none h'] at h2
    omega)
  have HKz : Hid (∀ z, Fr x1 z (fun k => b ≤ k) → KBoth z) := fun z hz => HK.out.keep (Hx1.out.newer hz (fun k hk => by have := Hx1.out.size; omega))
  have Hend : Hid (∀ z, Fr x1 z (fun k => b ≤ k) → Fr w z (fun _ => False)) := fun z hz => Hx1.out.newer hz (fun k hk => by have := Hx1.out.size; omega)
  have Hbs : Hid (∀ z, Fr x1 z (fun k => b ≤ k) → b ≤ z.heap.size) := fun z hz => by rw [hb]; exact hz.size
  have Hbe : Hid (x1.heap.size = b) := hb.symm
  clear hb hx2
  have e1 := writeString_any b b ⟨#[]⟩ ⟨#[116, 97, 98, 108, 101]⟩ x2 Hb2.out (Hbs.out _ Hx2.out) (by decide)
  go_wp2_with fail
  refine e1.mono ?_
  rintro r x2b ⟨rfl, hb3, g⟩
  have Hb2b : Hid (Bld b x2b b ⟨#[116, 97, 98, 108, 101]⟩) := hb3
  have Hx2b : Hid (Fr x1 x2b (fun k => b ≤ k)) := Hx2.out.trans g (fun k _ hk => (Hb2.out.foot hk).1)
  clear e1 hb3 g
  have e1 := writeByte_any b b 32 ⟨#[116, 97, 98, 108, 101]⟩ x2b Hb2b.out (Hbs.out _ Hx2b.out) (by decide) (by decide)
  go_wp2_with fail
  refine e1.mono ?_
  rintro r x3 ⟨rfl, hb3, g⟩
  have hh4 : (⟨#[116, 97, 98, 108, 101]⟩ : ByteArray) ++ strOf [32] = ⟨#[116, 97, 98, 108, 101, 32]⟩ := by decide
  rw [hh4] at hb3
  have Hb3 : Hid (Bld b x3 b ⟨#[116, 97, 98, 108, 101, 32]⟩) := hb3
  have Hx3 : Hid (Fr x1 x3 (fun k => b ≤ k)) := Hx2b.out.trans g (fun k _ hk => (Hb2b.out.foot hk).1)
  clear e1 hb3 g hh4
  have hdl : (strOf (decL n)).size ≤ 20 := by rw [strOf_length]; exact decL_len20 n Hn.out
  have e1 := fmtUint_any n Hn.out x3 (HKz.out _ Hx3.out).2
  obtain ⟨D, hD⟩ : ∃ D, D = strOf (decL n) := ⟨_, rfl⟩
  rw [← hD] at e1 hdl
  have HD : Hid _ := hD
  clear hD
  obtain ⟨ca, cb⟩ : x3.cell? ⟨p, 0, none⟩ = some (.int .u64 (n : Int)) ∧ x3.cell? ⟨p, 1, none⟩ = some (.slice a0 m0 c0) := ⟨two_cell0 (Hp2.out x3 Hx3.out), two_cell1 (Hp2.out x3 Hx3.out)⟩
  go_wp2_with fail
  refine e1.mono ?_
  rintro r x4 ⟨rfl, g⟩
  have Hb4 : Hid (Bld b x4 b ⟨#[116, 97, 98, 108, 101, 32]⟩) := Hb3.out.keep g
  have Hx4 : Hid (Fr x1 x4 (fun k => b ≤ k)) := Hx3.out.trans g (fun _ _ h => h.elim)
  clear e1 g ca cb
  have e1 := writeString_any b b ⟨#[116, 97, 98, 108, 101, 32]⟩ D x4 Hb4.out (Hbs.out _ Hx4.out) (by show 6 + D.size ≤ _; omega)
  go_wp2_with fail
  refine e1.mono ?_
  rintro r x5 ⟨rfl, hb5, g⟩
  have Hb5 : Hid (Bld b x5 b (⟨#[116, 97, 98, 108, 101, 32]⟩ ++ D)) := hb5
  have Hx5 : Hid (Fr x1 x5 (fun k => b ≤ k)) := Hx4.out.trans g (fun k _ hk => (Hb4.out.foot hk).1)
  clear e1 hb5 g
  have e1 := writeByte_any b b 10 (⟨#[116, 97, 98, 108, 101, 32]⟩ ++ D) x5 Hb5.out (Hbs.out _ Hx5.out) (by rw [ByteArray.size_append]; show 6 + D.size + 1 ≤ _; omega) (by decide)
  go_wp2_with fail
  refine e1.mono ?_
  rintro r x6 ⟨rfl, hb6, g⟩
  have hhead : (⟨#[116, 97, 98, 108, 101, 32]⟩ : ByteArray) ++ D ++ strOf [10] = strOf (tabL n (LS.take 0)) := by rw [HD.out]; exact tabL_head n
  rw [hhead] at hb6
  have Hb6 : Hid (Bld b x6 b (strOf (tabL n (LS.take 0)))) := hb6
  have Hx6 : Hid (Fr x1 x6 (fun k => b ≤ k)) := Hx5.out.trans g (fun k _ hk => (Hb5.out.foot hk).1)
  clear e1 hb6 g hdl hhead
  go_wp2_with fail
  go_loopg [26] m (fun g I wr => ∃ i : Nat, g = m - i ∧ i ≤ m ∧ I = .int .i64 (i : Int) ∧ Bld b wr b (strOf (tabL n (LS.take i))) ∧ Fr x1 wr (fun k => b ≤ k))
  case atStart => exact ⟨0, by omega, by omega, rfl, Hb6.out, Hx6.out⟩
  case round =>
    obtain ⟨i, hg, hi, rfl, hbd, hf⟩ := hrel
    have Hg : Hid _ := hg
    have Hbd : Hid (Bld b wr b (strOf (tabL n (LS.take i)))) := hbd
    have Hf : Hid (Fr x1 wr (fun k => b ≤ k)) := hf
    clear hg hbd hf
    by_cases hlt : i < m
    · have hin : (i : Int) < (m : Int) := by omega
      have hin' : decide (i < m) = true := decide_eq_true hlt
      have hi0 : (0 : Int) ≤ (i : Int) := by omega
      have hm1 : m ≤ 100000 := Hlm.out
      obtain ⟨X, hX⟩ : ∃ a, LS[i]? = some a := ⟨_, List.getElem?_eq_getElem (by rw [← Hml.out]; omega)⟩
      have HXin : Hid _ := Hin.out X (List.mem_of_getElem? hX)
      have Hstep : Hid _ := tabL_step (n := n) hX
      have hsz : (strOf (tabL n (LS.take i))).size ≤ 1000000000 := by
        rw [strOf_length]
        have h1 := tabL_len (n := n) (ls := LS.take i) HnN.out (fun x hx => Hin.out x (List.mem_of_mem_take hx))
        rw [List.length_take] at h1
        have := Hlm.out
        omega
      obtain ⟨bk, off, cap, e3, hbk, hca⟩ := Hrl.out.get i _ hX
      rw [← Hml.out] at e3
      simp only [Value.slice.injEq] at e3
      obtain ⟨rfl, -, rfl⟩ := e3
      obtain ⟨k0, k1, k2, k3⟩ := hca wr (Hf.out.mono (fun k _ hk => by have := Hbe.out; omega))
      obtain ⟨⟨u, vv⟩, fr, tt⟩ := X
      dsimp only at k0 k1 k2 k3
      clear hca hX hbk
      go_upto_region 12 with fail
      obtain ⟨pe, hpe⟩ : ∃ p, p = wr.heap.size := ⟨_, rfl⟩
      obtain ⟨wE, hwE⟩ : ∃ x, x = wr.alloc (.cells #[.int .u32 (u : Int), .int .u32 (vv : Int), .int .i64 fr, .int .i64 tt] 82) := ⟨_, rfl⟩
      rw [← hwE, ← hpe]
      have Hpe : Hid (wE.heap[pe]? = some (.cells #[.int .u32 (u : Int), .int .u32 (vv : Int), .int .i64 fr, .int .i64 tt] 82 (0, 0))) := by show _ = _; rw [hwE, hpe]; exact heap_alloc_new _ _
      have hrE : Fr wr wE (fun _ => False) := by rw [hwE]; exact (Fr.refl _ _).alloc _
      have HfE : Hid (Fr x1 wE (fun k => b ≤ k)) := Hf.out.trans hrE (fun _ _ h => h.elim)
      have HbE : Hid (Bld b wE b (strOf (tabL n (LS.take i)))) := Hbd.out.keep hrE
      clear k0 k1 k2 k3 hwE hpe hrE
      have e1 := tabLine_any b b (strOf (tabL n (LS.take i))) ((u, vv), fr, tt) wE HbE.out (Hbs.out _ HfE.out) hsz HXin.out (fun z hz => (HKz.out z (HfE.out.trans hz (fun _ _ h => h))).2)
      unfold lifeV at e1
      dsimp only at e1
      rw [strOf_append, ← Hstep.out] at e1
      clear hsz
      obtain ⟨k0, k1, k2, k3⟩ := four_cells Hpe.out
      go_wp2_with fail
      refine e1.mono ?_
      rintro r x7 ⟨rfl, hb7, g⟩
      have Hb7 : Hid (Bld b x7 b (strOf (tabL n (LS.take (i + 1))))) := hb7
      have Hf7 : Hid (Fr x1 x7 (fun k => b ≤ k)) := HfE.out.trans g (fun _ _ h => h)
      clear e1 hb7 g k0 k1 k2 k3
      go_wp2_with fail
      go_roundg (m - (i + 1))
      case rel => exact ⟨i + 1, rfl, by omega, by go_num, Hb7.out, Hf7.out⟩
      case measure => rw [Hg.out]; omega
    · have hin : ¬ (i : Int) < (m : Int) := by omega
      have hin' : decide (i < m) = false := decide_eq_false hlt
      have hall : LS.take i = LS := List.take_of_length_le (by rw [← Hml.out]; omega)
      have hbd : Bld b wr b P := by rw [HPP.out]; have h := Hbd.out; rw [hall] at h; exact h
      have e1 := builderString_any b b P wr hbd (Hbs.out _ Hf.out)
      clear hall hbd
      go_wp2_with fail
      refine e1.mono ?_
      rintro r x7 ⟨rfl, g⟩
      have Hf7 : Hid (Fr w x7 (fun _ => False)) := Hend.out _ (Hf.out.trans g (fun _ _ h => h))
      clear e1 g
      go_wp2
      go_ret2
      exact ⟨rfl, Hf7.out⟩

end Go.Proofs.YtnffjafddbbjaaaGreatDoor

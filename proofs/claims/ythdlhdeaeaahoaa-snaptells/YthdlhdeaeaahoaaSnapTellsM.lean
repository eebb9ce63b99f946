/-
  The walk of the law SnapTells, under the condition that snap's functions answer as their contracts say.
-/
import Derived.Test.YthdlhdeaeaahoaaRows
import Derived.Test.YthdlhdeaeaahoaaSI
import Derived.Test.YthdlhdeaeaahoaaXGood
import Derived.Test.YthdlhdeaeaahoaaSHelp
import Derived.Test.YthdlhdeaeaahoaaXParts
import Derived.Test.YthdlhdeaeaahoaaJ2
import Derived.Test.YthdlhdeaeaahoaaXTime
namespace Go.Proofs.Ythdlhdeaeaahoaa.snapTells
open Go.ChangeShapes Go.WideShapes Go.ChangeAt Go.RowKit

set_option maxRecDepth 4000 in
set_option maxHeartbeats 6400000 in
theorem walkM (M : SI) (n0 : Nat) (a0 : Option Addr) (len0 cap0 : Nat) (a1 : Int) (a2 : Option Addr) (len2 cap2 : Nat) (z2 : List Int) (a3 a4 a5 a6 a7 : Int) (w : World) (w0 : n0 < 18446744073709551616 ∧ IsEvents w a0 len0 cap0) (w1 : (Lit.int .u8 a1).wf = true) (w2 : IsRow .u8 w a2 len2 cap2 z2) (w3 : (Lit.int .i64 a3).wf = true) (w4 : (Lit.int .u8 a4).wf = true) (w5 : (Lit.int .i64 a5).wf = true) (w6 : (Lit.int .u8 a6).wf = true) (w7 : (Lit.int .u8 a7).wf = true) :
    Calls Try.prog 3 #[histV n0 (.slice a0 len0 cap0), .int .u8 a1, .slice a2 len2 cap2, .int .i64 a3, .int .u8 a4, .int .i64 a5, .int .u8 a6, .int .u8 a7] w fun e w' => e = .returned (.bool true) ∧ Below w.heap.size w w' := by
  obtain ⟨bs, hbl, hbb, hbr⟩ := bytes_arg w2
  have Hbs : Hid (Reads .u8 w (.slice a2 len2 cap2) bs) := hbr
  have Hbb : Hid (∀ x ∈ bs, x < 256) := hbb
  have Hbl : Hid (bs.length = len2) := hbl
  clear hbl hbb hbr
  obtain ⟨k, rfl, hk⟩ := eu8_nat w1
  have Hk : Hid (k < 256) := hk
  obtain ⟨ne, rfl, hne⟩ := eu8_nat w4
  have Hne : Hid (ne < 256) := hne
  obtain ⟨wh, rfl, hwh⟩ := eu8_nat w6
  have Hwh : Hid (wh < 256) := hwh
  obtain ⟨at_, rfl, hat_⟩ := eu8_nat w7
  have Hat_ : Hid (at_ < 256) := hat_
  have Hz : Hid (-9223372036854775808 ≤ a3 ∧ a3 ≤ 9223372036854775807) := by have := bounds_i64 w3; show _ ∧ _; omega
  have Hz5 : Hid (-9223372036854775808 ≤ a5 ∧ a5 ≤ 9223372036854775807) := by have := bounds_i64 w5; show _ ∧ _; omega
  obtain ⟨hn0, raw, hml, hmr, hmf⟩ := w0
  have Hn0 : Hid _ := hn0
  have Hml : Hid _ := hml
  have Hmr : Hid (RdV w (.slice a0 len0 cap0) raw) := hmr
  have Hmf : Hid _ := hmf
  clear w1 w2 w3 w4 w5 w6 w7 hn0 hml hmr hmf hk hwh hat_ hne
  unfold histV
  go_enter Try.func3, Try.ntmps3
  go_wp2_with fail
  obtain ⟨p8, hp8⟩ : ∃ p, p = w.heap.size := ⟨_, rfl⟩
  obtain ⟨wa, hwa⟩ : ∃ wa, wa = w.alloc (.cells #[.int .u64 (n0 : Int), .slice a0 len0 cap0] 25) := ⟨_, rfl⟩
  rw [← hwa, ← hp8]
  have Q8 : Hid (∀ z, Fr wa z (fun _ => False) → z.heap[p8]? = some (.cells #[.int .u64 (n0 : Int), .slice a0 len0 cap0] 25 (0, 0))) := fun z hz => hz.kept (by rw [hwa, hp8]; exact heap_alloc_new _ _) (fun h => h)
  have Hwa : Hid (Fr w wa (fun _ => False)) := by show Fr _ _ _; rw [hwa]; exact (Fr.refl _ _).alloc _
  clear hp8 hwa
  refine (sknown_any M wa).mono ?_
  rintro e w1 ⟨rfl, hf1⟩
  have H01 : Hid (Fr wa w1 (fun _ => False)) := hf1
  have Hf1 : Hid (Fr w w1 (fun _ => False)) := Hwa.out.none hf1
  clear hf1
  obtain ⟨ka, kb⟩ : w1.cell? ⟨p8, 0, none⟩ = some (.int .u64 (n0 : Int)) ∧ w1.cell? ⟨p8, 1, none⟩ = some (.slice a0 len0 cap0) := ⟨two_cell0 (Q8.out w1 H01.out), two_cell1 (Q8.out w1 H01.out)⟩
  by_cases hb20 : 20 < len0
  · have d1 : decide ((20 : Int) < (len0 : Int)) = true := decide_eq_true (by omega)
    have d1' : decide (20 < len0) = true := decide_eq_true hb20
    go_wp2
    go_ret
    exact ⟨rfl, ebelow Hf1.out⟩
  have db20 : decide ((20 : Int) < (len0 : Int)) = false := decide_eq_false (by omega)
  have db20' : decide (20 < len0) = false := decide_eq_false hb20
  have Hl20 : Hid (raw.length ≤ 20) := by have := Hml.out; exact (by omega : raw.length ≤ 20)
  clear hb20
  by_cases hb60 : 60 < len2
  · have d1 : decide ((60 : Int) < (len2 : Int)) = true := decide_eq_true (by omega)
    have d1' : decide (60 < len2) = true := decide_eq_true hb60
    go_wp2
    go_ret
    exact ⟨rfl, ebelow Hf1.out⟩
  have db60 : decide ((60 : Int) < (len2 : Int)) = false := decide_eq_false (by omega)
  have db60' : decide (60 < len2) = false := decide_eq_false hb60
  have Hl : Hid (bs.length ≤ 60) := by have := Hbl.out; exact (by omega : bs.length ≤ 60)
  clear hb60
  go_wp2_with fail
  refine (seatH_any k _ bs _ (Hbs.out.keep Hf1.out) Hbb.out (by have := Hl.out; omega) Hk.out).mono ?_
  rintro r w2 ⟨n, E, a2', m, c2', rfl, hm, -, -, hok, hr2, hmc, g⟩
  have HO : Hid (HOk n E) := hok
  have Hm : Hid (m = E.length) := hm
  have Hr2 : Hid (RdV w2 (.slice a2' m c2') E) := hr2
  have Hf2 : Hid (Fr w w2 (fun _ => False)) := Hf1.out.none g
  have H12 : Hid (Fr w1 w2 (fun _ => False)) := g
  have Hm40 : Hid (m ≤ 40) := by have := hok.len; show _ ≤ _; omega
  clear g hok hm hr2
  go_upto_region 6 with fail
  obtain ⟨ph, hph⟩ : ∃ p, p = w2.heap.size := ⟨_, rfl⟩
  obtain ⟨w3, hw3⟩ : ∃ x, x = w2.alloc (.cells #[.int .u64 (n : Int), .slice a2' m c2'] 25) := ⟨_, rfl⟩
  rw [← hw3, ← hph]
  have Qh : Hid (∀ z, Fr w3 z (fun _ => False) → z.heap[ph]? = some (.cells #[.int .u64 (n : Int), .slice a2' m c2'] 25 (0, 0))) := fun z hz => hz.kept (by rw [hw3, hph]; exact heap_alloc_new _ _) (fun h => h)
  have H23 : Hid (Fr w2 w3 (fun _ => False)) := by show Fr _ _ _; rw [hw3]; exact (Fr.refl _ _).alloc _
  have Hr3 : Hid (∀ z, Fr w3 z (fun _ => False) → RdV z (.slice a2' m c2') E) := fun z hz => Hr2.out.keep (H23.out.none hz)
  have Hw3 : Hid (Fr w w3 (fun _ => False)) := Hf2.out.none H23.out
  clear hph hw3 Hr2
  have H83 : Hid (Fr wa w3 (fun _ => False)) := (H01.out.none H12.out).none H23.out
  have Hraw : Hid (∀ z, Fr w3 z (fun _ => False) → RdV z (.slice a0 len0 cap0) raw) := fun z hz => Hmr.out.keep (Hw3.out.none hz)
  clear ka kb
  obtain ⟨x0, hx0⟩ : ∃ x, x = w3.drew := ⟨_, rfl⟩
  have G0 : Hid (Fr w3 x0 (fun _ => False)) := by show Fr _ _ _; rw [hx0]; exact (Fr.refl _ _).drew
  go_wp2_with fail
  refine wp_region_tree (fun _ => False) (.take 0 (.take 1 (.take 2 (.take 3 (.take 4 (.take 5 (.take 9 (.one 6 (.one 7 (.take 8 .nil)))))))))) (by kernel_rfl) (by kernel_rfl) (by decide) (by kernel_rfl) ?_
  rw [← hx0]
  clear hx0
  have kp8a : ∀ z, Fr x0 z (fun _ => False) → z.cell? ⟨p8, 0, none⟩ = some (.int .u64 (n0 : Int)) := fun z hz => two_cell0 (Q8.out z (H83.out.none (G0.out.none hz)))
  have kp8b : ∀ z, Fr x0 z (fun _ => False) → z.cell? ⟨p8, 1, none⟩ = some (.slice a0 len0 cap0) := fun z hz => two_cell1 (Q8.out z (H83.out.none (G0.out.none hz)))
  have kpha : ∀ z, Fr x0 z (fun _ => False) → z.cell? ⟨ph, 0, none⟩ = some (.int .u64 (n : Int)) := fun z hz => two_cell0 (Qh.out z (G0.out.none hz))
  have kphb : ∀ z, Fr x0 z (fun _ => False) → z.cell? ⟨ph, 1, none⟩ = some (.slice a2' m c2') := fun z hz => two_cell1 (Qh.out z (G0.out.none hz))
  repeat (refine wpT_take (v := ?_) rfl rfl (fun x hx => ?_) ?_; rotate_left; (focus (go_simp; with_reducible rfl)); simp only [Act.put, List.setIfInBounds_toArray, List.set_cons_zero, List.set_cons_succ])
  clear kp8a kp8b kpha kphb
  have hfit := bent_fit (n := n) (evs := E) (what := wh) (at_ := at_) HO.out.n64 Hz.out HO.out.fit
  obtain ⟨⟨NB, EB⟩, hB⟩ : ∃ B, B = bentF n E wh at_ a3 := ⟨_, rfl⟩
  rw [← hB] at hfit
  have HfB : Hid _ := hfit
  have HB : Hid _ := hB
  clear hB hfit
  refine wpT_one rfl rfl (fun K hK => ?_)
  go_simp
  refine (seatBent_any n _ E wh at_ a3 _ (Hr3.out _ G0.out) (by have := HO.out.len; omega) HO.out.fit Hwh.out Hat_.out).mono ?_
  rw [← HB.out]
  dsimp only
  unfold histV
  rintro r x1 ⟨⟨v1, rfl, hr1, -⟩, g⟩
  have Hv1 : Hid (RdV x1 v1 EB) := hr1
  obtain ⟨ab, lb, cb, rfl⟩ : ∃ a l c, v1 = .slice a l c := by obtain ⟨a, c, e, -⟩ := hr1.form; exact ⟨a, _, c, e⟩
  have HlB : Hid (lb = EB.length) := by obtain ⟨a, c, e, -⟩ := Hv1.out.form; simp only [Value.slice.injEq] at e; exact e.2.1
  refine hK _ _ g ?_
  clear hK K hr1
  have G1 : Hid (Fr w3 x1 (fun _ => False)) := G0.out.none g
  clear g
  refine wpT_one rfl rfl (fun K hK => ?_)
  go_simp
  refine hK _ _ ((Fr.refl x1 _).alloc _) ?_
  clear hK K
  obtain ⟨pT, hpT⟩ : ∃ p, p = x1.heap.size := ⟨_, rfl⟩
  have hlit : HoldsN 2 (x1.alloc (.cells #[.int .u64 (n0 : Int), .slice a0 len0 cap0, .int .u64 (n : Int), .slice a2' m c2', .int .u64 (NB : Int), .slice ab lb cb] 25)) (.slice (some ⟨x1.heap.size, 0, none⟩) 3 3) 3 (List.flatMap encH [(n0, (a0, len0, cap0), raw), (n, (a2', m, c2'), E), (NB, (ab, lb, cb), EB)]) := holdsN_lit 2 x1 25 3 _ rfl (by omega)
  obtain ⟨x6, hx6⟩ : ∃ x, x = x1.alloc (.cells #[.int .u64 (n0 : Int), .slice a0 len0 cap0, .int .u64 (n : Int), .slice a2' m c2', .int .u64 (NB : Int), .slice ab lb cb] 25) := ⟨_, rfl⟩
  rw [← hx6] at hlit ⊢
  have G16 : Hid (Fr x1 x6 (fun _ => False)) := by show Fr _ _ _; rw [hx6]; exact (Fr.refl _ _).alloc _
  have G6 : Hid (Fr w3 x6 (fun _ => False)) := G1.out.none G16.out
  have Hall : Hid (∀ x ∈ ([(n0, (a0, len0, cap0), raw), (n, (a2', m, c2'), E), (NB, (ab, lb, cb), EB)] : List Hs), HsOk x6 x) := fun x hx => by
    have h40 := HO.out.len
    simp only [List.mem_cons, List.not_mem_nil, or_false] at hx
    rcases hx with rfl | rfl | rfl
    · exact ⟨Hn0.out, Hraw.out _ G6.out, by have := Hl20.out; dsimp only; omega, Hmf.out, Hml.out.symm⟩
    · exact ⟨HO.out.n64, Hr3.out _ G6.out, by dsimp only; omega, HO.out.fit, Hm.out⟩
    · exact ⟨HfB.out.1, Hv1.out.keep G16.out, by have := HfB.out.2.2; dsimp only at this ⊢; omega, HfB.out.2.1, HlB.out⟩
  generalize hXS : ([(n0, (a0, len0, cap0), raw), (n, (a2', m, c2'), E), (NB, (ab, lb, cb), EB)] : List Hs) = XS at hlit Hall
  have HXSl : Hid (XS.length = 3) := by show _ = _; rw [← hXS]; rfl
  clear hXS
  rw [← hpT] at hlit ⊢
  clear hpT hx6
  have Hlit : Hid (HoldsN 2 x6 (.slice (some ⟨pT, 0, none⟩) 3 3) 3 (List.flatMap encH XS)) := hlit
  clear hlit
  try simp only [Act.put, List.setIfInBounds_toArray, List.set_cons_zero, List.set_cons_succ]
  repeat (refine wpT_take (v := ?_) rfl rfl (fun x hx => ?_) ?_; rotate_left; (focus (go_simp; with_reducible rfl)); simp only [Act.put, List.setIfInBounds_toArray, List.set_cons_zero, List.set_cons_succ])
  have Hx6 : Hid (Fr w x6 (fun _ => False)) := Hw3.out.none G6.out
  unfold wpT
  go_wp2_with fail
  go_loopg [57] 3 (fun g I wr => ∃ i : Nat, g = 3 - i ∧ i ≤ 3 ∧ I = .int .i64 (i : Int) ∧ Fr x6 wr (fun _ => False))
  case atStart => exact ⟨0, by omega, by omega, rfl, Fr.refl _ _⟩
  case round =>
    obtain ⟨i, hg, hi, rfl, hf⟩ := hrel
    have Hg : Hid _ := hg
    have Hf : Hid (Fr x6 wr (fun _ => False)) := hf
    clear hg hf
    by_cases hlt : i < 3
    · have hin : (i : Int) < 3 := by omega
      have hin' : decide (i < 3) = true := decide_eq_true hlt
      obtain ⟨⟨nx, ⟨ax, lx, cx⟩, Ex⟩, hx⟩ : ∃ x, XS[i]? = some x := ⟨_, List.getElem?_eq_getElem (by rw [HXSl.out]; exact hlt)⟩
      obtain ⟨hx1, hx2, hx3, hx4, hx5⟩ := (Hall.out _ (List.mem_of_getElem? hx)).keep Hf.out
      have Hx1 : Hid (nx < 18446744073709551616) := hx1
      have Hx2 : Hid (RdV wr (.slice ax lx cx) Ex) := hx2
      have Hx3 : Hid (Ex.length ≤ 100) := hx3
      have Hx4 : Hid (∀ y ∈ Ex, EvFit y) := hx4
      obtain ⟨r0, r1⟩ := hrow_get XS i _ hx
      obtain ⟨-, ao, cp, e9, -, hcl⟩ := Hlit.out.keep Hf.out
      obtain ⟨b, off, rfl, hcell⟩ := hcl (by omega)
      simp only [Value.slice.injEq, Option.some.injEq, Addr.mk.injEq] at e9
      obtain ⟨⟨rfl, rfl, -⟩, -, -⟩ := e9
      have kt0 := hcell _ _ r0
      have kt1 := hcell _ _ r1
      simp only [Nat.zero_add] at kt0 kt1
      have hi0 : (0 : Int) ≤ (i : Int) := by omega
      clear hx hx1 hx2 hx3 hx4 hx5 r0 r1 hcl hcell
      go_upto_region 9 with fail
      obtain ⟨p20, hp20⟩ : ∃ p, p = wr.heap.size := ⟨_, rfl⟩
      obtain ⟨z1, hz1⟩ : ∃ x, x = wr.alloc (.cells #[.int .u64 (nx : Int), .slice ax lx cx] 25) := ⟨_, rfl⟩
      rw [← hz1, ← hp20]
      have Q20 : Hid (∀ z, Fr z1 z (fun _ => False) → z.heap[p20]? = some (.cells #[.int .u64 (nx : Int), .slice ax lx cx] 25 (0, 0))) := fun z hz => hz.kept (by rw [hz1, hp20]; exact heap_alloc_new _ _) (fun h => h)
      have Zr : Hid (Fr wr z1 (fun _ => False)) := by show Fr _ _ _; rw [hz1]; exact (Fr.refl _ _).alloc _
      have Hrx : Hid (∀ z, Fr z1 z (fun _ => False) → RdV z (.slice ax lx cx) Ex) := fun z hz => Hx2.out.keep (Zr.out.none hz)
      clear hp20 hz1 kt0 kt1 Hx2
      have Hw3r : Hid (Fr w3 z1 (fun _ => False)) := G6.out.none (Hf.out.none Zr.out)
      obtain ⟨ce, hC⟩ : ∃ c, c = (checkF nx Ex).2 := ⟨_, rfl⟩
      have HC : Hid _ := hC
      obtain ⟨cp', hcp⟩ : ∃ c, c = (checkF nx Ex).1 := ⟨_, rfl⟩
      have HCC : Hid (checkF nx Ex = (cp', ce)) := by show _ = _; rw [hcp, hC]
      obtain ⟨T, hT⟩ : ∃ t, t = timeF E ne := ⟨_, rfl⟩
      have HT : Hid (T = timeF E ne) := hT
      have HTb : Hid (-9223372036854775808 ≤ T ∧ T ≤ 9223372036854775807) := timeF_fit hT HO.out.times
      clear hC hcp hT
      obtain ⟨ka, kb⟩ : z1.cell? ⟨ph, 0, none⟩ = some (.int .u64 (n : Int)) ∧ z1.cell? ⟨ph, 1, none⟩ = some (.slice a2' m c2') := ⟨two_cell0 (Qh.out z1 Hw3r.out), two_cell1 (Qh.out z1 Hw3r.out)⟩
      go_wp2_with fail
      refine (seatTime_any n _ E ne _ (Hr3.out z1 Hw3r.out) (by have := HO.out.len; omega) HO.out.times Hne.out).mono ?_
      rw [← HT.out]
      rintro r z2 ⟨rfl, g⟩
      have Z12 : Hid (Fr z1 z2 (fun _ => False)) := g
      clear g ka kb
      go_upto_region 10 with fail
      obtain ⟨pN, hpN⟩ : ∃ p, p = z2.heap.size := ⟨_, rfl⟩
      obtain ⟨wb, hwb⟩ : ∃ x, x = z2.alloc (.cells #[.int .i64 a3, .int .i64 T] 2) := ⟨_, rfl⟩
      rw [← hwb, ← hpN]
      have QN : Hid (∀ z, Fr wb z (fun _ => False) → z.heap[pN]? = some (.cells #[.int .i64 a3, .int .i64 T] 2 (0, 0))) := fun z hz => hz.kept (by rw [hwb, hpN]; exact heap_alloc_new _ _) (fun h => h)
      have Z1b : Hid (Fr z1 wb (fun _ => False)) := by show Fr _ _ _; rw [hwb]; exact Z12.out.alloc _
      clear hwb hpN
      go_loopg [67] 2 (fun g I wr => ∃ j : Nat, g = 2 - j ∧ j ≤ 2 ∧ I = .int .i64 (j : Int) ∧ Fr wb wr (fun _ => False))
      case atStart => exact ⟨0, by omega, by omega, rfl, Fr.refl _ _⟩
      case round =>
        obtain ⟨j, hg2, hj, rfl, hf2⟩ := hrel
        have Hg2 : Hid _ := hg2
        have Hf2 : Hid (Fr wb wr (fun _ => False)) := hf2
        have Hf21 : Hid (Fr z1 wr (fun _ => False)) := Z1b.out.none hf2
        clear hg2 hf2
        by_cases hlj : j < 2
        · have hjn : (j : Int) < 2 := by omega
          have hjn' : decide (j < 2) = true := decide_eq_true hlj
          obtain ⟨y, ky, hy⟩ : ∃ y : Int, wr.cell? ⟨pN, j, none⟩ = some (.int .i64 y) ∧ (-9223372036854775808 ≤ y ∧ y ≤ 9223372036854775807) := by
            have h1 := QN.out wr Hf2.out
            have hj2 : j = 0 ∨ j = 1 := by omega
            rcases hj2 with rfl | rfl
            · exact ⟨a3, two_cell0 h1, Hz.out⟩
            · exact ⟨T, two_cell1 h1, HTb.out⟩
          have Hy : Hid _ := hy
          have hj0 : (0 : Int) ≤ (j : Int) := by omega
          obtain ⟨la, hla⟩ : ∃ l, l = (atF nx Ex y).1 := ⟨_, rfl⟩
          have HA : Hid (atF nx Ex y = (la, ce)) := by show _ = _; rw [hla, HC.out, ← at_err nx Ex y]
          have Hla : Hid (la.length ≤ 100) := by have h1 := after_length nx Ex ((uptoF Ex y : Nat) : Int); have h2 := Hx3.out; rw [hla]; exact (by unfold atF; omega : (atF nx Ex y).1.length ≤ 100)
          have Hnil : Hid (ce ≠ 0 → la = []) := fun h => by rw [hla]; exact after_none (by rw [← HC.out]; exact h)
          clear hy hla
          go_upto_region 12 with fail
          clear ky
          obtain ⟨ka, kb⟩ : wr.cell? ⟨p20, 0, none⟩ = some (.int .u64 (nx : Int)) ∧ wr.cell? ⟨p20, 1, none⟩ = some (.slice ax lx cx) := ⟨two_cell0 (Q20.out wr Hf21.out), two_cell1 (Q20.out wr Hf21.out)⟩
          go_wp2_with fail
          refine (M.at_ nx _ Ex y _ (Hrx.out wr Hf21.out) Hx1.out (by have := Hx3.out; omega) Hx4.out Hy.out.1 Hy.out.2).mono ?_
          rw [HA.out]
          rintro r y1 ⟨⟨vA, rfl, hvA⟩, g⟩
          have Y1 : Hid (Fr wb y1 (fun _ => False)) := Hf2.out.none g
          have Y1z : Hid (Fr z1 y1 (fun _ => False)) := Hf21.out.none g
          obtain ⟨aA, cA, rfl, -⟩ := hvA.form
          obtain ⟨ll, hll⟩ : ∃ l, l = la.length := ⟨_, rfl⟩
          dsimp only at hvA ⊢
          rw [← hll] at hvA ⊢
          have HrA : Hid (∀ z, Fr y1 z (fun _ => False) → RdE z (.slice aA ll cA) la) := fun z hz => RdE.keep hvA hz
          have Hll : Hid _ := hll
          clear g hvA ka kb hll
          obtain ⟨ka, kb⟩ : y1.cell? ⟨p20, 0, none⟩ = some (.int .u64 (nx : Int)) ∧ y1.cell? ⟨p20, 1, none⟩ = some (.slice ax lx cx) := ⟨two_cell0 (Q20.out y1 Y1z.out), two_cell1 (Q20.out y1 Y1z.out)⟩
          go_wp2_with fail
          refine (refAt_any nx _ Ex y _ (Hrx.out y1 Y1z.out) (by have := Hx3.out; omega) Hx4.out).mono ?_
          rw [HA.out]
          rintro r y2 ⟨⟨vB, rfl, hvB, -⟩, g⟩
          have Y12 : Hid (Fr y1 y2 (fun _ => False)) := g
          have Y2z : Hid (Fr z1 y2 (fun _ => False)) := Y1z.out.none g
          have HrB : Hid (∀ z, Fr y2 z (fun _ => False) → RdE z vB la) := fun z hz => RdE.keep hvB hz
          clear g hvB ka kb
          dsimp only
          obtain ⟨ka, kb⟩ : y2.cell? ⟨p20, 0, none⟩ = some (.int .u64 (nx : Int)) ∧ y2.cell? ⟨p20, 1, none⟩ = some (.slice ax lx cx) := ⟨two_cell0 (Q20.out y2 Y2z.out), two_cell1 (Q20.out y2 Y2z.out)⟩
          go_wp2_with fail
          refine (refCheck_any nx _ Ex _ (Hrx.out y2 Y2z.out) (by have := Hx3.out; omega) Hx4.out).mono ?_
          rw [HCC.out]
          rintro r y3 ⟨rfl, g⟩
          have Y23 : Hid (Fr y2 y3 (fun _ => False)) := g
          have Y3 : Hid (Fr wb y3 (fun _ => False)) := (Y1.out.none Y12.out).none g
          clear g ka kb
          dsimp only
          have e1 : ((ce : Int) != (ce : Int)) = false := by simp
          by_cases hce : ce = 0
          · have d0 : ((ce : Int) == 0) = true := by simp [hce]
            have d1 : ((ce : Int) != 0) = false := by simp [hce]
            go_wp2_with fail
            refine (refSameEdges_any _ vB la la _ (HrA.out y3 (Y12.out.none Y23.out)) (HrB.out y3 Y23.out) (by have := Hla.out; omega) (by have := Hla.out; omega)).mono ?_
            rw [decide_eq_true rfl]
            rintro r y4 ⟨rfl, g⟩
            have Y4 : Hid (Fr wb y4 (fun _ => False)) := Y3.out.none g
            clear g
            go_wp2_with fail
            go_roundg (2 - (j + 1))
            case rel => exact ⟨j + 1, rfl, by omega, by go_num, Y4.out⟩
            case measure => rw [Hg2.out]; omega
          · have d0 : ((ce : Int) == 0) = false := by rw [beq_eq_false_iff_ne]; omega
            have d1 : ((ce : Int) != 0) = true := by rw [bne_iff_ne]; omega
            have d0n : (ce == 0) = false := by rw [beq_eq_false_iff_ne]; exact hce
            have hl0 : ll = 0 := by rw [Hll.out, Hnil.out hce]; rfl
            clear hce
            subst hl0
            go_wp2_with fail
            go_roundg (2 - (j + 1))
            case rel => exact ⟨j + 1, rfl, by omega, by go_num, Y3.out⟩
            case measure => rw [Hg2.out]; omega
        · have hjn : ¬ (j : Int) < 2 := by omega
          have hjn' : decide (j < 2) = false := decide_eq_false hlj
          obtain ⟨wd, hwd⟩ : ∃ x, x = wr := ⟨_, rfl⟩
          subst hwd
          obtain ⟨zb, hzb⟩ : ∃ z, z = and15 a5 := ⟨_, rfl⟩
          have wz15 : bits .and .i64 a5 15 = (zb : Int) := by rw [hzb]; exact and15_is a5
          have Hzb : Hid (zb ≤ 15) := by rw [hzb]; exact and15_le a5
          clear hzb
          go_upto_region 19 with fail
          obtain ⟨pM, hpM⟩ : ∃ p, p = wd.heap.size := ⟨_, rfl⟩
          obtain ⟨wb2, hwb2⟩ : ∃ x, x = wd.alloc (.cells #[.int .i64 a5, .int .i64 (zb : Int)] 3) := ⟨_, rfl⟩
          rw [← hwb2, ← hpM]
          have QM : Hid (∀ z, Fr wb2 z (fun _ => False) → z.heap[pM]? = some (.cells #[.int .i64 a5, .int .i64 (zb : Int)] 3 (0, 0))) := fun z hz => hz.kept (by rw [hwb2, hpM]; exact heap_alloc_new _ _) (fun h => h)
          have Z1b2 : Hid (Fr z1 wb2 (fun _ => False)) := by show Fr _ _ _; rw [hwb2]; exact Hf21.out.alloc _
          clear hwb2 hpM wz15
          go_loopg [121] 2 (fun g I wr => ∃ j : Nat, g = 2 - j ∧ j ≤ 2 ∧ I = .int .i64 (j : Int) ∧ Fr wb2 wr (fun _ => False))
          case atStart => exact ⟨0, by omega, by omega, rfl, Fr.refl _ _⟩
          case round =>
            obtain ⟨j2, hg3, hj2, rfl, hf3⟩ := hrel
            have Hg3 : Hid _ := hg3
            have Hf3 : Hid (Fr wb2 wr (fun _ => False)) := hf3
            have Hf31 : Hid (Fr z1 wr (fun _ => False)) := Z1b2.out.none hf3
            clear hg3 hf3
            by_cases hlj2 : j2 < 2
            · have hjn2 : (j2 : Int) < 2 := by omega
              have hjn2' : decide (j2 < 2) = true := decide_eq_true hlj2
              obtain ⟨y, ky, hy⟩ : ∃ y : Int, wr.cell? ⟨pM, j2, none⟩ = some (.int .i64 y) ∧ (-9223372036854775808 ≤ y ∧ y ≤ 9223372036854775807) := by
                have h1 := QM.out wr Hf3.out
                have hj3 : j2 = 0 ∨ j2 = 1 := by omega
                have h15 := Hzb.out
                rcases hj3 with rfl | rfl
                · exact ⟨a5, two_cell0 h1, Hz5.out⟩
                · exact ⟨(zb : Int), two_cell1 h1, by omega, by omega⟩
              have Hy : Hid _ := hy
              have hj20 : (0 : Int) ≤ (j2 : Int) := by omega
              obtain ⟨la, hla⟩ : ∃ l, l = (afterF nx Ex y).1 := ⟨_, rfl⟩
              have HA : Hid (afterF nx Ex y = (la, ce)) := by show _ = _; rw [hla, HC.out, ← after_err nx Ex y]
              have Hla : Hid (la.length ≤ 100) := by have h1 := after_length nx Ex y; have h2 := Hx3.out; rw [hla]; exact (by omega : (afterF nx Ex y).1.length ≤ 100)
              clear hy hla
              go_upto_region 21 with fail
              clear ky
              obtain ⟨ka, kb⟩ : wr.cell? ⟨p20, 0, none⟩ = some (.int .u64 (nx : Int)) ∧ wr.cell? ⟨p20, 1, none⟩ = some (.slice ax lx cx) := ⟨two_cell0 (Q20.out wr Hf31.out), two_cell1 (Q20.out wr Hf31.out)⟩
              go_wp2_with fail
              refine (M.after nx _ Ex y _ (Hrx.out wr Hf31.out) Hx1.out (by have := Hx3.out; omega) Hx4.out Hy.out.1 Hy.out.2).mono ?_
              rw [HA.out]
              rintro r y1 ⟨⟨vA, rfl, hvA⟩, g⟩
              have Y1z : Hid (Fr z1 y1 (fun _ => False)) := Hf31.out.none g
              have Y1 : Hid (Fr wb2 y1 (fun _ => False)) := Hf3.out.none g
              have HrA : Hid (∀ z, Fr y1 z (fun _ => False) → RdE z vA la) := fun z hz => RdE.keep hvA hz
              clear g hvA ka kb
              dsimp only
              obtain ⟨ka, kb⟩ : y1.cell? ⟨p20, 0, none⟩ = some (.int .u64 (nx : Int)) ∧ y1.cell? ⟨p20, 1, none⟩ = some (.slice ax lx cx) := ⟨two_cell0 (Q20.out y1 Y1z.out), two_cell1 (Q20.out y1 Y1z.out)⟩
              go_wp2_with fail
              refine (refAfter_any nx _ Ex y _ (Hrx.out y1 Y1z.out) (by have := Hx3.out; omega) Hx4.out Hy.out).mono ?_
              rw [HA.out]
              rintro r y2 ⟨⟨vB, rfl, hvB, -⟩, g⟩
              have Y12 : Hid (Fr y1 y2 (fun _ => False)) := g
              have Y2 : Hid (Fr wb2 y2 (fun _ => False)) := Y1.out.none g
              have HrB : Hid (RdE y2 vB la) := hvB
              clear g hvB ka kb
              dsimp only
              have e1 : ((ce : Int) != (ce : Int)) = false := by simp
              go_wp2_with fail
              refine (refSameEdges_any vA vB la la _ (HrA.out y2 Y12.out) HrB.out (by have := Hla.out; omega) (by have := Hla.out; omega)).mono ?_
              rw [decide_eq_true rfl]
              rintro r y3 ⟨rfl, g⟩
              have Y3 : Hid (Fr wb2 y3 (fun _ => False)) := Y2.out.none g
              clear g
              go_wp2_with fail
              go_roundg (2 - (j2 + 1))
              case rel => exact ⟨j2 + 1, rfl, by omega, by go_num, Y3.out⟩
              case measure => rw [Hg3.out]; omega
            · have hjn2 : ¬ (j2 : Int) < 2 := by omega
              have hjn2' : decide (j2 < 2) = false := decide_eq_false hlj2
              have Hfo : Hid (Fr x6 wr (fun _ => False)) := (Hf.out.none Zr.out).none Hf31.out
              go_wp2_with fail
              go_roundg (3 - (i + 1))
              case rel => exact ⟨i + 1, rfl, by omega, by go_num, Hfo.out⟩
              case measure => rw [Hg.out]; omega
    · have hin : ¬ (i : Int) < 3 := by omega
      have hin' : decide (i < 3) = false := decide_eq_false hlt
      have Hfo : Hid (Fr w wr (fun _ => False)) := Hx6.out.none Hf.out
      go_wp2
      go_ret
      exact ⟨rfl, ebelow Hfo.out⟩

end Go.Proofs.Ythdlhdeaeaahoaa.snapTells

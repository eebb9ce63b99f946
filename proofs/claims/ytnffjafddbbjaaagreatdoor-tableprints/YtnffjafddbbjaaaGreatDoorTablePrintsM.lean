/-
  The walk of the law TablePrints, under the condition that table's functions answer as their contracts say.
-/
import Derived.Test.YtnffjafddbbjaaaGreatDoorRows
import Derived.Test.YtnffjafddbbjaaaGreatDoorTHelpL
import Derived.Test.YtnffjafddbbjaaaGreatDoorXParts
import Derived.Test.YtnffjafddbbjaaaGreatDoorXBent
namespace Go.Proofs.YtnffjafddbbjaaaGreatDoor.tablePrints
open Go.ChangeShapes Go.WideShapes Go.ChangeAt Go.RowKit

set_option maxRecDepth 4000 in
set_option maxHeartbeats 6400000 in
theorem walkM {K : World → Prop} (M : TI K) (n0 : Nat) (a0 : Option Addr) (len0 cap0 : Nat) (a1 : Int) (a2 : Option Addr) (len2 cap2 : Nat) (z2 : List Int) (a3 a4 a5 : Int) (w : World) (w0 : n0 < 18446744073709551616 ∧ IsEvents w a0 len0 cap0) (w1 : (Lit.int .u8 a1).wf = true) (w2 : IsRow .u8 w a2 len2 cap2 z2) (w3 : (Lit.int .u8 a3).wf = true) (w4 : (Lit.int .u8 a4).wf = true) (w5 : (Lit.int .i64 a5).wf = true) (hK : K w) :
    Calls Tryz.prog 3 #[histV n0 (.slice a0 len0 cap0), .int .u8 a1, .slice a2 len2 cap2, .int .u8 a3, .int .u8 a4, .int .i64 a5] w fun e w' => e = .returned (.bool true) ∧ Below w.heap.size w w' := by
  have HK : Hid (K w) := hK
  clear hK
  obtain ⟨bs, hbl, hbb, hbr⟩ := bytes_arg w2
  have Hbs : Hid (Reads .u8 w (.slice a2 len2 cap2) bs) := hbr
  have Hbb : Hid (∀ x ∈ bs, x < 256) := hbb
  have Hbl : Hid (bs.length = len2) := hbl
  clear hbl hbb hbr
  obtain ⟨k, rfl, hk⟩ := eu8_nat w1
  have Hk : Hid (k < 256) := hk
  obtain ⟨wh, rfl, hwh⟩ := eu8_nat w3
  have Hwh : Hid (wh < 256) := hwh
  obtain ⟨at_, rfl, hat_⟩ := eu8_nat w4
  have Hat_ : Hid (at_ < 256) := hat_
  have Hz : Hid (-9223372036854775808 ≤ a5 ∧ a5 ≤ 9223372036854775807) := by have := bounds_i64 w5; show _ ∧ _; omega
  obtain ⟨hn0, raw, hml, hmr, hmf⟩ := w0
  have Hn0 : Hid _ := hn0
  have Hml : Hid _ := hml
  have Hmr : Hid (RdV w (.slice a0 len0 cap0) raw) := hmr
  have Hmf : Hid _ := hmf
  clear w1 w2 w3 w4 w5 hn0 hml hmr hmf hk hwh hat_
  unfold histV
  go_enter Tryz.func3, Tryz.ntmps3
  go_wp2_with fail
  obtain ⟨p8, hp8⟩ : ∃ p, p = w.heap.size := ⟨_, rfl⟩
  obtain ⟨wa, hwa⟩ : ∃ wa, wa = w.alloc (.cells #[.int .u64 (n0 : Int), .slice a0 len0 cap0] 25) := ⟨_, rfl⟩
  rw [← hwa, ← hp8]
  have Q8 : Hid (∀ z, Fr wa z (fun _ => False) → z.heap[p8]? = some (.cells #[.int .u64 (n0 : Int), .slice a0 len0 cap0] 25 (0, 0))) := fun z hz => hz.kept (by rw [hwa, hp8]; exact heap_alloc_new _ _) (fun h => h)
  have Hwa : Hid (Fr w wa (fun _ => False)) := by show Fr _ _ _; rw [hwa]; exact (Fr.refl _ _).alloc _
  clear hp8 hwa
  refine (tknown_any M wa (M.keep HK.out Hwa.out)).mono ?_
  rintro e w1 ⟨rfl, hf1⟩
  have H01 : Hid (Fr wa w1 (fun _ => False)) := hf1
  have Hf1 : Hid (Fr w w1 (fun _ => False)) := Hwa.out.none hf1
  clear hf1
  obtain ⟨ka, kb⟩ : w1.cell? ⟨p8, 0, none⟩ = some (.int .u64 (n0 : Int)) ∧ w1.cell? ⟨p8, 1, none⟩ = some (.slice a0 len0 cap0) := ⟨two_cell0 (Q8.out w1 H01.out), two_cell1 (Q8.out w1 H01.out)⟩
  by_cases hb20 : 20 < len0
  · have d1 : decide ((20 : Int) < (len0 : Int)) = true := decide_eq_true (by omega)
    have d1' : decide (20 < len0) = true := decide_eq_true hb20
    go_wp2
    go_ret
    exact ⟨rfl, ebelow Hf1.out⟩
  have db20 : decide ((20 : Int) < (len0 : Int)) = false := decide_eq_false (by omega)
  have db20' : decide (20 < len0) = false := decide_eq_false hb20
  have Hl20 : Hid (raw.length ≤ 20) := by have := Hml.out; exact (by omega : raw.length ≤ 20)
  clear hb20
  by_cases hb60 : 60 < len2
  · have d1 : decide ((60 : Int) < (len2 : Int)) = true := decide_eq_true (by omega)
    have d1' : decide (60 < len2) = true := decide_eq_true hb60
    go_wp2
    go_ret
    exact ⟨rfl, ebelow Hf1.out⟩
  have db60 : decide ((60 : Int) < (len2 : Int)) = false := decide_eq_false (by omega)
  have db60' : decide (60 < len2) = false := decide_eq_false hb60
  have Hl : Hid (bs.length ≤ 60) := by have := Hbl.out; exact (by omega : bs.length ≤ 60)
  clear hb60
  go_wp2_with fail
  refine (seatH_any k _ bs _ (Hbs.out.keep Hf1.out) Hbb.out (by have := Hl.out; omega) Hk.out).mono ?_
  rintro r w2 ⟨n, E, a2', m, c2', rfl, hm, -, -, hok, hr2, hmc, g⟩
  have HO : Hid (HOk n E) := hok
  have Hm : Hid (m = E.length) := hm
  have Hr2 : Hid (RdV w2 (.slice a2' m c2') E) := hr2
  have Hf2 : Hid (Fr w w2 (fun _ => False)) := Hf1.out.none g
  have H12 : Hid (Fr w1 w2 (fun _ => False)) := g
  have Hm40 : Hid (m ≤ 40) := by have := hok.len; show _ ≤ _; omega
  clear g hok hm hr2
  go_upto_region 6 with fail
  obtain ⟨ph, hph⟩ : ∃ p, p = w2.heap.size := ⟨_, rfl⟩
  obtain ⟨w3, hw3⟩ : ∃ x, x = w2.alloc (.cells #[.int .u64 (n : Int), .slice a2' m c2'] 25) := ⟨_, rfl⟩
  rw [← hw3, ← hph]
  have Qh : Hid (∀ z, Fr w3 z (fun _ => False) → z.heap[ph]? = some (.cells #[.int .u64 (n : Int), .slice a2' m c2'] 25 (0, 0))) := fun z hz => hz.kept (by rw [hw3, hph]; exact heap_alloc_new _ _) (fun h => h)
  have H23 : Hid (Fr w2 w3 (fun _ => False)) := by show Fr _ _ _; rw [hw3]; exact (Fr.refl _ _).alloc _
  have Hr3 : Hid (∀ z, Fr w3 z (fun _ => False) → RdV z (.slice a2' m c2') E) := fun z hz => Hr2.out.keep (H23.out.none hz)
  have Hw3 : Hid (Fr w w3 (fun _ => False)) := Hf2.out.none H23.out
  clear hph hw3 Hr2
  have H83 : Hid (Fr wa w3 (fun _ => False)) := (H01.out.none H12.out).none H23.out
  have Hraw : Hid (∀ z, Fr w3 z (fun _ => False) → RdV z (.slice a0 len0 cap0) raw) := fun z hz => Hmr.out.keep (Hw3.out.none hz)
  clear ka kb
  obtain ⟨x0, hx0⟩ : ∃ x, x = w3.drew := ⟨_, rfl⟩
  have G0 : Hid (Fr w3 x0 (fun _ => False)) := by show Fr _ _ _; rw [hx0]; exact (Fr.refl _ _).drew
  go_wp2_with fail
  refine wp_region_tree (fun _ => False) (.take 0 (.take 1 (.take 2 (.take 4 (.take 5 (.take 6 (.take 7 (.take 11 (.one 3 (.one 8 (.one 9 (.take 10 .nil)))))))))))) (by kernel_rfl) (by kernel_rfl) (by decide) (by kernel_rfl) ?_
  rw [← hx0]
  clear hx0
  have kp8a : ∀ z, Fr x0 z (fun _ => False) → z.cell? ⟨p8, 0, none⟩ = some (.int .u64 (n0 : Int)) := fun z hz => two_cell0 (Q8.out z (H83.out.none (G0.out.none hz)))
  have kp8b : ∀ z, Fr x0 z (fun _ => False) → z.cell? ⟨p8, 1, none⟩ = some (.slice a0 len0 cap0) := fun z hz => two_cell1 (Q8.out z (H83.out.none (G0.out.none hz)))
  have kpha : ∀ z, Fr x0 z (fun _ => False) → z.cell? ⟨ph, 0, none⟩ = some (.int .u64 (n : Int)) := fun z hz => two_cell0 (Qh.out z (G0.out.none hz))
  have kphb : ∀ z, Fr x0 z (fun _ => False) → z.cell? ⟨ph, 1, none⟩ = some (.slice a2' m c2') := fun z hz => two_cell1 (Qh.out z (G0.out.none hz))
  repeat (refine wpT_take (v := ?_) rfl rfl (fun x hx => ?_) ?_; rotate_left; (focus (go_simp; with_reducible rfl)); simp only [Act.put, List.setIfInBounds_toArray, List.set_cons_zero, List.set_cons_succ])
  clear kp8a kp8b kpha kphb
  have Hlf : Hid (∀ x ∈ lateF E, EvFit x) := late_fit HO.out.times HO.out.fit
  have HlL : Hid ((lateF E).length = E.length) := lateF_length E
  obtain ⟨EL, hEL⟩ : ∃ L, L = lateF E := ⟨_, rfl⟩
  rw [← hEL] at Hlf HlL
  have HEL : Hid _ := hEL
  clear hEL
  refine wpT_one rfl rfl (fun K hK => ?_)
  go_simp
  refine (seatLate_any n _ E _ (Hr3.out _ G0.out) (by have := HO.out.len; omega) HO.out.times).mono ?_
  rw [← HEL.out]
  unfold histV
  rintro r xl ⟨⟨v0, rfl, hr0⟩, g⟩
  have Hv0 : Hid (RdV xl v0 EL) := hr0
  obtain ⟨al, ll, cl, rfl⟩ : ∃ a l c, v0 = .slice a l c := by obtain ⟨a, c, e, -⟩ := hr0.form; exact ⟨a, _, c, e⟩
  have HlE : Hid (ll = EL.length) := by obtain ⟨a, c, e, -⟩ := Hv0.out.form; simp only [Value.slice.injEq] at e; exact e.2.1
  refine hK _ _ g ?_
  clear hK K hr0
  have Gl : Hid (Fr w3 xl (fun _ => False)) := G0.out.none g
  clear g
  have hfit := bent_fit (n := n) (evs := E) (what := wh) (at_ := at_) HO.out.n64 Hz.out HO.out.fit
  obtain ⟨⟨NB, EB⟩, hB⟩ : ∃ B, B = bentF n E wh at_ a5 := ⟨_, rfl⟩
  rw [← hB] at hfit
  have HfB : Hid _ := hfit
  have HB : Hid _ := hB
  clear hB hfit
  refine wpT_one rfl rfl (fun K hK => ?_)
  go_simp
  refine (seatBent_any n _ E wh at_ a5 _ (Hr3.out _ Gl.out) (by have := HO.out.len; omega) HO.out.fit Hwh.out Hat_.out).mono ?_
  rw [← HB.out]
  dsimp only
  unfold histV
  rintro r x1 ⟨⟨v1, rfl, hr1, -⟩, g⟩
  have Hv1 : Hid (RdV x1 v1 EB) := hr1
  obtain ⟨ab, lb, cb, rfl⟩ : ∃ a l c, v1 = .slice a l c := by obtain ⟨a, c, e, -⟩ := hr1.form; exact ⟨a, _, c, e⟩
  have HlB : Hid (lb = EB.length) := by obtain ⟨a, c, e, -⟩ := Hv1.out.form; simp only [Value.slice.injEq] at e; exact e.2.1
  refine hK _ _ g ?_
  clear hK K hr1
  have G1 : Hid (Fr w3 x1 (fun _ => False)) := Gl.out.none g
  have Gl1 : Hid (Fr xl x1 (fun _ => False)) := g
  clear g
  refine wpT_one rfl rfl (fun K hK => ?_)
  go_simp
  refine hK _ _ ((Fr.refl x1 _).alloc _) ?_
  clear hK K
  obtain ⟨pT, hpT⟩ : ∃ p, p = x1.heap.size := ⟨_, rfl⟩
  have hlit : HoldsN 2 (x1.alloc (.cells #[.int .u64 (n0 : Int), .slice a0 len0 cap0, .int .u64 (n : Int), .slice a2' m c2', .int .u64 (n : Int), .slice al ll cl, .int .u64 (NB : Int), .slice ab lb cb] 25)) (.slice (some ⟨x1.heap.size, 0, none⟩) 4 4) 4 (List.flatMap encH [(n0, (a0, len0, cap0), raw), (n, (a2', m, c2'), E), (n, (al, ll, cl), EL), (NB, (ab, lb, cb), EB)]) := holdsN_lit 2 x1 25 4 _ rfl (by omega)
  obtain ⟨x6, hx6⟩ : ∃ x, x = x1.alloc (.cells #[.int .u64 (n0 : Int), .slice a0 len0 cap0, .int .u64 (n : Int), .slice a2' m c2', .int .u64 (n : Int), .slice al ll cl, .int .u64 (NB : Int), .slice ab lb cb] 25) := ⟨_, rfl⟩
  rw [← hx6] at hlit ⊢
  have G16 : Hid (Fr x1 x6 (fun _ => False)) := by show Fr _ _ _; rw [hx6]; exact (Fr.refl _ _).alloc _
  have G6 : Hid (Fr w3 x6 (fun _ => False)) := G1.out.none G16.out
  have Hall : Hid (∀ x ∈ ([(n0, (a0, len0, cap0), raw), (n, (a2', m, c2'), E), (n, (al, ll, cl), EL), (NB, (ab, lb, cb), EB)] : List Hs), HsOk x6 x) := fun x hx => by
    have h40 := HO.out.len
    simp only [List.mem_cons, List.not_mem_nil, or_false] at hx
    rcases hx with rfl | rfl | rfl | rfl
    · exact ⟨Hn0.out, Hraw.out _ G6.out, by have := Hl20.out; dsimp only; omega, Hmf.out, Hml.out.symm⟩
    · exact ⟨HO.out.n64, Hr3.out _ G6.out, by dsimp only; omega, HO.out.fit, Hm.out⟩
    · exact ⟨HO.out.n64, Hv0.out.keep (Gl1.out.none G16.out), by have := HlL.out; dsimp only; omega, Hlf.out, HlE.out⟩
    · exact ⟨HfB.out.1, Hv1.out.keep G16.out, by have := HfB.out.2.2; dsimp only at this ⊢; omega, HfB.out.2.1, HlB.out⟩
  generalize hXS : ([(n0, (a0, len0, cap0), raw), (n, (a2', m, c2'), E), (n, (al, ll, cl), EL), (NB, (ab, lb, cb), EB)] : List Hs) = XS at hlit Hall
  have HXSl : Hid (XS.length = 4) := by show _ = _; rw [← hXS]; rfl
  clear hXS
  rw [← hpT] at hlit ⊢
  clear hpT hx6
  have Hlit : Hid (HoldsN 2 x6 (.slice (some ⟨pT, 0, none⟩) 4 4) 4 (List.flatMap encH XS)) := hlit
  clear hlit
  try simp only [Act.put, List.setIfInBounds_toArray, List.set_cons_zero, List.set_cons_succ]
  repeat (refine wpT_take (v := ?_) rfl rfl (fun x hx => ?_) ?_; rotate_left; (focus (go_simp; with_reducible rfl)); simp only [Act.put, List.setIfInBounds_toArray, List.set_cons_zero, List.set_cons_succ])
  have Hx6 : Hid (Fr w x6 (fun _ => False)) := Hw3.out.none G6.out
  unfold wpT
  go_wp2_with fail
  go_loopg [48] 4 (fun g I wr => ∃ i : Nat, g = 4 - i ∧ i ≤ 4 ∧ I = .int .i64 (i : Int) ∧ Fr x6 wr (fun _ => False))
  case atStart => exact ⟨0, by omega, by omega, rfl, Fr.refl _ _⟩
  case round =>
    obtain ⟨i, hg, hi, rfl, hf⟩ := hrel
    have Hg : Hid _ := hg
    have Hf : Hid (Fr x6 wr (fun _ => False)) := hf
    clear hg hf
    by_cases hlt : i < 4
    · have hin : (i : Int) < 4 := by omega
      have hin' : decide (i < 4) = true := decide_eq_true hlt
      obtain ⟨⟨nx, ⟨ax, lx, cx⟩, Ex⟩, hx⟩ : ∃ x, XS[i]? = some x := ⟨_, List.getElem?_eq_getElem (by rw [HXSl.out]; exact hlt)⟩
      obtain ⟨hx1, hx2, hx3, hx4, hx5⟩ := (Hall.out _ (List.mem_of_getElem? hx)).keep Hf.out
      have Hx1 : Hid (nx < 18446744073709551616) := hx1
      have Hx2 : Hid (RdV wr (.slice ax lx cx) Ex) := hx2
      have Hx3 : Hid (Ex.length ≤ 100) := hx3
      have Hx4 : Hid (∀ y ∈ Ex, EvFit y) := hx4
      obtain ⟨r0, r1⟩ := hrow_get XS i _ hx
      obtain ⟨-, ao, cp, e9, -, hcl⟩ := Hlit.out.keep Hf.out
      obtain ⟨b, off, rfl, hcell⟩ := hcl (by omega)
      simp only [Value.slice.injEq, Option.some.injEq, Addr.mk.injEq] at e9
      obtain ⟨⟨rfl, rfl, -⟩, -, -⟩ := e9
      have kt0 := hcell _ _ r0
      have kt1 := hcell _ _ r1
      simp only [Nat.zero_add] at kt0 kt1
      have hi0 : (0 : Int) ≤ (i : Int) := by omega
      clear hx hx1 hx2 hx3 hx4 hx5 r0 r1 hcl hcell
      go_upto_region 9 with fail
      obtain ⟨p20, hp20⟩ : ∃ p, p = wr.heap.size := ⟨_, rfl⟩
      obtain ⟨z1, hz1⟩ : ∃ x, x = wr.alloc (.cells #[.int .u64 (nx : Int), .slice ax lx cx] 25) := ⟨_, rfl⟩
      rw [← hz1, ← hp20]
      have Q20 : Hid (∀ z, Fr z1 z (fun _ => False) → z.heap[p20]? = some (.cells #[.int .u64 (nx : Int), .slice ax lx cx] 25 (0, 0))) := fun z hz => hz.kept (by rw [hz1, hp20]; exact heap_alloc_new _ _) (fun h => h)
      have Zr : Hid (Fr wr z1 (fun _ => False)) := by show Fr _ _ _; rw [hz1]; exact (Fr.refl _ _).alloc _
      have Hrx : Hid (∀ z, Fr z1 z (fun _ => False) → RdV z (.slice ax lx cx) Ex) := fun z hz => Hx2.out.keep (Zr.out.none hz)
      clear hp20 hz1 kt0 kt1 Hx2
      obtain ⟨S, hS⟩ : ∃ S, S = prTab nx Ex := ⟨_, rfl⟩
      obtain ⟨ce, hC⟩ : ∃ c, c = (checkF nx Ex).2 := ⟨_, rfl⟩
      have HS : Hid _ := hS
      have HC : Hid _ := hC
      clear hS hC
      obtain ⟨ka, kb⟩ : z1.cell? ⟨p20, 0, none⟩ = some (.int .u64 (nx : Int)) ∧ z1.cell? ⟨p20, 1, none⟩ = some (.slice ax lx cx) := ⟨two_cell0 (Q20.out z1 (Fr.refl _ _)), two_cell1 (Q20.out z1 (Fr.refl _ _))⟩
      go_wp2_with fail
      refine (M.print nx _ Ex _ (Hrx.out z1 (Fr.refl _ _)) Hx1.out (by have := Hx3.out; omega) Hx4.out (M.keep (M.keep HK.out Hx6.out) (Hf.out.none Zr.out))).mono ?_
      rw [← HS.out, ← HC.out]
      rintro r z2 ⟨rfl, g⟩
      have Z2 : Hid (Fr z1 z2 (fun _ => False)) := g
      clear g ka kb
      obtain ⟨ka, kb⟩ : z2.cell? ⟨p20, 0, none⟩ = some (.int .u64 (nx : Int)) ∧ z2.cell? ⟨p20, 1, none⟩ = some (.slice ax lx cx) := ⟨two_cell0 (Q20.out z2 Z2.out), two_cell1 (Q20.out z2 Z2.out)⟩
      go_wp2_with fail
      refine (refPrintTable_any nx _ Ex _ (Hrx.out z2 Z2.out) Hx1.out (by have := Hx3.out; omega) Hx4.out).mono ?_
      rw [← HS.out, ← HC.out]
      rintro r z3 ⟨rfl, g⟩
      have Z3 : Hid (Fr z1 z3 (fun _ => False)) := Z2.out.none g
      clear g ka kb Z2
      have e1 : ((ce : Int) != (ce : Int)) = false := by simp
      by_cases hce : ce = 0
      · subst hce
        have hp := M.parse S z3 (by rw [HS.out]; have h1 := prTab_size nx Ex; have := Hx3.out; omega) (M.keep (M.keep HK.out Hx6.out) ((Hf.out.none Zr.out).none Z3.out))
        have hpl : parseTab S = ⟨nx, Ex, 0, 0, 0⟩ := by rw [HS.out]; exact prTab_parse HC.out.symm
        rw [hpl] at hp
        clear hpl
        unfold histV placeR at hp
        dsimp only at hp
        go_wp2_with fail
        refine hp.mono ?_
        clear hp
        rintro r z4 ⟨⟨vy, rfl, hy⟩, g⟩
        obtain ⟨ay, cy, rfl, hcy⟩ : ∃ a c, vy = .slice a Ex.length c ∧ Ex.length ≤ c := hy.form
        have Hy : Hid (RdV z4 (.slice ay Ex.length cy) Ex) := hy
        have Z4 : Hid (Fr z1 z4 (fun _ => False)) := Z3.out.none g
        clear g hy
        go_upto_region 15 with fail
        obtain ⟨p1, hp1⟩ : ∃ p, p = z4.heap.size := ⟨_, rfl⟩
        obtain ⟨p2, hp2⟩ : ∃ p, p = p1 + 1 := ⟨_, rfl⟩
        obtain ⟨z5, hz5⟩ : ∃ x, x = (z4.alloc (.cells #[.int .u64 (nx : Int), .slice ay Ex.length cy] 25)).alloc (.cells #[.int .i64 0, .int .i64 0] 38) := ⟨_, rfl⟩
        rw [← hz5, ← hp1, ← hp2]
        have h1 : z5.heap[p1]? = some (.cells #[.int .u64 (nx : Int), .slice ay Ex.length cy] 25 (0, 0)) := by rw [hz5, hp1]; exact blk_alloc _ (heap_alloc_new _ _)
        have h2 : z5.heap[p2]? = some (.cells #[.int .i64 0, .int .i64 0] 38 (0, 0)) := by
          have h0 := heap_alloc_new (z4.alloc (.cells #[.int .u64 (nx : Int), .slice ay Ex.length cy] 25)) (.cells #[.int .i64 0, .int .i64 0] 38)
          rw [hz5, hp2, hp1]
          simpa using h0
        have g : Fr z4 z5 (fun _ => False) := by rw [hz5]; exact ((Fr.refl _ _).alloc _).alloc _
        have Hy5 : Hid (RdV z5 (.slice ay Ex.length cy) Ex) := Hy.out.keep g
        have Z5 : Hid (Fr z1 z5 (fun _ => False)) := Z4.out.none g
        obtain ⟨ka, kb⟩ : z5.cell? ⟨p20, 0, none⟩ = some (.int .u64 (nx : Int)) ∧ z5.cell? ⟨p20, 1, none⟩ = some (.slice ax lx cx) := ⟨two_cell0 (Q20.out z5 Z5.out), two_cell1 (Q20.out z5 Z5.out)⟩
        obtain ⟨kc, kd⟩ : z5.cell? ⟨p1, 0, none⟩ = some (.int .u64 (nx : Int)) ∧ z5.cell? ⟨p1, 1, none⟩ = some (.slice ay Ex.length cy) := ⟨two_cell0 h1, two_cell1 h1⟩
        obtain ⟨ke, kf⟩ : z5.cell? ⟨p2, 0, none⟩ = some (.int .i64 0) ∧ z5.cell? ⟨p2, 1, none⟩ = some (.int .i64 0) := ⟨two_cell0 h2, two_cell1 h2⟩
        clear g h1 h2 hz5 hp1 hp2 Hy
        go_wp2_with fail
        refine (refSame_any nx nx _ _ Ex Ex _ (Hrx.out _ Z5.out) Hy5.out (by have := Hx3.out; omega) (by have := Hx3.out; omega)).mono ?_
        rw [decide_eq_true (show nx = nx ∧ Ex = Ex from ⟨rfl, rfl⟩)]
        rintro r z6 ⟨rfl, g⟩
        have Z6 : Hid (Fr x6 z6 (fun _ => False)) := (Hf.out.none Zr.out).none (Z5.out.none g)
        clear g
        go_wp2_with fail
        go_roundg (4 - (i + 1))
        case rel => exact ⟨i + 1, rfl, by omega, by go_num, Z6.out⟩
        case measure => rw [Hg.out]; omega
      · have e3 : ((ce : Int) != 0) = true := by simp; omega
        have Z4 : Hid (Fr x6 z3 (fun _ => False)) := (Hf.out.none Zr.out).none Z3.out
        go_wp2_with fail
        go_roundg (4 - (i + 1))
        case rel => exact ⟨i + 1, rfl, by omega, by go_num, Z4.out⟩
        case measure => rw [Hg.out]; omega
    · have hin : ¬ (i : Int) < 4 := by omega
      have hin' : decide (i < 4) = false := decide_eq_false hlt
      have Hfo : Hid (Fr w wr (fun _ => False)) := Hx6.out.none Hf.out
      go_wp2
      go_ret
      exact ⟨rfl, ebelow Hfo.out⟩

end Go.Proofs.YtnffjafddbbjaaaGreatDoor.tablePrints

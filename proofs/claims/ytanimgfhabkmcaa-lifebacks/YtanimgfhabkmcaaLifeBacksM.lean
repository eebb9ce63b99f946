/-
  The walk of the law LifeBacks, under the condition that life's functions answer as their contracts say.
-/
import Derived.Test.YtanimgfhabkmcaaRows
import Derived.Test.YtanimgfhabkmcaaLI
import Derived.Test.YtanimgfhabkmcaaSHelp
import Derived.Test.YtanimgfhabkmcaaLBent
import Derived.Test.YtanimgfhabkmcaaJ3
import Derived.Test.YtanimgfhabkmcaaJ2
import Derived.Test.YtanimgfhabkmcaaXSame
import Derived.Test.YtanimgfhabkmcaaLArg
namespace Go.Proofs.Ytanimgfhabkmcaa.lifeBacks
open Go.ChangeShapes Go.WideShapes Go.ChangeAt Go.RowKit

/-- Lives of a list: their slice, themselves. -/
abbrev Lx := (Option Addr × Nat × Nat) × List Lf
def encX (x : Lx) : List Value := [.slice x.1.1 x.1.2.1 x.1.2.2]
def LxOk (w : World) (x : Lx) : Prop := RdL w (.slice x.1.1 x.1.2.1 x.1.2.2) x.2 ∧ x.2.length ≤ 100 ∧ (∀ y ∈ x.2, LfFit y)
theorem LxOk.keep {w w' : World} {x : Lx} (h : LxOk w x) (f : Fr w w' (fun _ => False)) : LxOk w' x := ⟨h.1.keep f, h.2⟩
theorem xrow_get : ∀ (xs : List Lx) (i : Nat) (x : Lx), xs[i]? = some x → (xs.flatMap encX)[i]? = some (.slice x.1.1 x.1.2.1 x.1.2.2)
  | [], i, x, h => by simp at h
  | y :: r, 0, x, h => by
    simp only [List.getElem?_cons_zero, Option.some.injEq] at h
    subst h
    simp [encX]
  | y :: r, i + 1, x, h => by
    simp only [List.getElem?_cons_succ] at h
    have ih := xrow_get r i x h
    rw [List.flatMap_cons, List.getElem?_append_right (by simp [encX])]
    simpa [encX] using ih

set_option maxRecDepth 4000 in
set_option maxHeartbeats 6400000 in
theorem walkM (M : LI) (a0 : Int) (a1 : Option Addr) (len1 cap1 : Nat) (a2 : Int) (a3 : Option Addr) (len3 cap3 : Nat) (z3 : List Int) (a4 a5 a6 : Int) (w : World) (w0 : (Lit.int .u64 a0).wf = true) (w1 : IsLives w a1 len1 cap1) (w2 : (Lit.int .u8 a2).wf = true) (w3 : IsRow .u8 w a3 len3 cap3 z3) (w4 : (Lit.int .u8 a4).wf = true) (w5 : (Lit.int .u8 a5).wf = true) (w6 : (Lit.int .i64 a6).wf = true) :
    Calls Try.prog 4 #[.int .u64 a0, .slice a1 len1 cap1, .int .u8 a2, .slice a3 len3 cap3, .int .u8 a4, .int .u8 a5, .int .i64 a6] w fun e w' => e = .returned (.bool true) ∧ Below w.heap.size w w' := by
  obtain ⟨bs, hbl, hbb, hbr⟩ := bytes_arg w3
  have Hbs : Hid (Reads .u8 w (.slice a3 len3 cap3) bs) := hbr
  have Hbb : Hid (∀ x ∈ bs, x < 256) := hbb
  have Hbl : Hid (bs.length = len3) := hbl
  clear hbl hbb hbr
  obtain ⟨k, rfl, hk⟩ := eu8_nat w2
  have Hk : Hid (k < 256) := hk
  obtain ⟨wh, rfl, hwh⟩ := eu8_nat w4
  have Hwh : Hid (wh < 256) := hwh
  obtain ⟨at_, rfl, hat_⟩ := eu8_nat w5
  have Hat_ : Hid (at_ < 256) := hat_
  obtain ⟨n0, rfl, hn0⟩ := u64_nat w0
  have Hn0 : Hid (n0 < 18446744073709551616) := hn0
  have Hz : Hid (-9223372036854775808 ≤ a6 ∧ a6 ≤ 9223372036854775807) := by have := bounds_i64 w6; show _ ∧ _; omega
  obtain ⟨raw, hml, hmr, hmf⟩ := w1
  have Hml : Hid _ := hml
  have Hmr : Hid (RdL w (.slice a1 len1 cap1) raw) := hmr
  have Hmf : Hid _ := hmf
  clear w0 w2 w3 w4 w5 w6 hml hmr hmf hk hwh hat_ hn0
  go_enter Try.func4, Try.ntmps4
  go_wp2_with fail
  refine (lknown_any M w).mono ?_
  rintro e w1 ⟨rfl, hf1⟩
  have H01 : Hid (Fr w w1 (fun _ => False)) := hf1
  have Hf1 : Hid (Fr w w1 (fun _ => False)) := hf1
  clear hf1
  by_cases hb20 : 20 < len1
  · have d1 : decide ((20 : Int) < (len1 : Int)) = true := decide_eq_true (by omega)
    have d1' : decide (20 < len1) = true := decide_eq_true hb20
    go_wp2
    go_ret
    exact ⟨rfl, ebelow Hf1.out⟩
  have db20 : decide ((20 : Int) < (len1 : Int)) = false := decide_eq_false (by omega)
  have db20' : decide (20 < len1) = false := decide_eq_false hb20
  have Hl20 : Hid (raw.length ≤ 20) := by have := Hml.out; exact (by omega : raw.length ≤ 20)
  clear hb20
  by_cases hb60 : 60 < len3
  · have d1 : decide ((60 : Int) < (len3 : Int)) = true := decide_eq_true (by omega)
    have d1' : decide (60 < len3) = true := decide_eq_true hb60
    go_wp2
    go_ret
    exact ⟨rfl, ebelow Hf1.out⟩
  have db60 : decide ((60 : Int) < (len3 : Int)) = false := decide_eq_false (by omega)
  have db60' : decide (60 < len3) = false := decide_eq_false hb60
  have Hl : Hid (bs.length ≤ 60) := by have := Hbl.out; exact (by omega : bs.length ≤ 60)
  clear hb60
  go_wp2_with fail
  refine (seatH_any k _ bs _ (Hbs.out.keep Hf1.out) Hbb.out (by have := Hl.out; omega) Hk.out).mono ?_
  rintro r w2 ⟨n, E, a2', m, c2', rfl, hm, -, -, hok, hr2, hmc, g⟩
  have HO : Hid (HOk n E) := hok
  have Hm : Hid (m = E.length) := hm
  have Hr2 : Hid (RdV w2 (.slice a2' m c2') E) := hr2
  have Hf2 : Hid (Fr w w2 (fun _ => False)) := Hf1.out.none g
  have H12 : Hid (Fr w1 w2 (fun _ => False)) := g
  have Hm40 : Hid (m ≤ 40) := by have := hok.len; show _ ≤ _; omega
  clear g hok hm hr2
  go_upto_region 6 with fail
  obtain ⟨ph, hph⟩ : ∃ p, p = w2.heap.size := ⟨_, rfl⟩
  obtain ⟨w3, hw3⟩ : ∃ x, x = w2.alloc (.cells #[.int .u64 (n : Int), .slice a2' m c2'] 25) := ⟨_, rfl⟩
  rw [← hw3, ← hph]
  have Qh : Hid (∀ z, Fr w3 z (fun _ => False) → z.heap[ph]? = some (.cells #[.int .u64 (n : Int), .slice a2' m c2'] 25 (0, 0))) := fun z hz => hz.kept (by rw [hw3, hph]; exact heap_alloc_new _ _) (fun h => h)
  have H23 : Hid (Fr w2 w3 (fun _ => False)) := by show Fr _ _ _; rw [hw3]; exact (Fr.refl _ _).alloc _
  have Hr3 : Hid (∀ z, Fr w3 z (fun _ => False) → RdV z (.slice a2' m c2') E) := fun z hz => Hr2.out.keep (H23.out.none hz)
  have Hw3 : Hid (Fr w w3 (fun _ => False)) := Hf2.out.none H23.out
  clear hph hw3 Hr2
  have Hraw : Hid (∀ z, Fr w3 z (fun _ => False) → RdL z (.slice a1 len1 cap1) raw) := fun z hz => Hmr.out.keep (Hw3.out.none hz)
  obtain ⟨L, hL⟩ : ∃ L, L = livesE [] E := ⟨_, rfl⟩
  have Hchk : Hid ((checkF n E).2 = 0) := by show _ = _; rw [HO.out.chk]
  have HLF : Hid (livesF n E = (L, 0)) := by show _ = _; rw [hL]; unfold livesF; exact if_pos Hchk.out
  have HL40 : Hid (L.length ≤ 40) := by have h1 := lives_length E HO.out.srt; have h2 := HO.out.len; rw [← hL] at h1; exact (by omega : L.length ≤ 40)
  have Hlck : Hid (lifeCheckF n L = (0, 0)) := by show _ = _; rw [hL]; exact lives_check Hchk.out
  have HLB : Hid (backF n L = (n, E, 0)) := by show _ = _; unfold backF; rw [Hlck.out, if_pos rfl, hL, lives_back Hchk.out]
  have Hlfit : Hid (∀ x ∈ L, LfFit x) := by
    show ∀ x ∈ L, LfFit x
    rw [hL]
    exact lives_fit (good_check Hchk.out).2.2.1 HO.out.srt HO.out.n32
  obtain ⟨K, hK⟩ : ∃ K, K = L.length := ⟨_, rfl⟩
  have HK : Hid (K = L.length) := hK
  clear hL hK
  obtain ⟨ka, kb⟩ : w3.cell? ⟨ph, 0, none⟩ = some (.int .u64 (n : Int)) ∧ w3.cell? ⟨ph, 1, none⟩ = some (.slice a2' m c2') := ⟨two_cell0 (Qh.out w3 (Fr.refl _ _)), two_cell1 (Qh.out w3 (Fr.refl _ _))⟩
  go_wp2_with fail
  refine (refLives_any n _ E _ (Hr3.out w3 (Fr.refl _ _)) (by have := HO.out.len; omega) HO.out.fit).mono ?_
  rw [HLF.out]
  rintro r w4 ⟨⟨vL, rfl, hvL⟩, g⟩
  obtain ⟨aL, cL, rfl, hcL⟩ := hvL.form
  rw [← HK.out] at hvL hcL ⊢
  have HrL : Hid (∀ z, Fr w4 z (fun _ => False) → RdL z (.slice aL K cL) L) := fun z hz => RdL.keep hvL hz
  have G4 : Hid (Fr w3 w4 (fun _ => False)) := g
  clear g hvL ka kb
  dsimp only
  obtain ⟨zs, hzs⟩ : ∃ z, z = and7 a6 := ⟨_, rfl⟩
  have wz7 : bits .and .i64 a6 7 = (zs : Int) := by rw [hzs]; exact and7_is a6
  have Hzs : Hid (zs ≤ 7) := by rw [hzs]; exact and7_le a6
  obtain ⟨zb, hzb⟩ : ∃ z, z = and15 a6 := ⟨_, rfl⟩
  have wz15 : bits .and .i64 a6 15 = (zb : Int) := by rw [hzb]; exact and15_is a6
  have Hzb : Hid (zb ≤ 15) := by rw [hzb]; exact and15_le a6
  obtain ⟨q7, hq7⟩ : ∃ q, q = wh / 7 := ⟨_, rfl⟩
  obtain ⟨q3, hq3⟩ : ∃ q, q = at_ / 3 := ⟨_, rfl⟩
  have Hq7 : Hid (q7 < 256) := by have := Hwh.out; exact (by omega : q7 < 256)
  have Hq3 : Hid (q3 < 256) := by have := Hat_.out; exact (by omega : q3 < 256)
  have s71 : (wh : Int) / 7 = (q7 : Int) := by omega
  have s72 : (wh : Int).tdiv 7 = (q7 : Int) := by rw [Int.tdiv_eq_ediv_of_nonneg (by omega)]; omega
  have s73 : IntKind.u8.wrap (q7 : Int) = (q7 : Int) := by rw [IntKind.wrap_u8]; have := Hq7.out; omega
  have s31 : (at_ : Int) / 3 = (q3 : Int) := by omega
  have s32 : (at_ : Int).tdiv 3 = (q3 : Int) := by rw [Int.tdiv_eq_ediv_of_nonneg (by omega)]; omega
  have s33 : IntKind.u8.wrap (q3 : Int) = (q3 : Int) := by rw [IntKind.wrap_u8]; have := Hq3.out; omega
  clear hzs hzb hq7 hq3
  go_wp2_with fail
  refine (bent_any _ L wh at_ a6 _ (HrL.out w4 (Fr.refl _ _)) (by have := HL40.out; omega) Hwh.out Hat_.out).mono ?_
  obtain ⟨X5, hX5⟩ : ∃ X, X = lbentF L wh at_ a6 := ⟨_, rfl⟩
  have HX5 : Hid ((∀ x ∈ X5, LfFit x) ∧ X5.length ≤ 60) := by
    have h1 := lbent_fit (z := a6) Hwh.out Hat_.out Hz.out Hlfit.out
    have h2 := HL40.out
    rw [← hX5] at h1
    exact ⟨h1.1, by omega⟩
  rw [← hX5]
  rintro r x5 ⟨⟨v5, rfl, hv5⟩, g⟩
  obtain ⟨b5, c5, rfl, -⟩ := hv5.form
  obtain ⟨l5, hl5⟩ : ∃ l, l = X5.length := ⟨_, rfl⟩
  rw [← hl5] at hv5 ⊢
  have HR5 : Hid (∀ z, Fr x5 z (fun _ => False) → RdL z (.slice b5 l5 c5) X5) := fun z hz => RdL.keep hv5 hz
  have G45 : Hid (Fr w4 x5 (fun _ => False)) := g
  clear g hv5 hX5 hl5
  go_wp2_with fail
  refine (bent_any _ L wh at_ (zs : Int) _ (HrL.out x5 G45.out) (by have := HL40.out; omega) Hwh.out Hat_.out).mono ?_
  obtain ⟨X6, hX6⟩ : ∃ X, X = lbentF L wh at_ (zs : Int) := ⟨_, rfl⟩
  have HX6 : Hid ((∀ x ∈ X6, LfFit x) ∧ X6.length ≤ 60) := by
    have h1 := lbent_fit (z := (zs : Int)) Hwh.out Hat_.out (by have := Hzs.out; omega) Hlfit.out
    have h2 := HL40.out
    rw [← hX6] at h1
    exact ⟨h1.1, by omega⟩
  rw [← hX6]
  rintro r x6 ⟨⟨v6, rfl, hv6⟩, g⟩
  obtain ⟨b6, c6, rfl, -⟩ := hv6.form
  obtain ⟨l6, hl6⟩ : ∃ l, l = X6.length := ⟨_, rfl⟩
  rw [← hl6] at hv6 ⊢
  have HR6 : Hid (∀ z, Fr x6 z (fun _ => False) → RdL z (.slice b6 l6 c6) X6) := fun z hz => RdL.keep hv6 hz
  have G56 : Hid (Fr x5 x6 (fun _ => False)) := g
  have G46 : Hid (Fr w4 x6 (fun _ => False)) := G45.out.none g
  clear g hv6 hX6 hl6
  go_wp2_with fail
  refine (bent_any _ L wh at_ (zs : Int) _ (HrL.out x6 G46.out) (by have := HL40.out; omega) Hwh.out Hat_.out).mono ?_
  obtain ⟨X7, hX7⟩ : ∃ X, X = lbentF L wh at_ (zs : Int) := ⟨_, rfl⟩
  have HX7 : Hid ((∀ x ∈ X7, LfFit x) ∧ X7.length ≤ 60) := by
    have h1 := lbent_fit (z := (zs : Int)) Hwh.out Hat_.out (by have := Hzs.out; omega) Hlfit.out
    have h2 := HL40.out
    rw [← hX7] at h1
    exact ⟨h1.1, by omega⟩
  rw [← hX7]
  rintro r x7 ⟨⟨v7, rfl, hv7⟩, g⟩
  obtain ⟨b7, c7, rfl, -⟩ := hv7.form
  obtain ⟨l7, hl7⟩ : ∃ l, l = X7.length := ⟨_, rfl⟩
  rw [← hl7] at hv7 ⊢
  have HR7 : Hid (∀ z, Fr x7 z (fun _ => False) → RdL z (.slice b7 l7 c7) X7) := fun z hz => RdL.keep hv7 hz
  have G67 : Hid (Fr x6 x7 (fun _ => False)) := g
  have G47 : Hid (Fr w4 x7 (fun _ => False)) := G46.out.none g
  clear g hv7 hX7 hl7
  go_wp2_with fail
  refine (bent_any _ X7 q7 q3 (zb : Int) _ (HR7.out x7 (Fr.refl _ _)) (by have := HX7.out.2; omega) Hq7.out Hq3.out).mono ?_
  obtain ⟨X8, hX8⟩ : ∃ X, X = lbentF X7 q7 q3 (zb : Int) := ⟨_, rfl⟩
  have HX8 : Hid ((∀ x ∈ X8, LfFit x) ∧ X8.length ≤ 61) := by
    have h1 := lbent_fit (z := (zb : Int)) Hq7.out Hq3.out (by have := Hzb.out; omega) HX7.out.1
    have h2 := HX7.out.2
    rw [← hX8] at h1
    exact ⟨h1.1, by omega⟩
  rw [← hX8]
  rintro r x8 ⟨⟨v8, rfl, hv8⟩, g⟩
  obtain ⟨b8, c8, rfl, -⟩ := hv8.form
  obtain ⟨l8, hl8⟩ : ∃ l, l = X8.length := ⟨_, rfl⟩
  rw [← hl8] at hv8 ⊢
  have HR8 : Hid (∀ z, Fr x8 z (fun _ => False) → RdL z (.slice b8 l8 c8) X8) := fun z hz => RdL.keep hv8 hz
  have G78 : Hid (Fr x7 x8 (fun _ => False)) := g
  have G48 : Hid (Fr w4 x8 (fun _ => False)) := G47.out.none g
  clear g hv8 hX8 hl8
  go_upto_region 8 with fail
  obtain ⟨pT, hpT⟩ : ∃ p, p = x8.heap.size := ⟨_, rfl⟩
  obtain ⟨x9, hx9⟩ : ∃ x, x = x8.alloc (.cells #[.slice a1 len1 cap1, .slice aL K cL, .slice b5 l5 c5, .slice b6 l6 c6, .slice b8 l8 c8] 31) := ⟨_, rfl⟩
  have hlit : HoldsN 1 (x8.alloc (.cells #[.slice a1 len1 cap1, .slice aL K cL, .slice b5 l5 c5, .slice b6 l6 c6, .slice b8 l8 c8] 31)) (.slice (some ⟨x8.heap.size, 0, none⟩) 5 5) 5 (List.flatMap encX [((a1, len1, cap1), raw), ((aL, K, cL), L), ((b5, l5, c5), X5), ((b6, l6, c6), X6), ((b8, l8, c8), X8)]) := holdsN_lit 1 x8 31 5 _ rfl (by omega)
  rw [← hx9, ← hpT] at hlit ⊢
  have G89 : Hid (Fr x8 x9 (fun _ => False)) := by show Fr _ _ _; rw [hx9]; exact (Fr.refl _ _).alloc _
  have G49 : Hid (Fr w4 x9 (fun _ => False)) := G48.out.none G89.out
  have G39 : Hid (Fr w3 x9 (fun _ => False)) := G4.out.none G49.out
  have Hall : Hid (∀ x ∈ ([((a1, len1, cap1), raw), ((aL, K, cL), L), ((b5, l5, c5), X5), ((b6, l6, c6), X6), ((b8, l8, c8), X8)] : List Lx), LxOk x9 x) := fun x hx => by
    have h40 := HL40.out
    simp only [List.mem_cons, List.not_mem_nil, or_false] at hx
    rcases hx with rfl | rfl | rfl | rfl | rfl
    · exact ⟨Hraw.out _ G39.out, by have := Hl20.out; dsimp only; omega, Hmf.out⟩
    · exact ⟨HrL.out _ G49.out, by dsimp only; omega, Hlfit.out⟩
    · exact ⟨HR5.out _ ((G56.out.none (G67.out.none G78.out)).none G89.out), by have := HX5.out.2; dsimp only; omega, HX5.out.1⟩
    · exact ⟨HR6.out _ ((G67.out.none G78.out).none G89.out), by have := HX6.out.2; dsimp only; omega, HX6.out.1⟩
    · exact ⟨HR8.out _ G89.out, by have := HX8.out.2; dsimp only; omega, HX8.out.1⟩
  generalize hXS : ([((a1, len1, cap1), raw), ((aL, K, cL), L), ((b5, l5, c5), X5), ((b6, l6, c6), X6), ((b8, l8, c8), X8)] : List Lx) = XS at hlit Hall
  have HXSl : Hid (XS.length = 5) := by show _ = _; rw [← hXS]; rfl
  have Hlit : Hid (HoldsN 1 x9 (.slice (some ⟨pT, 0, none⟩) 5 5) 5 (List.flatMap encX XS)) := hlit
  have Hx9 : Hid (Fr w x9 (fun _ => False)) := Hw3.out.none G39.out
  clear hXS hpT hx9 hlit wz7 wz15 s71 s72 s73 s31 s32 s33
  go_loopg [78] 5 (fun g I wr => ∃ i : Nat, g = 5 - i ∧ i ≤ 5 ∧ I = .int .i64 (i : Int) ∧ Fr x9 wr (fun _ => False))
  case atStart => exact ⟨0, by omega, by omega, rfl, Fr.refl _ _⟩
  case round =>
    obtain ⟨i, hg, hi, rfl, hf⟩ := hrel
    have Hg : Hid _ := hg
    have Hf : Hid (Fr x9 wr (fun _ => False)) := hf
    have Hf3 : Hid (Fr w3 wr (fun _ => False)) := G39.out.none hf
    clear hg hf
    obtain ⟨ka, kb⟩ : wr.cell? ⟨ph, 0, none⟩ = some (.int .u64 (n : Int)) ∧ wr.cell? ⟨ph, 1, none⟩ = some (.slice a2' m c2') := ⟨two_cell0 (Qh.out wr Hf3.out), two_cell1 (Qh.out wr Hf3.out)⟩
    by_cases hlt : i < 5
    · have hin : (i : Int) < 5 := by omega
      have hin' : decide (i < 5) = true := decide_eq_true hlt
      obtain ⟨⟨⟨ax, lx, cx⟩, Ex⟩, hx⟩ : ∃ x, XS[i]? = some x := ⟨_, List.getElem?_eq_getElem (by rw [HXSl.out]; exact hlt)⟩
      have Hok : Hid (LxOk wr ((ax, lx, cx), Ex)) := (Hall.out _ (List.mem_of_getElem? hx)).keep Hf.out
      have r0 := xrow_get XS i _ hx
      obtain ⟨-, ao, cp, e9, -, hcl⟩ := Hlit.out.keep Hf.out
      obtain ⟨b, off, rfl, hcell⟩ := hcl (by omega)
      simp only [Value.slice.injEq, Option.some.injEq, Addr.mk.injEq] at e9
      obtain ⟨⟨rfl, rfl, -⟩, -, -⟩ := e9
      have kt0 := hcell _ _ r0
      simp only [Nat.zero_add] at kt0
      have hi0 : (0 : Int) ≤ (i : Int) := by omega
      clear hx r0 hcl hcell
      go_upto_region 11 with fail
      clear kt0 ka kb
      obtain ⟨pN, hpN⟩ : ∃ p, p = wr.heap.size := ⟨_, rfl⟩
      obtain ⟨wb, hwb⟩ : ∃ x, x = wr.alloc (.cells #[.int .u64 (n0 : Int), .int .u64 (n : Int)] 22) := ⟨_, rfl⟩
      rw [← hwb, ← hpN]
      have QN : Hid (∀ z, Fr wb z (fun _ => False) → z.heap[pN]? = some (.cells #[.int .u64 (n0 : Int), .int .u64 (n : Int)] 22 (0, 0))) := fun z hz => hz.kept (by rw [hwb, hpN]; exact heap_alloc_new _ _) (fun h => h)
      have Hrb : Hid (Fr wr wb (fun _ => False)) := by show Fr _ _ _; rw [hwb]; exact (Fr.refl _ _).alloc _
      have HE : Hid (∀ z, Fr wb z (fun _ => False) → RdL z (.slice ax lx cx) Ex) := fun z hz => Hok.out.1.keep (Hrb.out.none hz)
      have HEl : Hid (Ex.length ≤ 100) := Hok.out.2.1
      have HEf : Hid (∀ x ∈ Ex, LfFit x) := Hok.out.2.2
      have Hfb : Hid (Fr x9 wb (fun _ => False)) := Hf.out.none Hrb.out
      clear hwb hpN
      go_loopg [87] 2 (fun g I wr => ∃ j : Nat, g = 2 - j ∧ j ≤ 2 ∧ I = .int .i64 (j : Int) ∧ Fr wb wr (fun _ => False))
      case atStart => exact ⟨0, by omega, by omega, rfl, Fr.refl _ _⟩
      case round =>
        obtain ⟨j, hg2, hj, rfl, hf2⟩ := hrel
        have Hg2 : Hid _ := hg2
        have Hf2 : Hid (Fr wb wr (fun _ => False)) := hf2
        clear hg2 hf2
        by_cases hlj : j < 2
        · have hjn : (j : Int) < 2 := by omega
          have hjn' : decide (j < 2) = true := decide_eq_true hlj
          obtain ⟨q, kq, hq⟩ : ∃ q : Nat, wr.cell? ⟨pN, j, none⟩ = some (.int .u64 (q : Int)) ∧ q < 18446744073709551616 := by
            have h1 := QN.out wr Hf2.out
            have hj2 : j = 0 ∨ j = 1 := by omega
            rcases hj2 with rfl | rfl
            · exact ⟨n0, two_cell0 h1, Hn0.out⟩
            · exact ⟨n, two_cell1 h1, HO.out.n64⟩
          have Hq : Hid _ := hq
          have hj0 : (0 : Int) ≤ (j : Int) := by omega
          obtain ⟨⟨ci, ce⟩, hC⟩ : ∃ C, C = lifeCheckF q Ex := ⟨_, rfl⟩
          have HC : Hid _ := hC
          obtain ⟨⟨bn, be, bx⟩, hB⟩ : ∃ C, C = backF q Ex := ⟨_, rfl⟩
          have HB : Hid _ := hB
          have Hbl : Hid (be.length ≤ 200) := by
            have h1 := backF_length q Ex
            rw [← hB] at h1
            dsimp only at h1
            have h2 := HEl.out
            exact (by omega : be.length ≤ 200)
          clear hq hC hB
          go_wp2_with fail
          refine (M.check q _ Ex _ (HE.out wr Hf2.out) Hq.out (by have := HEl.out; omega) HEf.out).mono ?_
          rw [← HC.out]
          rintro r z1 ⟨rfl, g⟩
          have Z1 : Hid (Fr wb z1 (fun _ => False)) := Hf2.out.none g
          clear g kq
          dsimp only
          go_wp2_with fail
          refine (refLifeCheck_any q _ Ex _ (HE.out z1 Z1.out) (by have := HEl.out; omega) HEf.out).mono ?_
          rw [← HC.out]
          rintro r z2 ⟨rfl, g⟩
          have Z2 : Hid (Fr wb z2 (fun _ => False)) := Z1.out.none g
          clear g
          dsimp only
          go_wp2_with fail
          refine (M.back q _ Ex _ (HE.out z2 Z2.out) Hq.out (by have := HEl.out; omega) HEf.out).mono ?_
          rw [← HB.out]
          rintro r z3 ⟨⟨vA, rfl, hvA⟩, g⟩
          have Z3 : Hid (Fr wb z3 (fun _ => False)) := Z2.out.none g
          obtain ⟨aA, cA, rfl, -⟩ := hvA.form
          obtain ⟨bl, hbl⟩ : ∃ l, l = be.length := ⟨_, rfl⟩
          rw [← hbl] at hvA
          have HrA : Hid (∀ z, Fr z3 z (fun _ => False) → RdV z (.slice aA bl cA) be) := fun z hz => RdV.keep hvA hz
          have Hbln : Hid _ := hbl
          have Hh : Hid (histV bn (.slice aA be.length cA) = .agg #[.int .u64 (bn : Int), .slice aA bl cA]) := by show _ = _; rw [← hbl]; rfl
          clear g hvA hbl
          dsimp only
          rw [Hh.out]
          clear Hh
          go_upto_region 16 with fail
          obtain ⟨pA, hpA⟩ : ∃ p, p = z3.heap.size := ⟨_, rfl⟩
          obtain ⟨z4, hz4⟩ : ∃ x, x = z3.alloc (.cells #[.int .u64 (bn : Int), .slice aA bl cA] 25) := ⟨_, rfl⟩
          rw [← hz4, ← hpA]
          have QA : Hid (∀ z, Fr z4 z (fun _ => False) → z.heap[pA]? = some (.cells #[.int .u64 (bn : Int), .slice aA bl cA] 25 (0, 0))) := fun z hz => hz.kept (by rw [hz4, hpA]; exact heap_alloc_new _ _) (fun h => h)
          have Z34 : Hid (Fr z3 z4 (fun _ => False)) := by show Fr _ _ _; rw [hz4]; exact (Fr.refl _ _).alloc _
          have Z4 : Hid (Fr wb z4 (fun _ => False)) := Z3.out.none Z34.out
          clear hpA hz4
          go_wp2_with fail
          refine (refBack_any q _ Ex _ (HE.out z4 Z4.out) (by have := HEl.out; omega) HEf.out).mono ?_
          rw [← HB.out]
          rintro r z5 ⟨⟨vB, rfl, hvB⟩, g⟩
          have Z45 : Hid (Fr z4 z5 (fun _ => False)) := g
          obtain ⟨aB, cB, rfl, -⟩ := hvB.form
          rw [← Hbln.out] at hvB
          have HrB : Hid (∀ z, Fr z5 z (fun _ => False) → RdV z (.slice aB bl cB) be) := fun z hz => RdV.keep hvB hz
          have Hh : Hid (histV bn (.slice aB be.length cB) = .agg #[.int .u64 (bn : Int), .slice aB bl cB]) := by show _ = _; rw [← Hbln.out]; rfl
          clear g hvB
          dsimp only
          rw [Hh.out]
          clear Hh
          go_upto_region 17 with fail
          obtain ⟨pB, hpB⟩ : ∃ p, p = z5.heap.size := ⟨_, rfl⟩
          obtain ⟨z6, hz6⟩ : ∃ x, x = z5.alloc (.cells #[.int .u64 (bn : Int), .slice aB bl cB] 25) := ⟨_, rfl⟩
          rw [← hz6, ← hpB]
          have QB : Hid (z6.heap[pB]? = some (.cells #[.int .u64 (bn : Int), .slice aB bl cB] 25 (0, 0))) := by show _ = _; rw [hz6, hpB]; exact heap_alloc_new _ _
          have Z56 : Hid (Fr z5 z6 (fun _ => False)) := by show Fr _ _ _; rw [hz6]; exact (Fr.refl _ _).alloc _
          have Z46 : Hid (Fr z4 z6 (fun _ => False)) := Z45.out.none Z56.out
          have Z6 : Hid (Fr wb z6 (fun _ => False)) := Z4.out.none Z46.out
          clear hpB hz6
          obtain ⟨ka, kb⟩ : z6.cell? ⟨pA, 0, none⟩ = some (.int .u64 (bn : Int)) ∧ z6.cell? ⟨pA, 1, none⟩ = some (.slice aA bl cA) := ⟨two_cell0 (QA.out z6 Z46.out), two_cell1 (QA.out z6 Z46.out)⟩
          obtain ⟨kc, kd⟩ : z6.cell? ⟨pB, 0, none⟩ = some (.int .u64 (bn : Int)) ∧ z6.cell? ⟨pB, 1, none⟩ = some (.slice aB bl cB) := ⟨two_cell0 QB.out, two_cell1 QB.out⟩
          have e1 : ((ci : Int) != (ci : Int)) = false := by simp
          have e2 : ((ce : Int) != (ce : Int)) = false := by simp
          have e3 : ((bx : Int) != (bx : Int)) = false := by simp
          go_wp2_with fail
          refine (refSame_any bn bn (.slice aA bl cA) (.slice aB bl cB) be be _ (HrA.out z6 (Z34.out.none Z46.out)) (HrB.out z6 Z56.out) (by have := Hbl.out; omega) (by have := Hbl.out; omega)).mono ?_
          rw [decide_eq_true ⟨rfl, rfl⟩]
          rintro r z7 ⟨rfl, g⟩
          have Z7 : Hid (Fr wb z7 (fun _ => False)) := Z6.out.none g
          clear g ka kb kc kd
          go_wp2_with fail
          go_roundg (2 - (j + 1))
          case rel => exact ⟨j + 1, rfl, by omega, by go_num, Z7.out⟩
          case measure => rw [Hg2.out]; omega
        · have hjn : ¬ (j : Int) < 2 := by omega
          have hjn' : decide (j < 2) = false := decide_eq_false hlj
          have Hfo : Hid (Fr x9 wr (fun _ => False)) := Hfb.out.none Hf2.out
          go_wp2_with fail
          go_roundg (5 - (i + 1))
          case rel => exact ⟨i + 1, rfl, by omega, by go_num, Hfo.out⟩
          case measure => rw [Hg.out]; omega
    · have hin : ¬ (i : Int) < 5 := by omega
      have hin' : decide (i < 5) = false := decide_eq_false hlt
      go_wp2_with fail
      refine (M.back n _ L _ (HrL.out wr (G49.out.none Hf.out)) HO.out.n64 (by have := HL40.out; omega) Hlfit.out).mono ?_
      rw [HLB.out]
      rintro r y1 ⟨⟨vZ, rfl, hvZ⟩, g⟩
      have Y1 : Hid (Fr w3 y1 (fun _ => False)) := Hf3.out.none g
      obtain ⟨aZ, cZ, rfl, -⟩ := hvZ.form
      dsimp only at hvZ ⊢
      rw [← Hm.out] at hvZ ⊢
      have HrZ : Hid (∀ z, Fr y1 z (fun _ => False) → RdV z (.slice aZ m cZ) E) := fun z hz => RdV.keep hvZ hz
      have Hh : Hid (histV n (.slice aZ m cZ) = .agg #[.int .u64 (n : Int), .slice aZ m cZ]) := rfl
      rw [Hh.out]
      clear g hvZ ka kb Hh
      go_upto_region 22 with fail
      obtain ⟨pZ, hpZ⟩ : ∃ p, p = y1.heap.size := ⟨_, rfl⟩
      obtain ⟨y2, hy2⟩ : ∃ x, x = y1.alloc (.cells #[.int .u64 (n : Int), .slice aZ m cZ] 25) := ⟨_, rfl⟩
      rw [← hy2, ← hpZ]
      have QZ : Hid (y2.heap[pZ]? = some (.cells #[.int .u64 (n : Int), .slice aZ m cZ] 25 (0, 0))) := by show _ = _; rw [hy2, hpZ]; exact heap_alloc_new _ _
      have Y12 : Hid (Fr y1 y2 (fun _ => False)) := by show Fr _ _ _; rw [hy2]; exact (Fr.refl _ _).alloc _
      have Y2 : Hid (Fr w3 y2 (fun _ => False)) := Y1.out.none Y12.out
      clear hpZ hy2
      obtain ⟨ka, kb⟩ : y2.cell? ⟨ph, 0, none⟩ = some (.int .u64 (n : Int)) ∧ y2.cell? ⟨ph, 1, none⟩ = some (.slice a2' m c2') := ⟨two_cell0 (Qh.out y2 Y2.out), two_cell1 (Qh.out y2 Y2.out)⟩
      obtain ⟨kc, kd⟩ : y2.cell? ⟨pZ, 0, none⟩ = some (.int .u64 (n : Int)) ∧ y2.cell? ⟨pZ, 1, none⟩ = some (.slice aZ m cZ) := ⟨two_cell0 QZ.out, two_cell1 QZ.out⟩
      go_wp2_with fail
      refine (refSame_any n n (.slice aZ m cZ) (.slice a2' m c2') E E _ (HrZ.out y2 Y12.out) (Hr3.out y2 Y2.out) (by have := HO.out.len; omega) (by have := HO.out.len; omega)).mono ?_
      rw [decide_eq_true ⟨rfl, rfl⟩]
      rintro r y3 ⟨rfl, g⟩
      have Hfo : Hid (Fr w y3 (fun _ => False)) := Hw3.out.none (Y2.out.none g)
      clear g ka kb kc kd
      go_wp2_with fail
      go_ret
      exact ⟨rfl, ebelow Hfo.out⟩

end Go.Proofs.Ytanimgfhabkmcaa.lifeBacks

/-
  The walk of the law LogTies, under the condition that logfmt's functions answer as their contracts say.
-/
import Derived.Test.YtpeibameegjefaaDoorRows
import Derived.Test.YtpeibameegjefaaDoorPLog4
import Derived.Test.YtpeibameegjefaaDoorFHelp
import Derived.Test.YtpeibameegjefaaDoorJ2
import Derived.Test.YtpeibameegjefaaDoorJ1
namespace Go.Proofs.YtpeibameegjefaaDoor
theorem tie_str (t p q r u : Nat) : (⟨#[108, 111, 103, 32, 57, 10]⟩ : ByteArray) ++ strOf (decL t) ++ ⟨#[32, 43, 32]⟩ ++ strOf (decL p) ++ ⟨#[32]⟩ ++ strOf (decL q) ++ ⟨#[10]⟩ ++ strOf (decL t) ++ ⟨#[32, 43, 32]⟩ ++ strOf (decL r) ++ ⟨#[32]⟩ ++ strOf (decL u) ++ ⟨#[10]⟩ = strOf (logL 9 [((t : Int), (p, q), true), ((t : Int), (r, u), true)]) := by
  have e1 : (⟨#[108, 111, 103, 32, 57, 10]⟩ : ByteArray) = strOf [108, 111, 103, 32, 57, 10] := rfl
  have e2 : (⟨#[32, 43, 32]⟩ : ByteArray) = strOf [32, 43, 32] := rfl
  have e3 : (⟨#[32]⟩ : ByteArray) = strOf [32] := rfl
  have e4 : (⟨#[10]⟩ : ByteArray) = strOf [10] := rfl
  rw [e1, e2, e3, e4]
  simp only [strOf_append]
  congr 1
  simp [logL, logW, headToks, toksL, Tok.bytes, lineL, evToks, sgB, decL_small]
end Go.Proofs.YtpeibameegjefaaDoor
namespace Go.Proofs.YtpeibameegjefaaDoor.logTies
open Go.ChangeShapes Go.WideShapes Go.ChangeAt Go.RowKit

set_option maxRecDepth 4000 in
set_option maxHeartbeats 6400000 in
theorem walkM {K : World → Prop} (M : FI K) (a0 a1 a2 a3 a4 : Int) (w : World) (w0 : (Lit.int .u8 a0).wf = true) (w1 : (Lit.int .u8 a1).wf = true) (w2 : (Lit.int .u8 a2).wf = true) (w3 : (Lit.int .u8 a3).wf = true) (w4 : (Lit.int .u8 a4).wf = true) (hK : K w) :
    Calls Tryd.prog 7 #[.int .u8 a0, .int .u8 a1, .int .u8 a2, .int .u8 a3, .int .u8 a4] w fun e w' => e = .returned (.bool true) ∧ Below w.heap.size w w' := by
  have HK : Hid (K w) := hK
  clear hK
  obtain ⟨a, rfl, ha⟩ := eu8_nat w0
  obtain ⟨b, rfl, hb⟩ := eu8_nat w1
  obtain ⟨c, rfl, hc⟩ := eu8_nat w2
  obtain ⟨d, rfl, hd⟩ := eu8_nat w3
  obtain ⟨t, rfl, ht⟩ := eu8_nat w4
  clear w0 w1 w2 w3 w4
  obtain ⟨p, hp⟩ : ∃ v, v = a % 4 := ⟨_, rfl⟩
  obtain ⟨qr, hqr⟩ : ∃ v, v = b % 3 := ⟨_, rfl⟩
  have bp : p < 4 := by omega
  have bqr : qr < 3 := by omega
  have tp : (a : Int).tmod 4 = (p : Int) := by rw [Int.tmod_eq_emod_of_nonneg (by omega)]; omega
  have tq : (b : Int).tmod 3 = (qr : Int) := by rw [Int.tmod_eq_emod_of_nonneg (by omega)]; omega
  have up : IntKind.u8.wrap (p : Int) = (p : Int) := by rw [IntKind.wrap_u8]; omega
  have uq : IntKind.u8.wrap (qr : Int) = (qr : Int) := by rw [IntKind.wrap_u8]; omega
  have vp : IntKind.u32.wrap (p : Int) = (p : Int) := by rw [IntKind.wrap_u32]; omega
  have vq : IntKind.u32.wrap (qr : Int) = (qr : Int) := by rw [IntKind.wrap_u32]; omega
  have xp : IntKind.u32.wrap ((p : Int) + 1) = ((p + 1 : Nat) : Int) := by rw [IntKind.wrap_u32]; omega
  obtain ⟨p1, hp1⟩ : ∃ v, v = p + 1 := ⟨_, rfl⟩
  obtain ⟨q, hq⟩ : ∃ v, v = p1 + qr := ⟨_, rfl⟩
  rw [← hp1] at xp
  have xq : IntKind.u32.wrap ((p1 : Int) + (qr : Int)) = (q : Int) := by rw [IntKind.wrap_u32]; omega
  have Bq : Hid (p < q ∧ q < 9) := by show _ ∧ _; omega
  have yp : IntKind.u64.wrap (p : Int) = (p : Int) := by rw [IntKind.wrap_u64]; omega
  have yq : IntKind.u64.wrap (q : Int) = (q : Int) := by rw [IntKind.wrap_u64]; omega
  clear hp hqr
  obtain ⟨m, hm⟩ : ∃ v, v = c % 4 := ⟨_, rfl⟩
  obtain ⟨ur, hur⟩ : ∃ v, v = d % 3 := ⟨_, rfl⟩
  have bm : m < 4 := by omega
  have bur : ur < 3 := by omega
  have tm : (c : Int).tmod 4 = (m : Int) := by rw [Int.tmod_eq_emod_of_nonneg (by omega)]; omega
  have tu : (d : Int).tmod 3 = (ur : Int) := by rw [Int.tmod_eq_emod_of_nonneg (by omega)]; omega
  have um : IntKind.u8.wrap (m : Int) = (m : Int) := by rw [IntKind.wrap_u8]; omega
  have uu : IntKind.u8.wrap (ur : Int) = (ur : Int) := by rw [IntKind.wrap_u8]; omega
  have vm : IntKind.u32.wrap (m : Int) = (m : Int) := by rw [IntKind.wrap_u32]; omega
  have vu : IntKind.u32.wrap (ur : Int) = (ur : Int) := by rw [IntKind.wrap_u32]; omega
  have xm : IntKind.u32.wrap ((m : Int) + 1) = ((m + 1 : Nat) : Int) := by rw [IntKind.wrap_u32]; omega
  obtain ⟨m1, hm1⟩ : ∃ v, v = m + 1 := ⟨_, rfl⟩
  obtain ⟨u, hu⟩ : ∃ v, v = m1 + ur := ⟨_, rfl⟩
  rw [← hm1] at xm
  have xu : IntKind.u32.wrap ((m1 : Int) + (ur : Int)) = (u : Int) := by rw [IntKind.wrap_u32]; omega
  have Bu : Hid (m < u ∧ u < 9) := by show _ ∧ _; omega
  have ym : IntKind.u64.wrap (m : Int) = (m : Int) := by rw [IntKind.wrap_u64]; omega
  have yu : IntKind.u64.wrap (u : Int) = (u : Int) := by rw [IntKind.wrap_u64]; omega
  clear hm hur
  have yt : IntKind.u64.wrap (t : Int) = (t : Int) := by rw [IntKind.wrap_u64]; omega
  have d0 := fun z => refDecimal_any t z (by omega)
  have d1 := fun z => refDecimal_any p z (by omega)
  have d2 := fun z => refDecimal_any q z (by omega)
  have d3 := fun z => refDecimal_any m z (by omega)
  have d4 := fun z => refDecimal_any u z (by omega)
  have l0 : (strOf (decL t)).size ≤ 20 := by rw [strOf_length]; exact decL_len20 t (by omega)
  have l1 : (strOf (decL p)).size ≤ 20 := by rw [strOf_length]; exact decL_len20 p (by omega)
  have l2 : (strOf (decL q)).size ≤ 20 := by rw [strOf_length]; exact decL_len20 q (by omega)
  have l3 : (strOf (decL m)).size ≤ 20 := by rw [strOf_length]; exact decL_len20 m (by omega)
  have l4 : (strOf (decL u)).size ≤ 20 := by rw [strOf_length]; exact decL_len20 u (by omega)
  have hT := tie_str t p q m u
  have Ht : Hid (t < 256) := ht
  obtain ⟨W, hW⟩ : ∃ D, D = strOf (decL t) := ⟨_, rfl⟩
  obtain ⟨D1, hD1⟩ : ∃ D, D = strOf (decL p) := ⟨_, rfl⟩
  obtain ⟨D2, hD2⟩ : ∃ D, D = strOf (decL q) := ⟨_, rfl⟩
  obtain ⟨D3, hD3⟩ : ∃ D, D = strOf (decL m) := ⟨_, rfl⟩
  obtain ⟨D4, hD4⟩ : ∃ D, D = strOf (decL u) := ⟨_, rfl⟩
  rw [← hW] at d0 l0
  rw [← hD1] at d1 l1
  rw [← hD2] at d2 l2
  rw [← hD3] at d3 l3
  rw [← hD4] at d4 l4
  rw [← hW, ← hD1, ← hD2, ← hD3, ← hD4] at hT
  have s1 : ¬ 9223372036854775807 < 6 + W.size := by omega
  have s2 : ¬ 9223372036854775807 < 6 + W.size + 3 := by omega
  have s3 : ¬ 9223372036854775807 < 6 + W.size + 3 + D1.size := by omega
  have s4 : ¬ 9223372036854775807 < 6 + W.size + 3 + D1.size + 1 := by omega
  have s5 : ¬ 9223372036854775807 < 6 + W.size + 3 + D1.size + 1 + D2.size := by omega
  have s6 : ¬ 9223372036854775807 < 6 + W.size + 3 + D1.size + 1 + D2.size + 1 := by omega
  have s7 : ¬ 9223372036854775807 < 6 + W.size + 3 + D1.size + 1 + D2.size + 1 + W.size := by omega
  have s8 : ¬ 9223372036854775807 < 6 + W.size + 3 + D1.size + 1 + D2.size + 1 + W.size + 3 := by omega
  have s9 : ¬ 9223372036854775807 < 6 + W.size + 3 + D1.size + 1 + D2.size + 1 + W.size + 3 + D3.size := by omega
  have s10 : ¬ 9223372036854775807 < 6 + W.size + 3 + D1.size + 1 + D2.size + 1 + W.size + 3 + D3.size + 1 := by omega
  have s11 : ¬ 9223372036854775807 < 6 + W.size + 3 + D1.size + 1 + D2.size + 1 + W.size + 3 + D3.size + 1 + D4.size := by omega
  have s12 : ¬ 9223372036854775807 < 6 + W.size + 3 + D1.size + 1 + D2.size + 1 + W.size + 3 + D3.size + 1 + D4.size + 1 := by omega
  obtain ⟨TT, hTT⟩ : ∃ T, T = strOf (logL 9 [((t : Int), (p, q), true), ((t : Int), (m, u), true)]) := ⟨_, rfl⟩
  rw [← hTT] at hT
  have HTT : Hid _ := hTT
  have HT : Hid (⟨#[108, 111, 103, 32, 57, 10]⟩ ++ W ++ ⟨#[32, 43, 32]⟩ ++ D1 ++ ⟨#[32]⟩ ++ D2 ++ ⟨#[10]⟩ ++ W ++ ⟨#[32, 43, 32]⟩ ++ D3 ++ ⟨#[32]⟩ ++ D4 ++ ⟨#[10]⟩ = TT) := hT
  have HTz : Hid (TT.size ≤ 1000) := by
    show _ ≤ _
    rw [← hT]
    simp only [ByteArray.size_append]
    show 6 + W.size + 3 + D1.size + 1 + D2.size + 1 + W.size + 3 + D3.size + 1 + D4.size + 1 ≤ 1000
    omega
  clear hW hD1 hD2 hD3 hD4 hT hTT l0 l1 l2 l3 l4
  go_enter Tryd.func7, Tryd.ntmps7
  go_wp2_with fail
  refine (fknown_any M w HK.out).mono ?_
  rintro e w1 ⟨rfl, hf1⟩
  have Hf1 : Hid (Fr w w1 (fun _ => False)) := hf1
  clear hf1
  go_upto_region 5 with fail
  rw [show ((p : Int) + 1 + (qr : Int)) = (q : Int) by omega, show ((m : Int) + 1 + (ur : Int)) = (u : Int) by omega]
  clear hp1 hq hm1 hu xp xq xm xu
  obtain ⟨pa, hpa⟩ : ∃ p, p = w1.heap.size := ⟨_, rfl⟩
  obtain ⟨pb, hpb⟩ : ∃ p, p = pa + 1 := ⟨_, rfl⟩
  obtain ⟨w2, hw2⟩ : ∃ x, x = (w1.alloc (.cells #[.int .u32 (p : Int), .int .u32 (q : Int)] 57)).alloc (.cells #[.int .u32 (m : Int), .int .u32 (u : Int)] 57) := ⟨_, rfl⟩
  rw [← hw2, ← hpa, ← hpb]
  have QA : Hid (∀ z, Fr w2 z (fun _ => False) → z.heap[pa]? = some (.cells #[.int .u32 (p : Int), .int .u32 (q : Int)] 57 (0, 0))) := fun z hz => hz.kept (by rw [hw2, hpa]; exact blk_alloc _ (heap_alloc_new _ _)) (fun h => h)
  have QB : Hid (∀ z, Fr w2 z (fun _ => False) → z.heap[pb]? = some (.cells #[.int .u32 (m : Int), .int .u32 (u : Int)] 57 (0, 0))) := fun z hz => hz.kept (by
    have h0 := heap_alloc_new (w1.alloc (.cells #[.int .u32 (p : Int), .int .u32 (q : Int)] 57)) (.cells #[.int .u32 (m : Int), .int .u32 (u : Int)] 57)
    rw [hw2, hpb, hpa]
    simpa using h0) (fun h => h)
  have Hf2 : Hid (Fr w w2 (fun _ => False)) := by show Fr _ _ _; rw [hw2]; exact (Hf1.out.alloc _).alloc _
  clear hpa hpb hw2
  go_wp2_with fail
  refine (d0 w2).mono ?_
  rintro r w3 ⟨rfl, g⟩
  have H23 : Hid (Fr w2 w3 (fun _ => False)) := g
  have Hf3 : Hid (Fr w w3 (fun _ => False)) := Hf2.out.none g
  clear g
  go_upto_region 6 with fail
  obtain ⟨y0, hy0⟩ : ∃ x, x = w3.drew := ⟨_, rfl⟩
  have Y0 : Hid (Fr w3 y0 (fun _ => False)) := by show Fr _ _ _; rw [hy0]; exact (Fr.refl _ _).drew
  have kA : ∀ z, Fr y0 z (fun _ => False) → z.cell? ⟨pa, 0, none⟩ = some (.int .u32 (p : Int)) := fun z hz => two_cell0 (QA.out z ((H23.out.none Y0.out).none hz))
  have kB : ∀ z, Fr y0 z (fun _ => False) → z.cell? ⟨pa, 1, none⟩ = some (.int .u32 (q : Int)) := fun z hz => two_cell1 (QA.out z ((H23.out.none Y0.out).none hz))
  have kC : ∀ z, Fr y0 z (fun _ => False) → z.cell? ⟨pb, 0, none⟩ = some (.int .u32 (m : Int)) := fun z hz => two_cell0 (QB.out z ((H23.out.none Y0.out).none hz))
  have kD : ∀ z, Fr y0 z (fun _ => False) → z.cell? ⟨pb, 1, none⟩ = some (.int .u32 (u : Int)) := fun z hz => two_cell1 (QB.out z ((H23.out.none Y0.out).none hz))
  refine wp_region_tree (fun _ => False) (.take 0 (.take 1 (.take 2 (.take 3 (.take 4 (.take 5 (.take 9 (.take 10 (.take 11 (.take 15 (.take 18 (.take 19 (.take 20 (.take 24 (.take 25 (.take 26 (.one 6 (.take 7 (.take 8 (.one 12 (.take 13 (.take 14 (.take 16 (.take 17 (.one 21 (.take 22 (.take 23 (.one 27 (.take 28 (.take 29 (.take 30 .nil))))))))))))))))))))))))))))))) (by kernel_rfl) (by kernel_rfl) (by decide) (by kernel_rfl) ?_
  rw [← hy0]
  clear hy0
  iterate 16 (refine wpT_take (v := ?_) rfl rfl (fun x hx => ?_) ?_; rotate_left; (focus (go_simp; with_reducible rfl)); simp only [Act.put, List.setIfInBounds_toArray, List.set_cons_zero, List.set_cons_succ])
  clear kA kB kC kD
  refine wpT_one rfl rfl (fun K hK => ?_)
  go_simp
  refine (d1 _).mono ?_
  rintro r y1 ⟨rfl, g⟩
  refine hK _ _ g ?_
  clear hK K
  have Y1 : Hid (Fr w3 y1 (fun _ => False)) := Y0.out.none g
  clear g
  try simp only [Act.put, List.setIfInBounds_toArray, List.set_cons_zero, List.set_cons_succ]
  iterate 2 (refine wpT_take (v := ?_) rfl rfl (fun x hx => ?_) ?_; rotate_left; (focus (go_simp; with_reducible rfl)); simp only [Act.put, List.setIfInBounds_toArray, List.set_cons_zero, List.set_cons_succ])
  refine wpT_one rfl rfl (fun K hK => ?_)
  go_simp
  refine (d2 _).mono ?_
  rintro r y2 ⟨rfl, g⟩
  refine hK _ _ g ?_
  clear hK K
  have Y2 : Hid (Fr w3 y2 (fun _ => False)) := Y1.out.none g
  clear g
  try simp only [Act.put, List.setIfInBounds_toArray, List.set_cons_zero, List.set_cons_succ]
  iterate 4 (refine wpT_take (v := ?_) rfl rfl (fun x hx => ?_) ?_; rotate_left; (focus (go_simp; with_reducible rfl)); simp only [Act.put, List.setIfInBounds_toArray, List.set_cons_zero, List.set_cons_succ])
  refine wpT_one rfl rfl (fun K hK => ?_)
  go_simp
  refine (d3 _).mono ?_
  rintro r y3 ⟨rfl, g⟩
  refine hK _ _ g ?_
  clear hK K
  have Y3 : Hid (Fr w3 y3 (fun _ => False)) := Y2.out.none g
  clear g
  try simp only [Act.put, List.setIfInBounds_toArray, List.set_cons_zero, List.set_cons_succ]
  iterate 2 (refine wpT_take (v := ?_) rfl rfl (fun x hx => ?_) ?_; rotate_left; (focus (go_simp; with_reducible rfl)); simp only [Act.put, List.setIfInBounds_toArray, List.set_cons_zero, List.set_cons_succ])
  refine wpT_one rfl rfl (fun K hK => ?_)
  go_simp
  refine (d4 _).mono ?_
  rintro r y4 ⟨rfl, g⟩
  refine hK _ _ g ?_
  clear hK K
  have Y4 : Hid (Fr w3 y4 (fun _ => False)) := Y3.out.none g
  clear g
  try simp only [Act.put, List.setIfInBounds_toArray, List.set_cons_zero, List.set_cons_succ]
  iterate 3 (refine wpT_take (v := ?_) rfl rfl (fun x hx => ?_) ?_; rotate_left; (focus (go_simp; with_reducible rfl)); simp only [Act.put, List.setIfInBounds_toArray, List.set_cons_zero, List.set_cons_succ])
  unfold wpT
  have hTb := HT.out
  go_upto_region 7 with fail
  try rw [hTb]
  have Hf4 : Hid (Fr w y4 (fun _ => False)) := Hf3.out.none Y4.out
  have H24 : Hid (Fr w2 y4 (fun _ => False)) := H23.out.none Y4.out
  clear hTb
  have hpp := M.parse TT y4 (by have := HTz.out; omega) (M.keep HK.out Hf4.out)
  have Hpq : Hid (eRight p q 9 = true) := by have := Bq.out; show _ = _; unfold eRight; exact decide_eq_true this
  have Hmu : Hid (eRight m u 9 = true) := by have := Bu.out; show _ = _; unfold eRight; exact decide_eq_true this
  have Htt : Hid ((0 : Int) ≤ (t : Int) ∧ (t : Int) ≤ 4611686018427387903) := by have := Ht.out; show _ ∧ _; omega
  have hless : eLess (p, q) (m, u) = true → parseLog TT = ⟨9, [((t : Int), (p, q), true), ((t : Int), (m, u), true)], 0, 0, 0⟩ := fun h => by
    have hc := tie_two (n := 9) (by omega) Htt.out Hpq.out Hmu.out h
    have hc2 : (checkF 9 [((t : Int), (p, q), true), ((t : Int), (m, u), true)]).2 = 0 := by rw [hc]
    exact parse_print (check_in hc2).1 (check_in hc2).2 (by simp) hc2 HTT.out
  have hnot : eLess (p, q) (m, u) = false → parseLog TT = ⟨0, [], 3, 1, 23⟩ := fun h => by
    have hc := tie_one (n := 9) (a := (p, q)) (by omega) Htt.out Hpq.out
    have hc2 : (checkF 9 [((t : Int), (p, q), true)]).2 = 0 := by rw [hc]
    have hc3 := tie_not (n := 9) (by omega) Htt.out Hpq.out Hmu.out h
    have hin : EvIn ((t : Int), (m, u), true) := by
      have h1 := Htt.out
      have h2 := Bu.out
      refine ⟨h1.1, h1.2, ?_, ?_⟩
      · show m ≤ 4294967295; omega
      · show u ≤ 4294967295; omega
    have := parse_event (s := TT) (n := 9) (evs := [((t : Int), (p, q), true)]) (y := ((t : Int), (m, u), true)) (by simp) hc2 hin (by rw [HTT.out]; congr 1; simp [logL, List.append_assoc]) (by show (checkF 9 [((t : Int), (p, q), true), ((t : Int), (m, u), true)]).2 ≠ 0; rw [hc3]; decide)
    rw [this]
    show (⟨0, [], 1 + 2, 1, (checkF 9 [((t : Int), (p, q), true), ((t : Int), (m, u), true)]).2⟩ : LogR) = _
    rw [hc3]
  obtain ⟨L, hL⟩ : ∃ L, L = eLess (p, q) (m, u) := ⟨_, rfl⟩
  have hlessA := fun z => refLess8_any (p, q) (m, u) z
  rw [← hL] at hless hnot
  rw [← hL] at hlessA
  unfold edgeV at hlessA
  dsimp only at hlessA
  have HlessA : Hid _ := hlessA
  clear hlessA hL
  cases hLv : L with
  | true =>
    have hp := hless hLv
    rw [hp] at hpp
    unfold histV placeR at hpp
    dsimp only at hpp
    clear hp hless hnot
    go_wp2_with fail
    refine hpp.mono ?_
    clear hpp
    rintro r z1 ⟨⟨v5, rfl, hr5⟩, g⟩
    obtain ⟨b5, o5, c5, rfl, hb5, hc5⟩ := hr5.get 1 ((t : Int), (m, u), true) rfl
    have Z1 : Hid (Fr w2 z1 (fun _ => False)) := H24.out.none g
    have Zf : Hid (Fr w z1 (fun _ => False)) := Hf4.out.none g
    have Hc5 : Hid _ := hc5
    clear g hr5 hc5 hb5
    dsimp only [List.length_cons, List.length_nil]
    go_upto_region 8 with fail
    obtain ⟨p1, hp1⟩ : ∃ p, p = z1.heap.size := ⟨_, rfl⟩
    obtain ⟨p2, hp2⟩ : ∃ p, p = p1 + 1 := ⟨_, rfl⟩
    obtain ⟨z2, hz2⟩ : ∃ x, x = (z1.alloc (.cells #[.int .u64 9, .slice (some ⟨b5, o5, none⟩) 2 c5] 25)).alloc (.cells #[.int .i64 0, .int .i64 0] 38) := ⟨_, rfl⟩
    rw [← hz2, ← hp1, ← hp2]
    have Q1 : Hid (∀ z, Fr z2 z (fun _ => False) → z.heap[p1]? = some (.cells #[.int .u64 9, .slice (some ⟨b5, o5, none⟩) 2 c5] 25 (0, 0))) := fun z hz => hz.kept (by rw [hz2, hp1]; exact blk_alloc _ (heap_alloc_new _ _)) (fun h => h)
    have g12 : Fr z1 z2 (fun _ => False) := by rw [hz2]; exact ((Fr.refl _ _).alloc _).alloc _
    have G12 : Hid (Fr z1 z2 (fun _ => False)) := g12
    clear hz2 hp1 hp2 g12
    obtain ⟨ka, kb⟩ : z2.cell? ⟨pa, 0, none⟩ = some (.int .u32 (p : Int)) ∧ z2.cell? ⟨pa, 1, none⟩ = some (.int .u32 (q : Int)) := ⟨two_cell0 (QA.out z2 (Z1.out.none G12.out)), two_cell1 (QA.out z2 (Z1.out.none G12.out))⟩
    obtain ⟨kc, kd⟩ : z2.cell? ⟨pb, 0, none⟩ = some (.int .u32 (m : Int)) ∧ z2.cell? ⟨pb, 1, none⟩ = some (.int .u32 (u : Int)) := ⟨two_cell0 (QB.out z2 (Z1.out.none G12.out)), two_cell1 (QB.out z2 (Z1.out.none G12.out))⟩
    have hla := HlessA.out z2
    rw [hLv] at hla
    go_wp2_with fail
    refine hla.mono ?_
    clear hla ka kb kc kd
    rintro r z3 ⟨rfl, g⟩
    have G23 : Hid (Fr z2 z3 (fun _ => False)) := g
    clear g
    go_upto_region 9 with fail
    obtain ⟨x0, hx0⟩ : ∃ x, x = z3.drew := ⟨_, rfl⟩
    have X0 : Hid (Fr z3 x0 (fun _ => False)) := by show Fr _ _ _; rw [hx0]; exact (Fr.refl _ _).drew
    have k1 : ∀ z, Fr x0 z (fun _ => False) → z.cell? ⟨p1, 1, none⟩ = some (.slice (some ⟨b5, o5, none⟩) 2 c5) := fun z hz => two_cell1 (Q1.out z ((G23.out.none X0.out).none hz))
    have k2 : ∀ z, Fr x0 z (fun _ => False) → z.cell? ⟨pb, 0, none⟩ = some (.int .u32 (m : Int)) := fun z hz => two_cell0 (QB.out z (((Z1.out.none G12.out).none (G23.out.none X0.out)).none hz))
    have k3 : ∀ z, Fr x0 z (fun _ => False) → z.cell? ⟨pb, 1, none⟩ = some (.int .u32 (u : Int)) := fun z hz => two_cell1 (QB.out z (((Z1.out.none G12.out).none (G23.out.none X0.out)).none hz))
    have k4 : ∀ z, Fr x0 z (fun _ => False) → z.cell? ⟨b5, o5 + 4 + 1, none⟩ = some (.int .u32 (m : Int)) ∧ z.cell? ⟨b5, o5 + 4 + 1 + 1, none⟩ = some (.int .u32 (u : Int)) := fun z hz => by
      have h := Hc5.out z (((G12.out.none (G23.out.none X0.out)).none hz).mono (fun _ _ h => h.elim))
      exact ⟨h.2.1, h.2.2.1⟩
    have k5 := fun z hz => (k4 z hz).1
    have k6 := fun z hz => (k4 z hz).2
    clear k4
    refine wp_region_tree (fun _ => False) (.take 0 (.take 1 (.take 2 (.take 3 (.take 4 (.take 5 (.take 6 (.take 7 (.take 8 (.take 9 (.take 10 (.take 11 (.take 12 (.take 13 (.take 14 (.take 15 (.take 16 (.take 17 .nil)))))))))))))))))) (by kernel_rfl) (by kernel_rfl) (by decide) (by kernel_rfl) ?_
    rw [← hx0]
    clear hx0
    repeat (refine wpT_take (v := ?_) rfl rfl (fun x hx => ?_) ?_; rotate_left; (focus (go_simp; with_reducible rfl)); simp only [Act.put, List.setIfInBounds_toArray, List.set_cons_zero, List.set_cons_succ])
    have Hx0 : Hid (Fr w x0 (fun _ => False)) := (Zf.out.none G12.out).none (G23.out.none X0.out)
    unfold wpT
    go_wp2
    go_ret
    exact ⟨rfl, ebelow Hx0.out⟩
  | false =>
    have hp := hnot hLv
    rw [hp] at hpp
    unfold histV placeR at hpp
    dsimp only at hpp
    clear hp hless hnot
    go_wp2_with fail
    refine hpp.mono ?_
    clear hpp
    rintro r z1 ⟨⟨v5, rfl, hr5⟩, g⟩
    obtain ⟨a5, c5, rfl, -⟩ : ∃ a c, v5 = .slice a 0 c ∧ 0 ≤ c := hr5.form
    have Z1 : Hid (Fr w2 z1 (fun _ => False)) := H24.out.none g
    have Zf : Hid (Fr w z1 (fun _ => False)) := Hf4.out.none g
    clear g hr5
    go_upto_region 8 with fail
    obtain ⟨p1, hp1⟩ : ∃ p, p = z1.heap.size := ⟨_, rfl⟩
    obtain ⟨p2, hp2⟩ : ∃ p, p = p1 + 1 := ⟨_, rfl⟩
    obtain ⟨z2, hz2⟩ : ∃ x, x = (z1.alloc (.cells #[.int .u64 0, .slice a5 0 c5] 25)).alloc (.cells #[.int .i64 3, .int .i64 1] 38) := ⟨_, rfl⟩
    rw [← hz2, ← hp1, ← hp2]
    have Q1 : Hid (∀ z, Fr z2 z (fun _ => False) → z.heap[p1]? = some (.cells #[.int .u64 0, .slice a5 0 c5] 25 (0, 0))) := fun z hz => hz.kept (by rw [hz2, hp1]; exact blk_alloc _ (heap_alloc_new _ _)) (fun h => h)
    have Q2 : Hid (∀ z, Fr z2 z (fun _ => False) → z.heap[p2]? = some (.cells #[.int .i64 3, .int .i64 1] 38 (0, 0))) := fun z hz => hz.kept (by
      have h0 := heap_alloc_new (z1.alloc (.cells #[.int .u64 0, .slice a5 0 c5] 25)) (.cells #[.int .i64 3, .int .i64 1] 38)
      rw [hz2, hp2, hp1]
      simpa using h0) (fun h => h)
    have g12 : Fr z1 z2 (fun _ => False) := by rw [hz2]; exact ((Fr.refl _ _).alloc _).alloc _
    have G12 : Hid (Fr z1 z2 (fun _ => False)) := g12
    clear hz2 hp1 hp2 g12
    obtain ⟨ka, kb⟩ : z2.cell? ⟨pa, 0, none⟩ = some (.int .u32 (p : Int)) ∧ z2.cell? ⟨pa, 1, none⟩ = some (.int .u32 (q : Int)) := ⟨two_cell0 (QA.out z2 (Z1.out.none G12.out)), two_cell1 (QA.out z2 (Z1.out.none G12.out))⟩
    obtain ⟨kc, kd⟩ : z2.cell? ⟨pb, 0, none⟩ = some (.int .u32 (m : Int)) ∧ z2.cell? ⟨pb, 1, none⟩ = some (.int .u32 (u : Int)) := ⟨two_cell0 (QB.out z2 (Z1.out.none G12.out)), two_cell1 (QB.out z2 (Z1.out.none G12.out))⟩
    have hla := HlessA.out z2
    rw [hLv] at hla
    go_wp2_with fail
    refine hla.mono ?_
    clear hla ka kb kc kd
    rintro r z3 ⟨rfl, g⟩
    have G23 : Hid (Fr z2 z3 (fun _ => False)) := g
    clear g
    have Hx0 : Hid (Fr w z3 (fun _ => False)) := (Zf.out.none G12.out).none G23.out
    obtain ⟨ka, kb⟩ : z3.cell? ⟨p1, 0, none⟩ = some (.int .u64 0) ∧ z3.cell? ⟨p1, 1, none⟩ = some (.slice a5 0 c5) := ⟨two_cell0 (Q1.out z3 G23.out), two_cell1 (Q1.out z3 G23.out)⟩
    obtain ⟨kc, kd⟩ : z3.cell? ⟨p2, 0, none⟩ = some (.int .i64 3) ∧ z3.cell? ⟨p2, 1, none⟩ = some (.int .i64 1) := ⟨two_cell0 (Q2.out z3 G23.out), two_cell1 (Q2.out z3 G23.out)⟩
    go_wp2
    go_ret
    exact ⟨rfl, ebelow Hx0.out⟩

end Go.Proofs.YtpeibameegjefaaDoor.logTies

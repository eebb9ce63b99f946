/-
  The contract of table's put: one line into a builder.
-/
import Derived.Test.YtnffjafddbbjaaaGreatDoorQFmt
import Derived.Test.YtnffjafddbbjaaaGreatDoorQBls
import Derived.Test.YtnffjafddbbjaaaGreatDoorJ1
import Derived.Test.YtnffjafddbbjaaaGreatDoorJ3
namespace Go.Proofs.YtnffjafddbbjaaaGreatDoor
open Go.RowKit

theorem tline_app (s : ByteArray) (x : Lf) : s ++ strOf (decL x.1.1) ++ strOf [32] ++ strOf (decL x.1.2) ++ strOf [32] ++ strOf (decL x.2.1.toNat) ++ strOf [32] ++ strOf (toB x.2.2) ++ strOf [10] = s ++ strOf (lineT x) := by
  rw [lineT_is]
  simp only [ByteArray.append_assoc, strOf_append, List.append_assoc]

set_option maxRecDepth 4000 in
set_option maxHeartbeats 3200000 in
theorem tabLine_any (B b : Nat) (s : ByteArray) (x : Lf) (w : World) (h : Bld B w b s) (hB : B ≤ w.heap.size) (hl : s.size ≤ 1000000000) (hx : LfIn x) (hK : ∀ z, Fr w z (fun k => B ≤ k) → KTab z) :
    Calls Tryz.prog 30 #[.pointer (some ⟨b, 0, none⟩), lifeV x] w fun e w' => e = .returned (.tuple #[]) ∧ Bld B w' b (s ++ strOf (lineT x)) ∧ Fr w w' (fun k => B ≤ k) := by
  have hline := tline_app s x
  obtain ⟨L, hL⟩ : ∃ L, L = strOf (lineT x) := ⟨_, rfl⟩
  rw [← hL] at hline ⊢
  clear hL
  obtain ⟨⟨u, vv⟩, t, tt⟩ := x
  obtain ⟨h3, h4, h1, h2, h5, h6⟩ := hx
  have h3' : u ≤ 4294967295 := h3
  have h4' : vv ≤ 4294967295 := h4
  dsimp only at h1 h2 h5 h6 hline
  obtain ⟨fn, rfl⟩ : ∃ k : Nat, t = (k : Int) := ⟨t.toNat, by omega⟩
  rw [Int.toNat_natCast] at hline
  have w2 : IntKind.u64.wrap (u : Int) = (u : Int) := by rw [IntKind.wrap_u64]; omega
  have w3 : IntKind.u64.wrap (vv : Int) = (vv : Int) := by rw [IntKind.wrap_u64]; omega
  have d1 := fun z hz => fmtUint_any u (by omega) z hz
  have d2 := fun z hz => fmtUint_any vv (by omega) z hz
  have d3 := fun z hz => fmtInt_any fn (by omega) z hz
  have d4 := fun (k : Nat) (hk : k ≤ 4611686018427387903) z hz => fmtInt_any k (by omega) z hz
  have l1 : (strOf (decL u)).size ≤ 20 := by rw [strOf_length]; exact decL_len20 u (by omega)
  have l2 : (strOf (decL vv)).size ≤ 20 := by rw [strOf_length]; exact decL_len20 vv (by omega)
  have l3 : (strOf (decL fn)).size ≤ 20 := by rw [strOf_length]; exact decL_len20 fn (by omega)
  have l4 : (strOf (toB tt)).size ≤ 20 := by
    rw [strOf_length]
    by_cases h0 : 0 ≤ tt
    · rw [toB_yes h0]; exact decL_len20 _ (by omega)
    · rw [toB_no h0]; decide
  obtain ⟨D1, hD1⟩ : ∃ D, D = strOf (decL u) := ⟨_, rfl⟩
  obtain ⟨D2, hD2⟩ : ∃ D, D = strOf (decL vv) := ⟨_, rfl⟩
  obtain ⟨D3, hD3⟩ : ∃ D, D = strOf (decL fn) := ⟨_, rfl⟩
  obtain ⟨D4, hD4⟩ : ∃ D, D = strOf (toB tt) := ⟨_, rfl⟩
  rw [← hD1] at d1 l1 hline
  rw [← hD2] at d2 l2 hline
  rw [← hD3] at d3 l3 hline
  rw [← hD4] at l4 hline
  have HD4 : Hid _ := hD4
  have Hline : Hid _ := hline
  have HK : Hid (∀ z, Fr w z (fun k => B ≤ k) → KTab z) := hK
  have Hb : Hid (Bld B w b s) := h
  have HB : Hid (B ≤ w.heap.size) := hB
  have Hl : Hid (s.size ≤ 1000000000) := hl
  have HD : Hid (D1.size ≤ 20 ∧ D2.size ≤ 20 ∧ D3.size ≤ 20 ∧ D4.size ≤ 20) := ⟨l1, l2, l3, l4⟩
  have Htt : Hid (tt ≤ 4611686018427387903) := h6
  have K4 : Hid _ := d4
  clear hline hK h hB hl l1 l2 l3 l4 hD1 hD2 hD3 hD4 h1 h2 h3 h4 h5 h6 h3' h4' d4
  unfold lifeV
  go_enter Tryz.func30, Tryz.ntmps30
  go_upto_region 1 with fail
  obtain ⟨pe, hpe⟩ : ∃ p, p = w.heap.size := ⟨_, rfl⟩
  obtain ⟨y0, hwE⟩ : ∃ x, x = w.alloc (.cells #[.int .u32 (u : Int), .int .u32 (vv : Int), .int .i64 (fn : Int), .int .i64 tt] 82) := ⟨_, rfl⟩
  try dsimp only
  rw [← hwE, ← hpe]
  have Hpy0 : Hid (y0.heap[pe]? = some (.cells #[.int .u32 (u : Int), .int .u32 (vv : Int), .int .i64 (fn : Int), .int .i64 tt] 82 (0, 0))) := by show _ = _; rw [hwE, hpe]; exact heap_alloc_new _ _
  have Hfy0 : Hid (Fr w y0 (fun k => B ≤ k)) := by show Fr _ _ _; rw [hwE]; exact (Fr.refl _ _).alloc _
  have Hby0 : Hid (Bld B y0 b s) := Hb.out.keep (by rw [hwE]; exact (Fr.refl _ _).alloc _)
  have Hnb : Hid (pe ≠ b) := by have := Hb.out.lt; show _ ≠ _; omega
  clear hwE hpe Hb
  have step : ∀ (z z' : World) (s' : ByteArray), Bld B z b s' → Fr z z' (bfoot z b) → z.heap[pe]? = some (.cells #[.int .u32 (u : Int), .int .u32 (vv : Int), .int .i64 (fn : Int), .int .i64 tt] 82 (0, 0)) → Fr w z (fun k => B ≤ k) → z'.heap[pe]? = some (.cells #[.int .u32 (u : Int), .int .u32 (vv : Int), .int .i64 (fn : Int), .int .i64 tt] 82 (0, 0)) ∧ Fr w z' (fun k => B ≤ k) :=
    fun z z' s' hb hf hp hfw => ⟨hf.kept hp (hb.apart hp (by decide) Hnb.out), hfw.trans hf (fun k _ hk => (hb.foot hk).1)⟩
  have Hstep : Hid _ := step
  clear step
  obtain ⟨k0, k1, k2, k3⟩ := four_cells Hpy0.out
  have e1 := d1 y0 (HK.out _ Hfy0.out)
  go_wp2_with fail
  refine e1.mono ?_
  rintro r y1 ⟨rfl, g⟩
  have Hby1 : Hid (Bld B y1 b (s)) := Hby0.out.keep g
  have Hpy1 : Hid _ := g.kept Hpy0.out (fun h => h)
  have Hfy1 : Hid (Fr w y1 (fun k => B ≤ k)) := Hfy0.out.trans g (fun _ _ h => h.elim)
  clear g e1 k0 k1 k2 k3
  have e1 := writeString_any B b (s) D1 y1 Hby1.out (Nat.le_trans HB.out Hfy1.out.size) (by have := Hl.out; have := HD.out; omega)
  obtain ⟨k0, k1, k2, k3⟩ := four_cells Hpy1.out
  go_wp2_with fail
  refine e1.mono ?_
  rintro r y2 ⟨rfl, hb, g⟩
  have Hby2 : Hid (Bld B y2 b (s ++ D1)) := hb
  have Hpy2 : Hid _ := (Hstep.out _ _ _ Hby1.out g Hpy1.out Hfy1.out).1
  have Hfy2 : Hid (Fr w y2 (fun k => B ≤ k)) := (Hstep.out _ _ _ Hby1.out g Hpy1.out Hfy1.out).2
  clear g hb e1 k0 k1 k2 k3
  have e1 := writeByte_any B b 32 (s ++ D1) y2 Hby2.out (Nat.le_trans HB.out Hfy2.out.size) (by have := Hl.out; have := HD.out; simp only [ByteArray.size_append]; omega) (by decide)
  obtain ⟨k0, k1, k2, k3⟩ := four_cells Hpy2.out
  go_wp2_with fail
  refine e1.mono ?_
  rintro r y3 ⟨rfl, hb, g⟩
  have Hby3 : Hid (Bld B y3 b (s ++ D1 ++ strOf [32])) := hb
  have Hpy3 : Hid _ := (Hstep.out _ _ _ Hby2.out g Hpy2.out Hfy2.out).1
  have Hfy3 : Hid (Fr w y3 (fun k => B ≤ k)) := (Hstep.out _ _ _ Hby2.out g Hpy2.out Hfy2.out).2
  clear g hb e1 k0 k1 k2 k3
  obtain ⟨k0, k1, k2, k3⟩ := four_cells Hpy3.out
  have e1 := d2 y3 (HK.out _ Hfy3.out)
  go_wp2_with fail
  refine e1.mono ?_
  rintro r y4 ⟨rfl, g⟩
  have Hby4 : Hid (Bld B y4 b (s ++ D1 ++ strOf [32])) := Hby3.out.keep g
  have Hpy4 : Hid _ := g.kept Hpy3.out (fun h => h)
  have Hfy4 : Hid (Fr w y4 (fun k => B ≤ k)) := Hfy3.out.trans g (fun _ _ h => h.elim)
  clear g e1 k0 k1 k2 k3
  have e1 := writeString_any B b (s ++ D1 ++ strOf [32]) D2 y4 Hby4.out (Nat.le_trans HB.out Hfy4.out.size) (by have := Hl.out; have := HD.out; simp only [ByteArray.size_append, strOf_length, List.length_singleton]; omega)
  obtain ⟨k0, k1, k2, k3⟩ := four_cells Hpy4.out
  go_wp2_with fail
  refine e1.mono ?_
  rintro r y5 ⟨rfl, hb, g⟩
  have Hby5 : Hid (Bld B y5 b (s ++ D1 ++ strOf [32] ++ D2)) := hb
  have Hpy5 : Hid _ := (Hstep.out _ _ _ Hby4.out g Hpy4.out Hfy4.out).1
  have Hfy5 : Hid (Fr w y5 (fun k => B ≤ k)) := (Hstep.out _ _ _ Hby4.out g Hpy4.out Hfy4.out).2
  clear g hb e1 k0 k1 k2 k3
  have e1 := writeByte_any B b 32 (s ++ D1 ++ strOf [32] ++ D2) y5 Hby5.out (Nat.le_trans HB.out Hfy5.out.size) (by have := Hl.out; have := HD.out; simp only [ByteArray.size_append, strOf_length, List.length_singleton]; omega) (by decide)
  obtain ⟨k0, k1, k2, k3⟩ := four_cells Hpy5.out
  go_wp2_with fail
  refine e1.mono ?_
  rintro r y6 ⟨rfl, hb, g⟩
  have Hby6 : Hid (Bld B y6 b (s ++ D1 ++ strOf [32] ++ D2 ++ strOf [32])) := hb
  have Hpy6 : Hid _ := (Hstep.out _ _ _ Hby5.out g Hpy5.out Hfy5.out).1
  have Hfy6 : Hid (Fr w y6 (fun k => B ≤ k)) := (Hstep.out _ _ _ Hby5.out g Hpy5.out Hfy5.out).2
  clear g hb e1 k0 k1 k2 k3
  obtain ⟨k0, k1, k2, k3⟩ := four_cells Hpy6.out
  have e1 := d3 y6 (HK.out _ Hfy6.out)
  go_wp2_with fail
  refine e1.mono ?_
  rintro r y7 ⟨rfl, g⟩
  have Hby7 : Hid (Bld B y7 b (s ++ D1 ++ strOf [32] ++ D2 ++ strOf [32])) := Hby6.out.keep g
  have Hpy7 : Hid _ := g.kept Hpy6.out (fun h => h)
  have Hfy7 : Hid (Fr w y7 (fun k => B ≤ k)) := Hfy6.out.trans g (fun _ _ h => h.elim)
  clear g e1 k0 k1 k2 k3
  have e1 := writeString_any B b (s ++ D1 ++ strOf [32] ++ D2 ++ strOf [32]) D3 y7 Hby7.out (Nat.le_trans HB.out Hfy7.out.size) (by have := Hl.out; have := HD.out; simp only [ByteArray.size_append, strOf_length, List.length_singleton]; omega)
  obtain ⟨k0, k1, k2, k3⟩ := four_cells Hpy7.out
  go_wp2_with fail
  refine e1.mono ?_
  rintro r y8 ⟨rfl, hb, g⟩
  have Hby8 : Hid (Bld B y8 b (s ++ D1 ++ strOf [32] ++ D2 ++ strOf [32] ++ D3)) := hb
  have Hpy8 : Hid _ := (Hstep.out _ _ _ Hby7.out g Hpy7.out Hfy7.out).1
  have Hfy8 : Hid (Fr w y8 (fun k => B ≤ k)) := (Hstep.out _ _ _ Hby7.out g Hpy7.out Hfy7.out).2
  clear g hb e1 k0 k1 k2 k3
  have e1 := writeByte_any B b 32 (s ++ D1 ++ strOf [32] ++ D2 ++ strOf [32] ++ D3) y8 Hby8.out (Nat.le_trans HB.out Hfy8.out.size) (by have := Hl.out; have := HD.out; simp only [ByteArray.size_append, strOf_length, List.length_singleton]; omega) (by decide)
  obtain ⟨k0, k1, k2, k3⟩ := four_cells Hpy8.out
  go_wp2_with fail
  refine e1.mono ?_
  rintro r y9 ⟨rfl, hb, g⟩
  have Hby9 : Hid (Bld B y9 b (s ++ D1 ++ strOf [32] ++ D2 ++ strOf [32] ++ D3 ++ strOf [32])) := hb
  have Hpy9 : Hid _ := (Hstep.out _ _ _ Hby8.out g Hpy8.out Hfy8.out).1
  have Hfy9 : Hid (Fr w y9 (fun k => B ≤ k)) := (Hstep.out _ _ _ Hby8.out g Hpy8.out Hfy8.out).2
  clear g hb e1 k0 k1 k2 k3
  by_cases hto : 0 ≤ tt
  · obtain ⟨tn, rfl⟩ : ∃ k : Nat, tt = (k : Int) := ⟨tt.toNat, by omega⟩
    have g1 : decide ((tn : Int) < 0) = false := decide_eq_false (by omega)
    have d5 := K4.out tn (by have := Htt.out; omega)
    have HD5 : Hid (strOf (decL tn) = D4) := by show _ = _; rw [HD4.out, toB_yes hto, Int.toNat_natCast]
    rw [HD5.out] at d5
    clear hto
    obtain ⟨k0, k1, k2, k3⟩ := four_cells Hpy9.out
    have e1 := d5 y9 (HK.out _ Hfy9.out)
    go_wp2_with fail
    refine e1.mono ?_
    rintro r y10 ⟨rfl, g⟩
    have Hby10 : Hid (Bld B y10 b (s ++ D1 ++ strOf [32] ++ D2 ++ strOf [32] ++ D3 ++ strOf [32])) := Hby9.out.keep g
    have Hpy10 : Hid _ := g.kept Hpy9.out (fun h => h)
    have Hfy10 : Hid (Fr w y10 (fun k => B ≤ k)) := Hfy9.out.trans g (fun _ _ h => h.elim)
    clear g e1 k0 k1 k2 k3
    have e1 := writeString_any B b (s ++ D1 ++ strOf [32] ++ D2 ++ strOf [32] ++ D3 ++ strOf [32]) D4 y10 Hby10.out (Nat.le_trans HB.out Hfy10.out.size) (by have := Hl.out; have := HD.out; simp only [ByteArray.size_append, strOf_length, List.length_singleton]; omega)
    obtain ⟨k0, k1, k2, k3⟩ := four_cells Hpy10.out
    go_wp2_with fail
    refine e1.mono ?_
    rintro r y11 ⟨rfl, hb, g⟩
    have Hby11 : Hid (Bld B y11 b (s ++ D1 ++ strOf [32] ++ D2 ++ strOf [32] ++ D3 ++ strOf [32] ++ D4)) := hb
    have Hpy11 : Hid _ := (Hstep.out _ _ _ Hby10.out g Hpy10.out Hfy10.out).1
    have Hfy11 : Hid (Fr w y11 (fun k => B ≤ k)) := (Hstep.out _ _ _ Hby10.out g Hpy10.out Hfy10.out).2
    clear g hb e1 k0 k1 k2 k3
    have e1 := writeByte_any B b 10 (s ++ D1 ++ strOf [32] ++ D2 ++ strOf [32] ++ D3 ++ strOf [32] ++ D4) y11 Hby11.out (Nat.le_trans HB.out Hfy11.out.size) (by have := Hl.out; have := HD.out; simp only [ByteArray.size_append, strOf_length, List.length_singleton]; omega) (by decide)
    obtain ⟨k0, k1, k2, k3⟩ := four_cells Hpy11.out
    go_wp2_with fail
    refine e1.mono ?_
    rintro r y12 ⟨rfl, hb, g⟩
    have Hby12 : Hid (Bld B y12 b (s ++ D1 ++ strOf [32] ++ D2 ++ strOf [32] ++ D3 ++ strOf [32] ++ D4 ++ strOf [10])) := hb
    have Hpy12 : Hid _ := (Hstep.out _ _ _ Hby11.out g Hpy11.out Hfy11.out).1
    have Hfy12 : Hid (Fr w y12 (fun k => B ≤ k)) := (Hstep.out _ _ _ Hby11.out g Hpy11.out Hfy11.out).2
    clear g hb e1 k0 k1 k2 k3
    go_wp2
    go_end0
    exact ⟨rfl, by rw [← Hline.out]; exact Hby12.out, Hfy12.out⟩
  · have g1 : decide (tt < 0) = true := decide_eq_true (by omega)
    have HD5 : Hid (strOf [45] = D4) := by show _ = _; rw [HD4.out, toB_no hto]
    clear hto
    have e1 := writeByte_any B b 45 (s ++ D1 ++ strOf [32] ++ D2 ++ strOf [32] ++ D3 ++ strOf [32]) y9 Hby9.out (Nat.le_trans HB.out Hfy9.out.size) (by have := Hl.out; have := HD.out; simp only [ByteArray.size_append, strOf_length, List.length_singleton]; omega) (by decide)
    obtain ⟨k0, k1, k2, k3⟩ := four_cells Hpy9.out
    go_wp2_with fail
    refine e1.mono ?_
    rintro r y10 ⟨rfl, hb, g⟩
    have Hby10 : Hid (Bld B y10 b (s ++ D1 ++ strOf [32] ++ D2 ++ strOf [32] ++ D3 ++ strOf [32] ++ strOf [45])) := hb
    have Hpy10 : Hid _ := (Hstep.out _ _ _ Hby9.out g Hpy9.out Hfy9.out).1
    have Hfy10 : Hid (Fr w y10 (fun k => B ≤ k)) := (Hstep.out _ _ _ Hby9.out g Hpy9.out Hfy9.out).2
    clear g hb e1 k0 k1 k2 k3
    have e1 := writeByte_any B b 10 (s ++ D1 ++ strOf [32] ++ D2 ++ strOf [32] ++ D3 ++ strOf [32] ++ strOf [45]) y10 Hby10.out (Nat.le_trans HB.out Hfy10.out.size) (by have := Hl.out; have := HD.out; simp only [ByteArray.size_append, strOf_length, List.length_singleton]; omega) (by decide)
    obtain ⟨k0, k1, k2, k3⟩ := four_cells Hpy10.out
    go_wp2_with fail
    refine e1.mono ?_
    rintro r y11 ⟨rfl, hb, g⟩
    have Hby11 : Hid (Bld B y11 b (s ++ D1 ++ strOf [32] ++ D2 ++ strOf [32] ++ D3 ++ strOf [32] ++ strOf [45] ++ strOf [10])) := hb
    have Hpy11 : Hid _ := (Hstep.out _ _ _ Hby10.out g Hpy10.out Hfy10.out).1
    have Hfy11 : Hid (Fr w y11 (fun k => B ≤ k)) := (Hstep.out _ _ _ Hby10.out g Hpy10.out Hfy10.out).2
    clear g hb e1 k0 k1 k2 k3
    go_wp2
    go_end0
    exact ⟨rfl, by rw [← Hline.out, ← HD5.out]; exact Hby11.out, Hfy11.out⟩

end Go.Proofs.YtnffjafddbbjaaaGreatDoor

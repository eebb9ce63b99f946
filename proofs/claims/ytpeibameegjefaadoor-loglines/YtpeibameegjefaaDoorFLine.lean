/-
  The contract of logfmt's put: one line into a builder.
-/
import Derived.Test.YtpeibameegjefaaDoorQFmt
import Derived.Test.YtpeibameegjefaaDoorQBls
import Derived.Test.YtpeibameegjefaaDoorJ1
import Derived.Test.YtpeibameegjefaaDoorJ2
namespace Go.Proofs.YtpeibameegjefaaDoor
open Go.RowKit

theorem line_app (s : ByteArray) (x : Ev) (u : ByteArray) (hu : u = strOf [32, sgB x.2.2, 32]) : s ++ strOf (decL x.1.toNat) ++ u ++ strOf (decL x.2.1.1) ++ strOf [32] ++ strOf (decL x.2.1.2) ++ strOf [10] = s ++ strOf (lineL x) := by
  rw [hu, lineL_is]
  simp only [ByteArray.append_assoc, strOf_append, List.append_assoc]

set_option maxRecDepth 4000 in
set_option maxHeartbeats 3200000 in
theorem logLine_any (B b : Nat) (s : ByteArray) (x : Ev) (w : World) (h : Bld B w b s) (hB : B ≤ w.heap.size) (hl : s.size ≤ 1000000000) (hx : EvIn x) (hK : ∀ z, Fr w z (fun k => B ≤ k) → KTab z) :
    Calls Tryd.prog 32 #[.pointer (some ⟨b, 0, none⟩), eventV x.1 x.2.1 x.2.2] w fun e w' => e = .returned (.tuple #[]) ∧ Bld B w' b (s ++ strOf (lineL x)) ∧ Fr w w' (fun k => B ≤ k) := by
  have hline := fun u hu => line_app s x u hu
  have hlen := lineL_len hx
  obtain ⟨L, hL⟩ : ∃ L, L = strOf (lineL x) := ⟨_, rfl⟩
  rw [← hL] at hline ⊢
  clear hL
  obtain ⟨t, ⟨u, vv⟩, ad⟩ := x
  obtain ⟨h1, h2, h3, h4⟩ := hx
  have h3' : u ≤ 4294967295 := h3
  have h4' : vv ≤ 4294967295 := h4
  dsimp only at h1 h2 hline
  obtain ⟨tn, rfl⟩ : ∃ k : Nat, t = (k : Int) := ⟨t.toNat, by omega⟩
  rw [Int.toNat_natCast] at hline
  have w2 : IntKind.u64.wrap (u : Int) = (u : Int) := by rw [IntKind.wrap_u64]; omega
  have w3 : IntKind.u64.wrap (vv : Int) = (vv : Int) := by rw [IntKind.wrap_u64]; omega
  have d1 := fun z hz => fmtInt_any tn (by omega) z hz
  have d2 := fun z hz => fmtUint_any u (by omega) z hz
  have d3 := fun z hz => fmtUint_any vv (by omega) z hz
  have l1 : (strOf (decL tn)).size ≤ 20 := by rw [strOf_length]; exact decL_len20 tn (by omega)
  have l2 : (strOf (decL u)).size ≤ 20 := by rw [strOf_length]; exact decL_len20 u (by omega)
  have l3 : (strOf (decL vv)).size ≤ 20 := by rw [strOf_length]; exact decL_len20 vv (by omega)
  obtain ⟨D1, hD1⟩ : ∃ D, D = strOf (decL tn) := ⟨_, rfl⟩
  obtain ⟨D2, hD2⟩ : ∃ D, D = strOf (decL u) := ⟨_, rfl⟩
  obtain ⟨D3, hD3⟩ : ∃ D, D = strOf (decL vv) := ⟨_, rfl⟩
  rw [← hD1] at d1 l1 hline
  rw [← hD2] at d2 l2 hline
  rw [← hD3] at d3 l3 hline
  have Hline : Hid _ := hline
  have HK : Hid (∀ z, Fr w z (fun k => B ≤ k) → KTab z) := hK
  have Hb : Hid (Bld B w b s) := h
  have HB : Hid (B ≤ w.heap.size) := hB
  have Hl : Hid (s.size ≤ 1000000000) := hl
  have HD : Hid (D1.size ≤ 20 ∧ D2.size ≤ 20 ∧ D3.size ≤ 20) := ⟨l1, l2, l3⟩
  clear hline hK h hB hl l1 l2 l3 hD1 hD2 hD3 h1 h2 h3 h4 h3' h4' hlen
  unfold eventV
  go_enter Tryd.func32, Tryd.ntmps32
  go_upto_region 1 with fail
  obtain ⟨pe, hpe⟩ : ∃ p, p = w.heap.size := ⟨_, rfl⟩
  obtain ⟨wE, hwE⟩ : ∃ x, x = w.alloc (.cells #[.int .i64 (tn : Int), .int .u32 (u : Int), .int .u32 (vv : Int), .bool ad] 61) := ⟨_, rfl⟩
  rw [← hwE, ← hpe]
  have Hpe : Hid (wE.heap[pe]? = some (.cells #[.int .i64 (tn : Int), .int .u32 (u : Int), .int .u32 (vv : Int), .bool ad] 61 (0, 0))) := by show _ = _; rw [hwE, hpe]; exact heap_alloc_new _ _
  have HfE : Hid (Fr w wE (fun k => B ≤ k)) := by show Fr _ _ _; rw [hwE]; exact (Fr.refl _ _).alloc _
  have HbE : Hid (Bld B wE b s) := Hb.out.keep (by rw [hwE]; exact (Fr.refl _ _).alloc _)
  have Hnb : Hid (pe ≠ b) := by have := Hb.out.lt; show _ ≠ _; omega
  clear hwE hpe Hb
  have step : ∀ (z z' : World) (s' : ByteArray), Bld B z b s' → Fr z z' (bfoot z b) → z.heap[pe]? = some (.cells #[.int .i64 (tn : Int), .int .u32 (u : Int), .int .u32 (vv : Int), .bool ad] 61 (0, 0)) → Fr w z (fun k => B ≤ k) → z'.heap[pe]? = some (.cells #[.int .i64 (tn : Int), .int .u32 (u : Int), .int .u32 (vv : Int), .bool ad] 61 (0, 0)) ∧ Fr w z' (fun k => B ≤ k) :=
    fun z z' s' hb hf hp hfw => ⟨hf.kept hp (hb.apart hp (by decide) Hnb.out), hfw.trans hf (fun k _ hk => (hb.foot hk).1)⟩
  have Hstep : Hid _ := step
  clear step
  obtain ⟨k0, k1, k2, k3⟩ := four_cells Hpe.out
  have e1 := d1 wE (HK.out _ HfE.out)
  clear d1
  go_wp2_with fail
  refine e1.mono ?_
  rintro r x1 ⟨rfl, g⟩
  have Hby0 : Hid (Bld B x1 b s) := HbE.out.keep g
  have Hpx1 : Hid _ := g.kept Hpe.out (fun h => h)
  have Hfx1 : Hid (Fr w x1 (fun k => B ≤ k)) := HfE.out.trans g (fun _ _ h => h.elim)
  have Hbx1 : Hid (Bld B x1 b s) := Hby0.out
  clear g e1 k0 k1 k2 k3 Hby0
  have e1 := writeString_any B b (s) D1 x1 Hbx1.out (Nat.le_trans HB.out Hfx1.out.size) (by have := Hl.out; have := HD.out; omega)
  obtain ⟨k0, k1, k2, k3⟩ := four_cells Hpx1.out
  go_wp2_with fail
  refine e1.mono ?_
  rintro r y1 ⟨rfl, hb, g⟩
  have Hby1 : Hid (Bld B y1 b (s ++ D1)) := hb
  have Hpy1 : Hid _ := (Hstep.out _ _ _ Hbx1.out g Hpx1.out Hfx1.out).1
  have Hfy1 : Hid (Fr w y1 (fun k => B ≤ k)) := (Hstep.out _ _ _ Hbx1.out g Hpx1.out Hfx1.out).2
  clear g hb e1 k0 k1 k2 k3
  have HU : Hid (∀ U : ByteArray, U.size = 3 → Calls Tryd.prog 29 #[.pointer (some ⟨b, 0, none⟩), .string U] y1 fun e w' => e = .returned (.tuple #[.int .i64 (U.size : Int), .nilIface]) ∧ Bld B w' b (s ++ D1 ++ U) ∧ Fr y1 w' (bfoot y1 b)) :=
    fun U hU => writeString_any B b (s ++ D1) U y1 Hby1.out (Nat.le_trans HB.out Hfy1.out.size) (by have := Hl.out; have := HD.out; simp only [ByteArray.size_append]; omega)
  obtain ⟨U, hUe⟩ : ∃ U : ByteArray, U = if ad = true then ⟨#[32, 43, 32]⟩ else ⟨#[32, 45, 32]⟩ := ⟨_, rfl⟩
  have hU3 : U.size = 3 := by rw [hUe]; cases ad <;> rfl
  have HU3 : Hid _ := hU3
  have HL : Hid _ := Hline.out U (by rw [hUe]; cases ad <;> rfl)
  have e1 := HU.out U hU3
  clear hU3 HU Hline
  obtain ⟨k0, k1, k2, k3⟩ := four_cells Hpy1.out
  cases ad
  · simp only [Bool.false_eq_true, if_false] at hUe
    subst hUe
    go_wp2_with fail
    refine e1.mono ?_
    rintro r y2 ⟨rfl, hb, g⟩
    have Hby2 : Hid (Bld B y2 b (s ++ D1 ++ (⟨#[32, 45, 32]⟩ : ByteArray))) := hb
    have Hpy2 : Hid _ := (Hstep.out _ _ _ Hby1.out g Hpy1.out Hfy1.out).1
    have Hfy2 : Hid (Fr w y2 (fun k => B ≤ k)) := (Hstep.out _ _ _ Hby1.out g Hpy1.out Hfy1.out).2
    clear g hb e1 k0 k1 k2 k3
    obtain ⟨k0, k1, k2, k3⟩ := four_cells Hpy2.out
    have e1 := d2 y2 (HK.out _ Hfy2.out)
    go_wp2_with fail
    refine e1.mono ?_
    rintro r y3 ⟨rfl, g⟩
    have Hby3 : Hid (Bld B y3 b (s ++ D1 ++ (⟨#[32, 45, 32]⟩ : ByteArray))) := Hby2.out.keep g
    have Hpy3 : Hid _ := g.kept Hpy2.out (fun h => h)
    have Hfy3 : Hid (Fr w y3 (fun k => B ≤ k)) := Hfy2.out.trans g (fun _ _ h => h.elim)
    clear g e1 k0 k1 k2 k3
    have e1 := writeString_any B b (s ++ D1 ++ (⟨#[32, 45, 32]⟩ : ByteArray)) D2 y3 Hby3.out (Nat.le_trans HB.out Hfy3.out.size) (by have := Hl.out; have := HD.out; simp only [ByteArray.size_append, HU3.out]; omega)
    obtain ⟨k0, k1, k2, k3⟩ := four_cells Hpy3.out
    go_wp2_with fail
    refine e1.mono ?_
    rintro r y4 ⟨rfl, hb, g⟩
    have Hby4 : Hid (Bld B y4 b (s ++ D1 ++ (⟨#[32, 45, 32]⟩ : ByteArray) ++ D2)) := hb
    have Hpy4 : Hid _ := (Hstep.out _ _ _ Hby3.out g Hpy3.out Hfy3.out).1
    have Hfy4 : Hid (Fr w y4 (fun k => B ≤ k)) := (Hstep.out _ _ _ Hby3.out g Hpy3.out Hfy3.out).2
    clear g hb e1 k0 k1 k2 k3
    have e1 := writeByte_any B b 32 (s ++ D1 ++ (⟨#[32, 45, 32]⟩ : ByteArray) ++ D2) y4 Hby4.out (Nat.le_trans HB.out Hfy4.out.size) (by have := Hl.out; have := HD.out; simp only [ByteArray.size_append, HU3.out]; omega) (by decide)
    obtain ⟨k0, k1, k2, k3⟩ := four_cells Hpy4.out
    go_wp2_with fail
    refine e1.mono ?_
    rintro r y5 ⟨rfl, hb, g⟩
    have Hby5 : Hid (Bld B y5 b (s ++ D1 ++ (⟨#[32, 45, 32]⟩ : ByteArray) ++ D2 ++ strOf [32])) := hb
    have Hpy5 : Hid _ := (Hstep.out _ _ _ Hby4.out g Hpy4.out Hfy4.out).1
    have Hfy5 : Hid (Fr w y5 (fun k => B ≤ k)) := (Hstep.out _ _ _ Hby4.out g Hpy4.out Hfy4.out).2
    clear g hb e1 k0 k1 k2 k3
    obtain ⟨k0, k1, k2, k3⟩ := four_cells Hpy5.out
    have e1 := d3 y5 (HK.out _ Hfy5.out)
    go_wp2_with fail
    refine e1.mono ?_
    rintro r y6 ⟨rfl, g⟩
    have Hby6 : Hid (Bld B y6 b (s ++ D1 ++ (⟨#[32, 45, 32]⟩ : ByteArray) ++ D2 ++ strOf [32])) := Hby5.out.keep g
    have Hpy6 : Hid _ := g.kept Hpy5.out (fun h => h)
    have Hfy6 : Hid (Fr w y6 (fun k => B ≤ k)) := Hfy5.out.trans g (fun _ _ h => h.elim)
    clear g e1 k0 k1 k2 k3
    have e1 := writeString_any B b (s ++ D1 ++ (⟨#[32, 45, 32]⟩ : ByteArray) ++ D2 ++ strOf [32]) D3 y6 Hby6.out (Nat.le_trans HB.out Hfy6.out.size) (by have := Hl.out; have := HD.out; simp only [ByteArray.size_append, HU3.out, strOf_length, List.length_singleton]; omega)
    obtain ⟨k0, k1, k2, k3⟩ := four_cells Hpy6.out
    go_wp2_with fail
    refine e1.mono ?_
    rintro r y7 ⟨rfl, hb, g⟩
    have Hby7 : Hid (Bld B y7 b (s ++ D1 ++ (⟨#[32, 45, 32]⟩ : ByteArray) ++ D2 ++ strOf [32] ++ D3)) := hb
    have Hpy7 : Hid _ := (Hstep.out _ _ _ Hby6.out g Hpy6.out Hfy6.out).1
    have Hfy7 : Hid (Fr w y7 (fun k => B ≤ k)) := (Hstep.out _ _ _ Hby6.out g Hpy6.out Hfy6.out).2
    clear g hb e1 k0 k1 k2 k3
    have e1 := writeByte_any B b 10 (s ++ D1 ++ (⟨#[32, 45, 32]⟩ : ByteArray) ++ D2 ++ strOf [32] ++ D3) y7 Hby7.out (Nat.le_trans HB.out Hfy7.out.size) (by have := Hl.out; have := HD.out; simp only [ByteArray.size_append, HU3.out, strOf_length, List.length_singleton]; omega) (by decide)
    obtain ⟨k0, k1, k2, k3⟩ := four_cells Hpy7.out
    go_wp2_with fail
    refine e1.mono ?_
    rintro r y8 ⟨rfl, hb, g⟩
    have Hby8 : Hid (Bld B y8 b (s ++ D1 ++ (⟨#[32, 45, 32]⟩ : ByteArray) ++ D2 ++ strOf [32] ++ D3 ++ strOf [10])) := hb
    have Hpy8 : Hid _ := (Hstep.out _ _ _ Hby7.out g Hpy7.out Hfy7.out).1
    have Hfy8 : Hid (Fr w y8 (fun k => B ≤ k)) := (Hstep.out _ _ _ Hby7.out g Hpy7.out Hfy7.out).2
    clear g hb e1 k0 k1 k2 k3
    go_wp2
    go_end0
    exact ⟨rfl, by rw [← HL.out]; exact Hby8.out, Hfy8.out⟩
  · simp only [if_true] at hUe
    subst hUe
    go_wp2_with fail
    refine e1.mono ?_
    rintro r y2 ⟨rfl, hb, g⟩
    have Hby2 : Hid (Bld B y2 b (s ++ D1 ++ (⟨#[32, 43, 32]⟩ : ByteArray))) := hb
    have Hpy2 : Hid _ := (Hstep.out _ _ _ Hby1.out g Hpy1.out Hfy1.out).1
    have Hfy2 : Hid (Fr w y2 (fun k => B ≤ k)) := (Hstep.out _ _ _ Hby1.out g Hpy1.out Hfy1.out).2
    clear g hb e1 k0 k1 k2 k3
    obtain ⟨k0, k1, k2, k3⟩ := four_cells Hpy2.out
    have e1 := d2 y2 (HK.out _ Hfy2.out)
    go_wp2_with fail
    refine e1.mono ?_
    rintro r y3 ⟨rfl, g⟩
    have Hby3 : Hid (Bld B y3 b (s ++ D1 ++ (⟨#[32, 43, 32]⟩ : ByteArray))) := Hby2.out.keep g
    have Hpy3 : Hid _ := g.kept Hpy2.out (fun h => h)
    have Hfy3 : Hid (Fr w y3 (fun k => B ≤ k)) := Hfy2.out.trans g (fun _ _ h => h.elim)
    clear g e1 k0 k1 k2 k3
    have e1 := writeString_any B b (s ++ D1 ++ (⟨#[32, 43, 32]⟩ : ByteArray)) D2 y3 Hby3.out (Nat.le_trans HB.out Hfy3.out.size) (by have := Hl.out; have := HD.out; simp only [ByteArray.size_append, HU3.out]; omega)
    obtain ⟨k0, k1, k2, k3⟩ := four_cells Hpy3.out
    go_wp2_with fail
    refine e1.mono ?_
    rintro r y4 ⟨rfl, hb, g⟩
    have Hby4 : Hid (Bld B y4 b (s ++ D1 ++ (⟨#[32, 43, 32]⟩ : ByteArray) ++ D2)) := hb
    have Hpy4 : Hid _ := (Hstep.out _ _ _ Hby3.out g Hpy3.out Hfy3.out).1
    have Hfy4 : Hid (Fr w y4 (fun k => B ≤ k)) := (Hstep.out _ _ _ Hby3.out g Hpy3.out Hfy3.out).2
    clear g hb e1 k0 k1 k2 k3
    have e1 := writeByte_any B b 32 (s ++ D1 ++ (⟨#[32, 43, 32]⟩ : ByteArray) ++ D2) y4 Hby4.out (Nat.le_trans HB.out Hfy4.out.size) (by have := Hl.out; have := HD.out; simp only [ByteArray.size_append, HU3.out]; omega) (by decide)
    obtain ⟨k0, k1, k2, k3⟩ := four_cells Hpy4.out
    go_wp2_with fail
    refine e1.mono ?_
    rintro r y5 ⟨rfl, hb, g⟩
    have Hby5 : Hid (Bld B y5 b (s ++ D1 ++ (⟨#[32, 43, 32]⟩ : ByteArray) ++ D2 ++ strOf [32])) := hb
    have Hpy5 : Hid _ := (Hstep.out _ _ _ Hby4.out g Hpy4.out Hfy4.out).1
    have Hfy5 : Hid (Fr w y5 (fun k => B ≤ k)) := (Hstep.out _ _ _ Hby4.out g Hpy4.out Hfy4.out).2
    clear g hb e1 k0 k1 k2 k3
    obtain ⟨k0, k1, k2, k3⟩ := four_cells Hpy5.out
    have e1 := d3 y5 (HK.out _ Hfy5.out)
    go_wp2_with fail
    refine e1.mono ?_
    rintro r y6 ⟨rfl, g⟩
    have Hby6 : Hid (Bld B y6 b (s ++ D1 ++ (⟨#[32, 43, 32]⟩ : ByteArray) ++ D2 ++ strOf [32])) := Hby5.out.keep g
    have Hpy6 : Hid _ := g.kept Hpy5.out (fun h => h)
    have Hfy6 : Hid (Fr w y6 (fun k => B ≤ k)) := Hfy5.out.trans g (fun _ _ h => h.elim)
    clear g e1 k0 k1 k2 k3
    have e1 := writeString_any B b (s ++ D1 ++ (⟨#[32, 43, 32]⟩ : ByteArray) ++ D2 ++ strOf [32]) D3 y6 Hby6.out (Nat.le_trans HB.out Hfy6.out.size) (by have := Hl.out; have := HD.out; simp only [ByteArray.size_append, HU3.out, strOf_length, List.length_singleton]; omega)
    obtain ⟨k0, k1, k2, k3⟩ := four_cells Hpy6.out
    go_wp2_with fail
    refine e1.mono ?_
    rintro r y7 ⟨rfl, hb, g⟩
    have Hby7 : Hid (Bld B y7 b (s ++ D1 ++ (⟨#[32, 43, 32]⟩ : ByteArray) ++ D2 ++ strOf [32] ++ D3)) := hb
    have Hpy7 : Hid _ := (Hstep.out _ _ _ Hby6.out g Hpy6.out Hfy6.out).1
    have Hfy7 : Hid (Fr w y7 (fun k => B ≤ k)) := (Hstep.out _ _ _ Hby6.out g Hpy6.out Hfy6.out).2
    clear g hb e1 k0 k1 k2 k3
    have e1 := writeByte_any B b 10 (s ++ D1 ++ (⟨#[32, 43, 32]⟩ : ByteArray) ++ D2 ++ strOf [32] ++ D3) y7 Hby7.out (Nat.le_trans HB.out Hfy7.out.size) (by have := Hl.out; have := HD.out; simp only [ByteArray.size_append, HU3.out, strOf_length, List.length_singleton]; omega) (by decide)
    obtain ⟨k0, k1, k2, k3⟩ := four_cells Hpy7.out
    go_wp2_with fail
    refine e1.mono ?_
    rintro r y8 ⟨rfl, hb, g⟩
    have Hby8 : Hid (Bld B y8 b (s ++ D1 ++ (⟨#[32, 43, 32]⟩ : ByteArray) ++ D2 ++ strOf [32] ++ D3 ++ strOf [10])) := hb
    have Hpy8 : Hid _ := (Hstep.out _ _ _ Hby7.out g Hpy7.out Hfy7.out).1
    have Hfy8 : Hid (Fr w y8 (fun k => B ≤ k)) := (Hstep.out _ _ _ Hby7.out g Hpy7.out Hfy7.out).2
    clear g hb e1 k0 k1 k2 k3
    go_wp2
    go_end0
    exact ⟨rfl, by rw [← HL.out]; exact Hby8.out, Hfy8.out⟩

end Go.Proofs.YtpeibameegjefaaDoor

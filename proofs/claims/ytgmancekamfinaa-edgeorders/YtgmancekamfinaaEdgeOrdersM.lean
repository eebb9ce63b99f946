/-
  The walk of the law EdgeOrders, under the condition that the program's functions answer as their contracts say.
-/
import Derived.Test.YtgmancekamfinaaRows
import Derived.Test.YtgmancekamfinaaEC
import Derived.Test.YtgmancekamfinaaEArg
import Derived.Test.YtgmancekamfinaaEFew
import Derived.Deep.CutRange
namespace Go.Proofs.Ytgmancekamfinaa.edgeOrders
open Go.ChangeShapes Go.WideShapes Go.ChangeAt Go.RowKit

theorem eu8 (n : Int) (h : (Lit.int .u8 n).wf = true) : 0 ≤ n ∧ n < (256 : Nat) := by have := bounds_u8 h; omega
theorem ebelow {w w' : World} (h : Fr w w' (fun _ => False)) : Below w.heap.size w w' := h.below (Nat.le_refl _) (fun _ h => h.elim)
/-- Four cells that were made, later on. -/
theorem four_later {w z : World} {x0 x1 x2 x3 : Value} {T : TypeId} {p : Nat} (hp : p = w.heap.size) (h : Fr (w.alloc (.cells #[x0, x1, x2, x3] T)) z (fun _ => False)) : (z.cell? ⟨p, 0, none⟩ = some x0 ∧ z.cell? ⟨p, 1, none⟩ = some x1) ∧ z.cell? ⟨p, 2, none⟩ = some x2 ∧ z.cell? ⟨p, 3, none⟩ = some x3 := by
  have h1 : (w.alloc (.cells #[x0, x1, x2, x3] T)).heap[p]? = some (.cells #[x0, x1, x2, x3] T (0, 0)) := by rw [hp]; exact heap_alloc_new _ _
  have h2 := h.kept h1 (fun h => h)
  refine ⟨⟨?_, ?_⟩, ?_, ?_⟩ <;> simp [World.cell?, h2]
theorem less_trans {a b c : Nat × Nat} (h1 : eLess a b = true) (h2 : eLess b c = true) : eLess a c = true := by
  unfold eLess at *
  simp only [decide_eq_true_eq] at *
  omega
theorem before_trans {r s t : Int} {a b c : Nat × Nat} (h1 : eBefore r s a b = true) (h2 : eBefore s t b c = true) : eBefore r t a c = true := by
  unfold eBefore at *
  simp only [decide_eq_true_eq] at *
  rcases h1 with h1 | ⟨h1, g1⟩
  · rcases h2 with h2 | ⟨h2, g2⟩
    · exact .inl (by omega)
    · exact .inl (by omega)
  · rcases h2 with h2 | ⟨h2, g2⟩
    · exact .inl (by omega)
    · exact .inr ⟨by omega, less_trans g1 g2⟩
theorem before_back {r s : Int} {a b : Nat × Nat} (h : eBefore r s a b = true) : eBefore s r b a = false ∧ decide (r = s ∧ a = b) = false := by
  obtain ⟨a1, a2⟩ := a
  obtain ⟨b1, b2⟩ := b
  unfold eBefore eLess at *
  simp only [decide_eq_true_eq, decide_eq_false_iff_not, Prod.mk.injEq] at *
  omega
theorem before_not {r s : Int} {a b : Nat × Nat} (h : eBefore r s a b = false) : eBefore s r b a = !decide (r = s ∧ a = b) := by
  obtain ⟨a1, a2⟩ := a
  obtain ⟨b1, b2⟩ := b
  by_cases hs : r = s ∧ (a1, a2) = (b1, b2)
  · rw [decide_eq_true hs]
    unfold eBefore eLess at *
    simp only [decide_eq_false_iff_not, Prod.mk.injEq, Bool.not_true] at *
    simp
    omega
  · rw [decide_eq_false hs]
    unfold eBefore eLess at *
    simp only [decide_eq_false_iff_not, Prod.mk.injEq, Bool.not_false, decide_eq_true_eq] at *
    omega

set_option maxRecDepth 4000 in
set_option maxHeartbeats 6400000 in
theorem walkM (M : EC) (a0 : Option Addr) (len0 cap0 : Nat) (a1 : Option Addr) (len1 cap1 : Nat) (z1 : List Int) (a2 : Int) (a3 : Int) (a4 : Int) (w : World) (w0 : IsEdges w a0 len0 cap0) (w1 : IsRow .i64 w a1 len1 cap1 z1) (w2 : (Lit.int .u8 a2).wf = true) (w3 : (Lit.int .u8 a3).wf = true) (w4 : (Lit.int .u8 a4).wf = true) :
    Calls Try.prog 5 #[.slice a0 len0 cap0, .slice a1 len1 cap1, .int .u8 a2, .int .u8 a3, .int .u8 a4] w fun e w' => e = .returned (.bool true) ∧ Below w.heap.size w w' := by
  obtain ⟨es, hel, hes, heb⟩ := w0
  obtain ⟨zs, hzl, hzb, hzs⟩ := readsZ_isRow w1
  obtain ⟨i, rfl⟩ : ∃ k : Nat, a2 = (k : Int) := ⟨a2.toNat, by have := eu8 a2 w2; omega⟩
  obtain ⟨j, rfl⟩ : ∃ k : Nat, a3 = (k : Int) := ⟨a3.toNat, by have := eu8 a3 w3; omega⟩
  obtain ⟨k, rfl⟩ : ∃ k : Nat, a4 = (k : Int) := ⟨a4.toNat, by have := eu8 a4 w4; omega⟩
  have hi := (eu8 _ w2).2
  have hj := (eu8 _ w3).2
  have hk := (eu8 _ w4).2
  have Hi : Hid (i < 256 ∧ j < 256 ∧ k < 256) := by refine ⟨?_, ?_, ?_⟩ <;> omega
  have Hes : Hid _ := hes
  have Hzs : Hid _ := hzs
  have Hel : Hid _ := hel
  have Hzl : Hid _ := hzl
  have Hzb : Hid _ := hzb
  clear w1 w2 w3 w4 hi hj hk hes hzs hel hzl hzb heb
  go_enter Try.func5, Try.ntmps5
  go_wp2_with fail
  refine (known_any M w).mono ?_
  rintro e w1 ⟨rfl, hf1⟩
  have Hf1 : Hid (Fr w w1 (fun _ => False)) := hf1
  clear hf1
  by_cases h20 : 20 < len0
  · have d1 : decide ((20 : Int) < (len0 : Int)) = true := decide_eq_true (by omega)
    have d1' : decide (20 < len0) = true := decide_eq_true h20
    go_wp2
    go_ret
    exact ⟨rfl, ebelow Hf1.out⟩
  have d1 : decide ((20 : Int) < (len0 : Int)) = false := decide_eq_false (by omega)
  have d1' : decide (20 < len0) = false := decide_eq_false h20
  by_cases h0 : len0 = 0
  · subst h0
    go_wp2
    go_ret
    exact ⟨rfl, ebelow Hf1.out⟩
  have d2 : ((len0 : Int) == 0) = false := by rw [beq_eq_false_iff_ne]; omega
  have d2' : (len0 == 0) = false := by rw [beq_eq_false_iff_ne]; exact h0
  by_cases hlt : len1 < len0
  · have d3 : decide ((len1 : Int) < (len0 : Int)) = true := decide_eq_true (by omega)
    have d3' : decide (len1 < len0) = true := decide_eq_true hlt
    go_wp2
    go_ret
    exact ⟨rfl, ebelow Hf1.out⟩
  have d3 : decide ((len1 : Int) < (len0 : Int)) = false := decide_eq_false (by omega)
  have d3' : decide (len1 < len0) = false := decide_eq_false hlt
  have Hn : Hid (0 < len0 ∧ len0 ≤ 20 ∧ len0 ≤ len1) := by refine ⟨?_, ?_, ?_⟩ <;> omega
  clear h0 hlt h20
  have Hfew : Hid (∀ (q : Nat) (x : World), q < 256 → Fr w x (fun _ => False) → _) := fun (q : Nat) (x : World) hq hx => few_any a0 a1 len0 cap0 len1 cap1 q es zs x (Hes.out.keep hx) (Hzs.out.keep hx) Hel.out Hzl.out Hn.out.1 Hn.out.2.1 Hn.out.2.2 hq Hzb.out
  go_wp2_with fail
  refine (Hfew.out i _ Hi.out.1 Hf1.out).mono ?_
  rintro e w2 ⟨t1, u1, v1, rfl, hb1, hc1, hf2⟩
  have Hf2 : Hid (Fr w w2 (fun _ => False)) := Hf1.out.none hf2
  have B1 : Hid _ := hb1
  have C1 : Hid _ := hc1
  clear hf2 hb1 hc1
  go_wp2_with fail
  refine (Hfew.out j _ Hi.out.2.1 Hf2.out).mono ?_
  rintro e w3 ⟨t2, u2, v2, rfl, hb2, hc2, hf3⟩
  have Hf3 : Hid (Fr w w3 (fun _ => False)) := Hf2.out.none hf3
  have B2 : Hid _ := hb2
  have C2 : Hid _ := hc2
  clear hf3 hb2 hc2
  go_wp2_with fail
  refine (Hfew.out k _ Hi.out.2.2 Hf3.out).mono ?_
  rintro e w4 ⟨t3, u3, v3, rfl, hb3, hc3, hf4⟩
  have Hf4 : Hid (Fr w w4 (fun _ => False)) := Hf3.out.none hf4
  have B3 : Hid _ := hb3
  have C3 : Hid _ := hc3
  clear hf4 hb3 hc3
  unfold eventV
  go_upto_region 6 with fail
  obtain ⟨p1, hp1⟩ : ∃ q, q = w4.heap.size := ⟨_, rfl⟩
  obtain ⟨p2, hp2⟩ : ∃ q, q = p1 + 1 := ⟨_, rfl⟩
  obtain ⟨p3, hp3⟩ : ∃ q, q = p2 + 1 := ⟨_, rfl⟩
  rw [← hp1, ← hp2, ← hp3]
  obtain ⟨W, hW⟩ : ∃ W, W = ((w4.alloc (.cells #[.int .i64 t1, .int .u32 (u1 : Int), .int .u32 (v1 : Int), .bool false] 35)).alloc (.cells #[.int .i64 t2, .int .u32 (u2 : Int), .int .u32 (v2 : Int), .bool false] 35)).alloc (.cells #[.int .i64 t3, .int .u32 (u3 : Int), .int .u32 (v3 : Int), .bool false] 35) := ⟨_, rfl⟩
  rw [← hW]
  have HfW : Hid (Fr w W (fun _ => False)) := by show Fr _ _ _; rw [hW]; exact ((Hf4.out.alloc _).alloc _).alloc _
  have Hc1 : Hid (∀ z, Fr W z (fun _ => False) → (z.cell? ⟨p1, 0, none⟩ = some (.int .i64 t1) ∧ z.cell? ⟨p1, 1, none⟩ = some (.int .u32 (u1 : Int))) ∧ z.cell? ⟨p1, 2, none⟩ = some (.int .u32 (v1 : Int)) ∧ z.cell? ⟨p1, 3, none⟩ = some (.bool false)) := fun z hz => four_later hp1 ((((Fr.refl _ (fun _ => False)).alloc _).alloc _).none (by rw [← hW]; exact hz))
  have Hc2 : Hid (∀ z, Fr W z (fun _ => False) → (z.cell? ⟨p2, 0, none⟩ = some (.int .i64 t2) ∧ z.cell? ⟨p2, 1, none⟩ = some (.int .u32 (u2 : Int))) ∧ z.cell? ⟨p2, 2, none⟩ = some (.int .u32 (v2 : Int)) ∧ z.cell? ⟨p2, 3, none⟩ = some (.bool false)) := fun z hz => four_later (w := w4.alloc (.cells #[.int .i64 t1, .int .u32 (u1 : Int), .int .u32 (v1 : Int), .bool false] 35)) (by simp; omega) (((Fr.refl _ (fun _ => False)).alloc _).none (by rw [← hW]; exact hz))
  have Hc3 : Hid (∀ z, Fr W z (fun _ => False) → (z.cell? ⟨p3, 0, none⟩ = some (.int .i64 t3) ∧ z.cell? ⟨p3, 1, none⟩ = some (.int .u32 (u3 : Int))) ∧ z.cell? ⟨p3, 2, none⟩ = some (.int .u32 (v3 : Int)) ∧ z.cell? ⟨p3, 3, none⟩ = some (.bool false)) := fun z hz => four_later (w := (w4.alloc (.cells #[.int .i64 t1, .int .u32 (u1 : Int), .int .u32 (v1 : Int), .bool false] 35)).alloc (.cells #[.int .i64 t2, .int .u32 (u2 : Int), .int .u32 (v2 : Int), .bool false] 35)) (by simp; omega) (by rw [← hW]; exact hz)
  clear hW hp1 hp2 hp3 Hf1 Hf2 Hf3 Hf4 Hfew Hes Hzs Hel Hzl Hzb
  obtain ⟨S, hS⟩ : ∃ S, S = decide (t1 = t2 ∧ (u1, v1) = (u2, v2)) := ⟨_, rfl⟩
  have HS : Hid _ := hS
  clear hS
  go_cut [14] from 44 to 55 (fun V wx => V = .bool S ∧ wx = W)
  case first =>
    obtain ⟨⟨c0, c1⟩, c2, c3⟩ := Hc1.out W (Fr.refl _ _)
    obtain ⟨⟨e0, e1⟩, e2, e3⟩ := Hc2.out W (Fr.refl _ _)
    by_cases ht : t1 = t2
    · subst ht
      by_cases hu : u1 = u2
      · subst hu
        by_cases hv : v1 = v2
        · subst hv
          have HS2 : Hid (S = true) := by show _ = _; rw [HS.out]; exact decide_eq_true ⟨rfl, rfl⟩
          clear HS
          go_wp2_with fail
          go_meet
          case rel => exact ⟨by rw [HS2.out], rfl⟩
        · have n1 : ((v1 : Int) == (v2 : Int)) = false := by rw [beq_eq_false_iff_ne]; omega
          have n1' : (v1 == v2) = false := by rw [beq_eq_false_iff_ne]; exact hv
          have HS2 : Hid (S = false) := by show _ = _; rw [HS.out]; exact decide_eq_false (by simp [hv])
          clear HS hv
          go_wp2_with fail
          go_meet
          case rel => exact ⟨by rw [HS2.out], rfl⟩
      · have n1 : ((u1 : Int) == (u2 : Int)) = false := by rw [beq_eq_false_iff_ne]; omega
        have n1' : (u1 == u2) = false := by rw [beq_eq_false_iff_ne]; exact hu
        have HS2 : Hid (S = false) := by show _ = _; rw [HS.out]; exact decide_eq_false (by simp [hu])
        clear HS hu
        go_wp2_with fail
        go_meet
        case rel => exact ⟨by rw [HS2.out], rfl⟩
    · have n1 : (t1 == t2) = false := by rw [beq_eq_false_iff_ne]; exact ht
      have HS2 : Hid (S = false) := by show _ = _; rw [HS.out]; exact decide_eq_false (by simp [ht])
      clear HS ht
      go_wp2_with fail
      go_meet
      case rel => exact ⟨by rw [HS2.out], rfl⟩
  case rest =>
    obtain ⟨rfl, rfl⟩ := hcut
    rename_i hKc
    refine hKc _ _ ?_
    clear hKc
    have G0 : Hid (Fr wc wc (fun _ => False)) := Fr.refl _ _
    by_cases hL : eLess (u1, v1) (u2, v2) = true
    · have Lab : Hid (eLess (u1, v1) (u2, v2) = true) := hL
      by_cases hL2 : eLess (u2, v2) (u3, v3) = true
      · have Lbc : Hid (eLess (u2, v2) (u3, v3) = true) := hL2
        have Lac : Hid (eLess (u1, v1) (u3, v3) = true) := less_trans hL hL2
        clear hL hL2
        obtain ⟨⟨c0, c1⟩, c2, c3⟩ := Hc1.out _ G0.out
        obtain ⟨⟨e0, e1⟩, e2, e3⟩ := Hc2.out _ G0.out
        obtain ⟨⟨f0, f1⟩, f2, f3⟩ := Hc3.out _ G0.out
        go_wp2_with fail
        refine (M.less (u1, v1) (u2, v2) _ C1.out.1 C1.out.2 C2.out.1 C2.out.2).mono ?_
        rw [Lab.out]
        rintro e x1 ⟨rfl, g⟩
        have G1 : Hid (Fr wc x1 (fun _ => False)) := G0.out.none g
        clear g c0 c1 c2 c3 e0 e1 e2 e3 f0 f1 f2 f3
        obtain ⟨⟨c0, c1⟩, c2, c3⟩ := Hc1.out _ G1.out
        obtain ⟨⟨e0, e1⟩, e2, e3⟩ := Hc2.out _ G1.out
        obtain ⟨⟨f0, f1⟩, f2, f3⟩ := Hc3.out _ G1.out
        go_wp2_with fail
        refine (M.less (u2, v2) (u3, v3) _ C2.out.1 C2.out.2 C3.out.1 C3.out.2).mono ?_
        rw [Lbc.out]
        rintro e x2 ⟨rfl, g⟩
        have G2 : Hid (Fr wc x2 (fun _ => False)) := G1.out.none g
        clear g c0 c1 c2 c3 e0 e1 e2 e3 f0 f1 f2 f3
        obtain ⟨⟨c0, c1⟩, c2, c3⟩ := Hc1.out _ G2.out
        obtain ⟨⟨e0, e1⟩, e2, e3⟩ := Hc2.out _ G2.out
        obtain ⟨⟨f0, f1⟩, f2, f3⟩ := Hc3.out _ G2.out
        go_wp2_with fail
        refine (M.less (u1, v1) (u3, v3) _ C1.out.1 C1.out.2 C3.out.1 C3.out.2).mono ?_
        rw [Lac.out]
        rintro e x3 ⟨rfl, g⟩
        have G3 : Hid (Fr wc x3 (fun _ => False)) := G2.out.none g
        clear g c0 c1 c2 c3 e0 e1 e2 e3 f0 f1 f2 f3
        by_cases hB : eBefore t1 t2 (u1, v1) (u2, v2) = true
        · have Bab : Hid (eBefore t1 t2 (u1, v1) (u2, v2) = true) := hB
          have Bba : Hid (eBefore t2 t1 (u2, v2) (u1, v1) = false) := (before_back hB).1
          have hS2 : S = false := by rw [HS.out]; exact (before_back hB).2
          clear HS
          subst hS2
          by_cases hB2 : eBefore t2 t3 (u2, v2) (u3, v3) = true
          · have Bbc : Hid (eBefore t2 t3 (u2, v2) (u3, v3) = true) := hB2
            have Bac : Hid (eBefore t1 t3 (u1, v1) (u3, v3) = true) := before_trans hB hB2
            clear hB hB2
            obtain ⟨⟨c0, c1⟩, c2, c3⟩ := Hc1.out _ G3.out
            obtain ⟨⟨e0, e1⟩, e2, e3⟩ := Hc2.out _ G3.out
            obtain ⟨⟨f0, f1⟩, f2, f3⟩ := Hc3.out _ G3.out
            go_wp2_with fail
            refine (M.before t1 t2 (u1, v1) (u2, v2) false false _ B1.out.1 B1.out.2 B2.out.1 B2.out.2 C1.out.1 C1.out.2 C2.out.1 C2.out.2).mono ?_
            rw [Bab.out]
            rintro e x4 ⟨rfl, g⟩
            have G4 : Hid (Fr wc x4 (fun _ => False)) := G3.out.none g
            clear g c0 c1 c2 c3 e0 e1 e2 e3 f0 f1 f2 f3
            obtain ⟨⟨c0, c1⟩, c2, c3⟩ := Hc1.out _ G4.out
            obtain ⟨⟨e0, e1⟩, e2, e3⟩ := Hc2.out _ G4.out
            obtain ⟨⟨f0, f1⟩, f2, f3⟩ := Hc3.out _ G4.out
            go_wp2_with fail
            refine (M.before t2 t3 (u2, v2) (u3, v3) false false _ B2.out.1 B2.out.2 B3.out.1 B3.out.2 C2.out.1 C2.out.2 C3.out.1 C3.out.2).mono ?_
            rw [Bbc.out]
            rintro e x5 ⟨rfl, g⟩
            have G5 : Hid (Fr wc x5 (fun _ => False)) := G4.out.none g
            clear g c0 c1 c2 c3 e0 e1 e2 e3 f0 f1 f2 f3
            obtain ⟨⟨c0, c1⟩, c2, c3⟩ := Hc1.out _ G5.out
            obtain ⟨⟨e0, e1⟩, e2, e3⟩ := Hc2.out _ G5.out
            obtain ⟨⟨f0, f1⟩, f2, f3⟩ := Hc3.out _ G5.out
            go_wp2_with fail
            refine (M.before t1 t3 (u1, v1) (u3, v3) false false _ B1.out.1 B1.out.2 B3.out.1 B3.out.2 C1.out.1 C1.out.2 C3.out.1 C3.out.2).mono ?_
            rw [Bac.out]
            rintro e x6 ⟨rfl, g⟩
            have G6 : Hid (Fr wc x6 (fun _ => False)) := G5.out.none g
            clear g c0 c1 c2 c3 e0 e1 e2 e3 f0 f1 f2 f3
            obtain ⟨⟨c0, c1⟩, c2, c3⟩ := Hc1.out _ G6.out
            obtain ⟨⟨e0, e1⟩, e2, e3⟩ := Hc2.out _ G6.out
            obtain ⟨⟨f0, f1⟩, f2, f3⟩ := Hc3.out _ G6.out
            go_wp2_with fail
            refine (M.before t1 t2 (u1, v1) (u2, v2) false false _ B1.out.1 B1.out.2 B2.out.1 B2.out.2 C1.out.1 C1.out.2 C2.out.1 C2.out.2).mono ?_
            rw [Bab.out]
            rintro e x7 ⟨rfl, g⟩
            have G7 : Hid (Fr wc x7 (fun _ => False)) := G6.out.none g
            clear g c0 c1 c2 c3 e0 e1 e2 e3 f0 f1 f2 f3
            obtain ⟨⟨c0, c1⟩, c2, c3⟩ := Hc1.out _ G7.out
            obtain ⟨⟨e0, e1⟩, e2, e3⟩ := Hc2.out _ G7.out
            obtain ⟨⟨f0, f1⟩, f2, f3⟩ := Hc3.out _ G7.out
            go_wp2_with fail
            refine (M.before t1 t2 (u1, v1) (u2, v2) false false _ B1.out.1 B1.out.2 B2.out.1 B2.out.2 C1.out.1 C1.out.2 C2.out.1 C2.out.2).mono ?_
            rw [Bab.out]
            rintro e x8 ⟨rfl, g⟩
            have G8 : Hid (Fr wc x8 (fun _ => False)) := G7.out.none g
            clear g c0 c1 c2 c3 e0 e1 e2 e3 f0 f1 f2 f3
            obtain ⟨⟨c0, c1⟩, c2, c3⟩ := Hc1.out _ G8.out
            obtain ⟨⟨e0, e1⟩, e2, e3⟩ := Hc2.out _ G8.out
            obtain ⟨⟨f0, f1⟩, f2, f3⟩ := Hc3.out _ G8.out
            go_wp2_with fail
            refine (M.before t2 t1 (u2, v2) (u1, v1) false false _ B2.out.1 B2.out.2 B1.out.1 B1.out.2 C2.out.1 C2.out.2 C1.out.1 C1.out.2).mono ?_
            rw [Bba.out]
            rintro e x9 ⟨rfl, g⟩
            have G9 : Hid (Fr wc x9 (fun _ => False)) := G8.out.none g
            clear g c0 c1 c2 c3 e0 e1 e2 e3 f0 f1 f2 f3
            have Hfo : Hid (Fr w x9 (fun _ => False)) := HfW.out.none G9.out
            go_wp2
            go_ret
            exact ⟨rfl, ebelow Hfo.out⟩
          · have Bbc : Hid (eBefore t2 t3 (u2, v2) (u3, v3) = false) := Bool.eq_false_iff.2 hB2
            clear hB hB2
            obtain ⟨⟨c0, c1⟩, c2, c3⟩ := Hc1.out _ G3.out
            obtain ⟨⟨e0, e1⟩, e2, e3⟩ := Hc2.out _ G3.out
            obtain ⟨⟨f0, f1⟩, f2, f3⟩ := Hc3.out _ G3.out
            go_wp2_with fail
            refine (M.before t1 t2 (u1, v1) (u2, v2) false false _ B1.out.1 B1.out.2 B2.out.1 B2.out.2 C1.out.1 C1.out.2 C2.out.1 C2.out.2).mono ?_
            rw [Bab.out]
            rintro e x4 ⟨rfl, g⟩
            have G4 : Hid (Fr wc x4 (fun _ => False)) := G3.out.none g
            clear g c0 c1 c2 c3 e0 e1 e2 e3 f0 f1 f2 f3
            obtain ⟨⟨c0, c1⟩, c2, c3⟩ := Hc1.out _ G4.out
            obtain ⟨⟨e0, e1⟩, e2, e3⟩ := Hc2.out _ G4.out
            obtain ⟨⟨f0, f1⟩, f2, f3⟩ := Hc3.out _ G4.out
            go_wp2_with fail
            refine (M.before t2 t3 (u2, v2) (u3, v3) false false _ B2.out.1 B2.out.2 B3.out.1 B3.out.2 C2.out.1 C2.out.2 C3.out.1 C3.out.2).mono ?_
            rw [Bbc.out]
            rintro e x5 ⟨rfl, g⟩
            have G5 : Hid (Fr wc x5 (fun _ => False)) := G4.out.none g
            clear g c0 c1 c2 c3 e0 e1 e2 e3 f0 f1 f2 f3
            obtain ⟨⟨c0, c1⟩, c2, c3⟩ := Hc1.out _ G5.out
            obtain ⟨⟨e0, e1⟩, e2, e3⟩ := Hc2.out _ G5.out
            obtain ⟨⟨f0, f1⟩, f2, f3⟩ := Hc3.out _ G5.out
            go_wp2_with fail
            refine (M.before t1 t2 (u1, v1) (u2, v2) false false _ B1.out.1 B1.out.2 B2.out.1 B2.out.2 C1.out.1 C1.out.2 C2.out.1 C2.out.2).mono ?_
            rw [Bab.out]
            rintro e x6 ⟨rfl, g⟩
            have G6 : Hid (Fr wc x6 (fun _ => False)) := G5.out.none g
            clear g c0 c1 c2 c3 e0 e1 e2 e3 f0 f1 f2 f3
            obtain ⟨⟨c0, c1⟩, c2, c3⟩ := Hc1.out _ G6.out
            obtain ⟨⟨e0, e1⟩, e2, e3⟩ := Hc2.out _ G6.out
            obtain ⟨⟨f0, f1⟩, f2, f3⟩ := Hc3.out _ G6.out
            go_wp2_with fail
            refine (M.before t1 t2 (u1, v1) (u2, v2) false false _ B1.out.1 B1.out.2 B2.out.1 B2.out.2 C1.out.1 C1.out.2 C2.out.1 C2.out.2).mono ?_
            rw [Bab.out]
            rintro e x7 ⟨rfl, g⟩
            have G7 : Hid (Fr wc x7 (fun _ => False)) := G6.out.none g
            clear g c0 c1 c2 c3 e0 e1 e2 e3 f0 f1 f2 f3
            obtain ⟨⟨c0, c1⟩, c2, c3⟩ := Hc1.out _ G7.out
            obtain ⟨⟨e0, e1⟩, e2, e3⟩ := Hc2.out _ G7.out
            obtain ⟨⟨f0, f1⟩, f2, f3⟩ := Hc3.out _ G7.out
            go_wp2_with fail
            refine (M.before t2 t1 (u2, v2) (u1, v1) false false _ B2.out.1 B2.out.2 B1.out.1 B1.out.2 C2.out.1 C2.out.2 C1.out.1 C1.out.2).mono ?_
            rw [Bba.out]
            rintro e x8 ⟨rfl, g⟩
            have G8 : Hid (Fr wc x8 (fun _ => False)) := G7.out.none g
            clear g c0 c1 c2 c3 e0 e1 e2 e3 f0 f1 f2 f3
            have Hfo : Hid (Fr w x8 (fun _ => False)) := HfW.out.none G8.out
            go_wp2
            go_ret
            exact ⟨rfl, ebelow Hfo.out⟩
        · have Bab : Hid (eBefore t1 t2 (u1, v1) (u2, v2) = false) := Bool.eq_false_iff.2 hB
          obtain ⟨nS, hnS⟩ : ∃ x, (!S) = x := ⟨_, rfl⟩
          have Bba : Hid (eBefore t2 t1 (u2, v2) (u1, v1) = nS) := by show _ = _; rw [before_not Bab.out, ← HS.out, hnS]
          have bn : (nS == nS) = true := by simp
          clear HS hB
          obtain ⟨⟨c0, c1⟩, c2, c3⟩ := Hc1.out _ G3.out
          obtain ⟨⟨e0, e1⟩, e2, e3⟩ := Hc2.out _ G3.out
          obtain ⟨⟨f0, f1⟩, f2, f3⟩ := Hc3.out _ G3.out
          go_wp2_with fail
          refine (M.before t1 t2 (u1, v1) (u2, v2) false false _ B1.out.1 B1.out.2 B2.out.1 B2.out.2 C1.out.1 C1.out.2 C2.out.1 C2.out.2).mono ?_
          rw [Bab.out]
          rintro e x4 ⟨rfl, g⟩
          have G4 : Hid (Fr wc x4 (fun _ => False)) := G3.out.none g
          clear g c0 c1 c2 c3 e0 e1 e2 e3 f0 f1 f2 f3
          obtain ⟨⟨c0, c1⟩, c2, c3⟩ := Hc1.out _ G4.out
          obtain ⟨⟨e0, e1⟩, e2, e3⟩ := Hc2.out _ G4.out
          obtain ⟨⟨f0, f1⟩, f2, f3⟩ := Hc3.out _ G4.out
          go_wp2_with fail
          refine (M.before t1 t2 (u1, v1) (u2, v2) false false _ B1.out.1 B1.out.2 B2.out.1 B2.out.2 C1.out.1 C1.out.2 C2.out.1 C2.out.2).mono ?_
          rw [Bab.out]
          rintro e x5 ⟨rfl, g⟩
          have G5 : Hid (Fr wc x5 (fun _ => False)) := G4.out.none g
          clear g c0 c1 c2 c3 e0 e1 e2 e3 f0 f1 f2 f3
          obtain ⟨⟨c0, c1⟩, c2, c3⟩ := Hc1.out _ G5.out
          obtain ⟨⟨e0, e1⟩, e2, e3⟩ := Hc2.out _ G5.out
          obtain ⟨⟨f0, f1⟩, f2, f3⟩ := Hc3.out _ G5.out
          go_wp2_with fail
          refine (M.before t2 t1 (u2, v2) (u1, v1) false false _ B2.out.1 B2.out.2 B1.out.1 B1.out.2 C2.out.1 C2.out.2 C1.out.1 C1.out.2).mono ?_
          rw [Bba.out]
          rintro e x6 ⟨rfl, g⟩
          have G6 : Hid (Fr wc x6 (fun _ => False)) := G5.out.none g
          clear g c0 c1 c2 c3 e0 e1 e2 e3 f0 f1 f2 f3
          obtain ⟨⟨c0, c1⟩, c2, c3⟩ := Hc1.out _ G6.out
          obtain ⟨⟨e0, e1⟩, e2, e3⟩ := Hc2.out _ G6.out
          obtain ⟨⟨f0, f1⟩, f2, f3⟩ := Hc3.out _ G6.out
          go_wp2_with fail
          refine (M.before t1 t2 (u1, v1) (u2, v2) false false _ B1.out.1 B1.out.2 B2.out.1 B2.out.2 C1.out.1 C1.out.2 C2.out.1 C2.out.2).mono ?_
          rw [Bab.out]
          rintro e x7 ⟨rfl, g⟩
          have G7 : Hid (Fr wc x7 (fun _ => False)) := G6.out.none g
          clear g c0 c1 c2 c3 e0 e1 e2 e3 f0 f1 f2 f3
          have Hfo : Hid (Fr w x7 (fun _ => False)) := HfW.out.none G7.out
          go_wp2
          go_ret
          exact ⟨rfl, ebelow Hfo.out⟩
      · have Lbc : Hid (eLess (u2, v2) (u3, v3) = false) := Bool.eq_false_iff.2 hL2
        clear hL hL2
        obtain ⟨⟨c0, c1⟩, c2, c3⟩ := Hc1.out _ G0.out
        obtain ⟨⟨e0, e1⟩, e2, e3⟩ := Hc2.out _ G0.out
        obtain ⟨⟨f0, f1⟩, f2, f3⟩ := Hc3.out _ G0.out
        go_wp2_with fail
        refine (M.less (u1, v1) (u2, v2) _ C1.out.1 C1.out.2 C2.out.1 C2.out.2).mono ?_
        rw [Lab.out]
        rintro e x1 ⟨rfl, g⟩
        have G1 : Hid (Fr wc x1 (fun _ => False)) := G0.out.none g
        clear g c0 c1 c2 c3 e0 e1 e2 e3 f0 f1 f2 f3
        obtain ⟨⟨c0, c1⟩, c2, c3⟩ := Hc1.out _ G1.out
        obtain ⟨⟨e0, e1⟩, e2, e3⟩ := Hc2.out _ G1.out
        obtain ⟨⟨f0, f1⟩, f2, f3⟩ := Hc3.out _ G1.out
        go_wp2_with fail
        refine (M.less (u2, v2) (u3, v3) _ C2.out.1 C2.out.2 C3.out.1 C3.out.2).mono ?_
        rw [Lbc.out]
        rintro e x2 ⟨rfl, g⟩
        have G2 : Hid (Fr wc x2 (fun _ => False)) := G1.out.none g
        clear g c0 c1 c2 c3 e0 e1 e2 e3 f0 f1 f2 f3
        by_cases hB : eBefore t1 t2 (u1, v1) (u2, v2) = true
        · have Bab : Hid (eBefore t1 t2 (u1, v1) (u2, v2) = true) := hB
          have Bba : Hid (eBefore t2 t1 (u2, v2) (u1, v1) = false) := (before_back hB).1
          have hS2 : S = false := by rw [HS.out]; exact (before_back hB).2
          clear HS
          subst hS2
          by_cases hB2 : eBefore t2 t3 (u2, v2) (u3, v3) = true
          · have Bbc : Hid (eBefore t2 t3 (u2, v2) (u3, v3) = true) := hB2
            have Bac : Hid (eBefore t1 t3 (u1, v1) (u3, v3) = true) := before_trans hB hB2
            clear hB hB2
            obtain ⟨⟨c0, c1⟩, c2, c3⟩ := Hc1.out _ G2.out
            obtain ⟨⟨e0, e1⟩, e2, e3⟩ := Hc2.out _ G2.out
            obtain ⟨⟨f0, f1⟩, f2, f3⟩ := Hc3.out _ G2.out
            go_wp2_with fail
            refine (M.before t1 t2 (u1, v1) (u2, v2) false false _ B1.out.1 B1.out.2 B2.out.1 B2.out.2 C1.out.1 C1.out.2 C2.out.1 C2.out.2).mono ?_
            rw [Bab.out]
            rintro e x3 ⟨rfl, g⟩
            have G3 : Hid (Fr wc x3 (fun _ => False)) := G2.out.none g
            clear g c0 c1 c2 c3 e0 e1 e2 e3 f0 f1 f2 f3
            obtain ⟨⟨c0, c1⟩, c2, c3⟩ := Hc1.out _ G3.out
            obtain ⟨⟨e0, e1⟩, e2, e3⟩ := Hc2.out _ G3.out
            obtain ⟨⟨f0, f1⟩, f2, f3⟩ := Hc3.out _ G3.out
            go_wp2_with fail
            refine (M.before t2 t3 (u2, v2) (u3, v3) false false _ B2.out.1 B2.out.2 B3.out.1 B3.out.2 C2.out.1 C2.out.2 C3.out.1 C3.out.2).mono ?_
            rw [Bbc.out]
            rintro e x4 ⟨rfl, g⟩
            have G4 : Hid (Fr wc x4 (fun _ => False)) := G3.out.none g
            clear g c0 c1 c2 c3 e0 e1 e2 e3 f0 f1 f2 f3
            obtain ⟨⟨c0, c1⟩, c2, c3⟩ := Hc1.out _ G4.out
            obtain ⟨⟨e0, e1⟩, e2, e3⟩ := Hc2.out _ G4.out
            obtain ⟨⟨f0, f1⟩, f2, f3⟩ := Hc3.out _ G4.out
            go_wp2_with fail
            refine (M.before t1 t3 (u1, v1) (u3, v3) false false _ B1.out.1 B1.out.2 B3.out.1 B3.out.2 C1.out.1 C1.out.2 C3.out.1 C3.out.2).mono ?_
            rw [Bac.out]
            rintro e x5 ⟨rfl, g⟩
            have G5 : Hid (Fr wc x5 (fun _ => False)) := G4.out.none g
            clear g c0 c1 c2 c3 e0 e1 e2 e3 f0 f1 f2 f3
            obtain ⟨⟨c0, c1⟩, c2, c3⟩ := Hc1.out _ G5.out
            obtain ⟨⟨e0, e1⟩, e2, e3⟩ := Hc2.out _ G5.out
            obtain ⟨⟨f0, f1⟩, f2, f3⟩ := Hc3.out _ G5.out
            go_wp2_with fail
            refine (M.before t1 t2 (u1, v1) (u2, v2) false false _ B1.out.1 B1.out.2 B2.out.1 B2.out.2 C1.out.1 C1.out.2 C2.out.1 C2.out.2).mono ?_
            rw [Bab.out]
            rintro e x6 ⟨rfl, g⟩
            have G6 : Hid (Fr wc x6 (fun _ => False)) := G5.out.none g
            clear g c0 c1 c2 c3 e0 e1 e2 e3 f0 f1 f2 f3
            obtain ⟨⟨c0, c1⟩, c2, c3⟩ := Hc1.out _ G6.out
            obtain ⟨⟨e0, e1⟩, e2, e3⟩ := Hc2.out _ G6.out
            obtain ⟨⟨f0, f1⟩, f2, f3⟩ := Hc3.out _ G6.out
            go_wp2_with fail
            refine (M.before t1 t2 (u1, v1) (u2, v2) false false _ B1.out.1 B1.out.2 B2.out.1 B2.out.2 C1.out.1 C1.out.2 C2.out.1 C2.out.2).mono ?_
            rw [Bab.out]
            rintro e x7 ⟨rfl, g⟩
            have G7 : Hid (Fr wc x7 (fun _ => False)) := G6.out.none g
            clear g c0 c1 c2 c3 e0 e1 e2 e3 f0 f1 f2 f3
            obtain ⟨⟨c0, c1⟩, c2, c3⟩ := Hc1.out _ G7.out
            obtain ⟨⟨e0, e1⟩, e2, e3⟩ := Hc2.out _ G7.out
            obtain ⟨⟨f0, f1⟩, f2, f3⟩ := Hc3.out _ G7.out
            go_wp2_with fail
            refine (M.before t2 t1 (u2, v2) (u1, v1) false false _ B2.out.1 B2.out.2 B1.out.1 B1.out.2 C2.out.1 C2.out.2 C1.out.1 C1.out.2).mono ?_
            rw [Bba.out]
            rintro e x8 ⟨rfl, g⟩
            have G8 : Hid (Fr wc x8 (fun _ => False)) := G7.out.none g
            clear g c0 c1 c2 c3 e0 e1 e2 e3 f0 f1 f2 f3
            have Hfo : Hid (Fr w x8 (fun _ => False)) := HfW.out.none G8.out
            go_wp2
            go_ret
            exact ⟨rfl, ebelow Hfo.out⟩
          · have Bbc : Hid (eBefore t2 t3 (u2, v2) (u3, v3) = false) := Bool.eq_false_iff.2 hB2
            clear hB hB2
            obtain ⟨⟨c0, c1⟩, c2, c3⟩ := Hc1.out _ G2.out
            obtain ⟨⟨e0, e1⟩, e2, e3⟩ := Hc2.out _ G2.out
            obtain ⟨⟨f0, f1⟩, f2, f3⟩ := Hc3.out _ G2.out
            go_wp2_with fail
            refine (M.before t1 t2 (u1, v1) (u2, v2) false false _ B1.out.1 B1.out.2 B2.out.1 B2.out.2 C1.out.1 C1.out.2 C2.out.1 C2.out.2).mono ?_
            rw [Bab.out]
            rintro e x3 ⟨rfl, g⟩
            have G3 : Hid (Fr wc x3 (fun _ => False)) := G2.out.none g
            clear g c0 c1 c2 c3 e0 e1 e2 e3 f0 f1 f2 f3
            obtain ⟨⟨c0, c1⟩, c2, c3⟩ := Hc1.out _ G3.out
            obtain ⟨⟨e0, e1⟩, e2, e3⟩ := Hc2.out _ G3.out
            obtain ⟨⟨f0, f1⟩, f2, f3⟩ := Hc3.out _ G3.out
            go_wp2_with fail
            refine (M.before t2 t3 (u2, v2) (u3, v3) false false _ B2.out.1 B2.out.2 B3.out.1 B3.out.2 C2.out.1 C2.out.2 C3.out.1 C3.out.2).mono ?_
            rw [Bbc.out]
            rintro e x4 ⟨rfl, g⟩
            have G4 : Hid (Fr wc x4 (fun _ => False)) := G3.out.none g
            clear g c0 c1 c2 c3 e0 e1 e2 e3 f0 f1 f2 f3
            obtain ⟨⟨c0, c1⟩, c2, c3⟩ := Hc1.out _ G4.out
            obtain ⟨⟨e0, e1⟩, e2, e3⟩ := Hc2.out _ G4.out
            obtain ⟨⟨f0, f1⟩, f2, f3⟩ := Hc3.out _ G4.out
            go_wp2_with fail
            refine (M.before t1 t2 (u1, v1) (u2, v2) false false _ B1.out.1 B1.out.2 B2.out.1 B2.out.2 C1.out.1 C1.out.2 C2.out.1 C2.out.2).mono ?_
            rw [Bab.out]
            rintro e x5 ⟨rfl, g⟩
            have G5 : Hid (Fr wc x5 (fun _ => False)) := G4.out.none g
            clear g c0 c1 c2 c3 e0 e1 e2 e3 f0 f1 f2 f3
            obtain ⟨⟨c0, c1⟩, c2, c3⟩ := Hc1.out _ G5.out
            obtain ⟨⟨e0, e1⟩, e2, e3⟩ := Hc2.out _ G5.out
            obtain ⟨⟨f0, f1⟩, f2, f3⟩ := Hc3.out _ G5.out
            go_wp2_with fail
            refine (M.before t1 t2 (u1, v1) (u2, v2) false false _ B1.out.1 B1.out.2 B2.out.1 B2.out.2 C1.out.1 C1.out.2 C2.out.1 C2.out.2).mono ?_
            rw [Bab.out]
            rintro e x6 ⟨rfl, g⟩
            have G6 : Hid (Fr wc x6 (fun _ => False)) := G5.out.none g
            clear g c0 c1 c2 c3 e0 e1 e2 e3 f0 f1 f2 f3
            obtain ⟨⟨c0, c1⟩, c2, c3⟩ := Hc1.out _ G6.out
            obtain ⟨⟨e0, e1⟩, e2, e3⟩ := Hc2.out _ G6.out
            obtain ⟨⟨f0, f1⟩, f2, f3⟩ := Hc3.out _ G6.out
            go_wp2_with fail
            refine (M.before t2 t1 (u2, v2) (u1, v1) false false _ B2.out.1 B2.out.2 B1.out.1 B1.out.2 C2.out.1 C2.out.2 C1.out.1 C1.out.2).mono ?_
            rw [Bba.out]
            rintro e x7 ⟨rfl, g⟩
            have G7 : Hid (Fr wc x7 (fun _ => False)) := G6.out.none g
            clear g c0 c1 c2 c3 e0 e1 e2 e3 f0 f1 f2 f3
            have Hfo : Hid (Fr w x7 (fun _ => False)) := HfW.out.none G7.out
            go_wp2
            go_ret
            exact ⟨rfl, ebelow Hfo.out⟩
        · have Bab : Hid (eBefore t1 t2 (u1, v1) (u2, v2) = false) := Bool.eq_false_iff.2 hB
          obtain ⟨nS, hnS⟩ : ∃ x, (!S) = x := ⟨_, rfl⟩
          have Bba : Hid (eBefore t2 t1 (u2, v2) (u1, v1) = nS) := by show _ = _; rw [before_not Bab.out, ← HS.out, hnS]
          have bn : (nS == nS) = true := by simp
          clear HS hB
          obtain ⟨⟨c0, c1⟩, c2, c3⟩ := Hc1.out _ G2.out
          obtain ⟨⟨e0, e1⟩, e2, e3⟩ := Hc2.out _ G2.out
          obtain ⟨⟨f0, f1⟩, f2, f3⟩ := Hc3.out _ G2.out
          go_wp2_with fail
          refine (M.before t1 t2 (u1, v1) (u2, v2) false false _ B1.out.1 B1.out.2 B2.out.1 B2.out.2 C1.out.1 C1.out.2 C2.out.1 C2.out.2).mono ?_
          rw [Bab.out]
          rintro e x3 ⟨rfl, g⟩
          have G3 : Hid (Fr wc x3 (fun _ => False)) := G2.out.none g
          clear g c0 c1 c2 c3 e0 e1 e2 e3 f0 f1 f2 f3
          obtain ⟨⟨c0, c1⟩, c2, c3⟩ := Hc1.out _ G3.out
          obtain ⟨⟨e0, e1⟩, e2, e3⟩ := Hc2.out _ G3.out
          obtain ⟨⟨f0, f1⟩, f2, f3⟩ := Hc3.out _ G3.out
          go_wp2_with fail
          refine (M.before t1 t2 (u1, v1) (u2, v2) false false _ B1.out.1 B1.out.2 B2.out.1 B2.out.2 C1.out.1 C1.out.2 C2.out.1 C2.out.2).mono ?_
          rw [Bab.out]
          rintro e x4 ⟨rfl, g⟩
          have G4 : Hid (Fr wc x4 (fun _ => False)) := G3.out.none g
          clear g c0 c1 c2 c3 e0 e1 e2 e3 f0 f1 f2 f3
          obtain ⟨⟨c0, c1⟩, c2, c3⟩ := Hc1.out _ G4.out
          obtain ⟨⟨e0, e1⟩, e2, e3⟩ := Hc2.out _ G4.out
          obtain ⟨⟨f0, f1⟩, f2, f3⟩ := Hc3.out _ G4.out
          go_wp2_with fail
          refine (M.before t2 t1 (u2, v2) (u1, v1) false false _ B2.out.1 B2.out.2 B1.out.1 B1.out.2 C2.out.1 C2.out.2 C1.out.1 C1.out.2).mono ?_
          rw [Bba.out]
          rintro e x5 ⟨rfl, g⟩
          have G5 : Hid (Fr wc x5 (fun _ => False)) := G4.out.none g
          clear g c0 c1 c2 c3 e0 e1 e2 e3 f0 f1 f2 f3
          obtain ⟨⟨c0, c1⟩, c2, c3⟩ := Hc1.out _ G5.out
          obtain ⟨⟨e0, e1⟩, e2, e3⟩ := Hc2.out _ G5.out
          obtain ⟨⟨f0, f1⟩, f2, f3⟩ := Hc3.out _ G5.out
          go_wp2_with fail
          refine (M.before t1 t2 (u1, v1) (u2, v2) false false _ B1.out.1 B1.out.2 B2.out.1 B2.out.2 C1.out.1 C1.out.2 C2.out.1 C2.out.2).mono ?_
          rw [Bab.out]
          rintro e x6 ⟨rfl, g⟩
          have G6 : Hid (Fr wc x6 (fun _ => False)) := G5.out.none g
          clear g c0 c1 c2 c3 e0 e1 e2 e3 f0 f1 f2 f3
          have Hfo : Hid (Fr w x6 (fun _ => False)) := HfW.out.none G6.out
          go_wp2
          go_ret
          exact ⟨rfl, ebelow Hfo.out⟩
    · have Lab : Hid (eLess (u1, v1) (u2, v2) = false) := Bool.eq_false_iff.2 hL
      clear hL
      obtain ⟨⟨c0, c1⟩, c2, c3⟩ := Hc1.out _ G0.out
      obtain ⟨⟨e0, e1⟩, e2, e3⟩ := Hc2.out _ G0.out
      obtain ⟨⟨f0, f1⟩, f2, f3⟩ := Hc3.out _ G0.out
      go_wp2_with fail
      refine (M.less (u1, v1) (u2, v2) _ C1.out.1 C1.out.2 C2.out.1 C2.out.2).mono ?_
      rw [Lab.out]
      rintro e x1 ⟨rfl, g⟩
      have G1 : Hid (Fr wc x1 (fun _ => False)) := G0.out.none g
      clear g c0 c1 c2 c3 e0 e1 e2 e3 f0 f1 f2 f3
      by_cases hB : eBefore t1 t2 (u1, v1) (u2, v2) = true
      · have Bab : Hid (eBefore t1 t2 (u1, v1) (u2, v2) = true) := hB
        have Bba : Hid (eBefore t2 t1 (u2, v2) (u1, v1) = false) := (before_back hB).1
        have hS2 : S = false := by rw [HS.out]; exact (before_back hB).2
        clear HS
        subst hS2
        by_cases hB2 : eBefore t2 t3 (u2, v2) (u3, v3) = true
        · have Bbc : Hid (eBefore t2 t3 (u2, v2) (u3, v3) = true) := hB2
          have Bac : Hid (eBefore t1 t3 (u1, v1) (u3, v3) = true) := before_trans hB hB2
          clear hB hB2
          obtain ⟨⟨c0, c1⟩, c2, c3⟩ := Hc1.out _ G1.out
          obtain ⟨⟨e0, e1⟩, e2, e3⟩ := Hc2.out _ G1.out
          obtain ⟨⟨f0, f1⟩, f2, f3⟩ := Hc3.out _ G1.out
          go_wp2_with fail
          refine (M.before t1 t2 (u1, v1) (u2, v2) false false _ B1.out.1 B1.out.2 B2.out.1 B2.out.2 C1.out.1 C1.out.2 C2.out.1 C2.out.2).mono ?_
          rw [Bab.out]
          rintro e x2 ⟨rfl, g⟩
          have G2 : Hid (Fr wc x2 (fun _ => False)) := G1.out.none g
          clear g c0 c1 c2 c3 e0 e1 e2 e3 f0 f1 f2 f3
          obtain ⟨⟨c0, c1⟩, c2, c3⟩ := Hc1.out _ G2.out
          obtain ⟨⟨e0, e1⟩, e2, e3⟩ := Hc2.out _ G2.out
          obtain ⟨⟨f0, f1⟩, f2, f3⟩ := Hc3.out _ G2.out
          go_wp2_with fail
          refine (M.before t2 t3 (u2, v2) (u3, v3) false false _ B2.out.1 B2.out.2 B3.out.1 B3.out.2 C2.out.1 C2.out.2 C3.out.1 C3.out.2).mono ?_
          rw [Bbc.out]
          rintro e x3 ⟨rfl, g⟩
          have G3 : Hid (Fr wc x3 (fun _ => False)) := G2.out.none g
          clear g c0 c1 c2 c3 e0 e1 e2 e3 f0 f1 f2 f3
          obtain ⟨⟨c0, c1⟩, c2, c3⟩ := Hc1.out _ G3.out
          obtain ⟨⟨e0, e1⟩, e2, e3⟩ := Hc2.out _ G3.out
          obtain ⟨⟨f0, f1⟩, f2, f3⟩ := Hc3.out _ G3.out
          go_wp2_with fail
          refine (M.before t1 t3 (u1, v1) (u3, v3) false false _ B1.out.1 B1.out.2 B3.out.1 B3.out.2 C1.out.1 C1.out.2 C3.out.1 C3.out.2).mono ?_
          rw [Bac.out]
          rintro e x4 ⟨rfl, g⟩
          have G4 : Hid (Fr wc x4 (fun _ => False)) := G3.out.none g
          clear g c0 c1 c2 c3 e0 e1 e2 e3 f0 f1 f2 f3
          obtain ⟨⟨c0, c1⟩, c2, c3⟩ := Hc1.out _ G4.out
          obtain ⟨⟨e0, e1⟩, e2, e3⟩ := Hc2.out _ G4.out
          obtain ⟨⟨f0, f1⟩, f2, f3⟩ := Hc3.out _ G4.out
          go_wp2_with fail
          refine (M.before t1 t2 (u1, v1) (u2, v2) false false _ B1.out.1 B1.out.2 B2.out.1 B2.out.2 C1.out.1 C1.out.2 C2.out.1 C2.out.2).mono ?_
          rw [Bab.out]
          rintro e x5 ⟨rfl, g⟩
          have G5 : Hid (Fr wc x5 (fun _ => False)) := G4.out.none g
          clear g c0 c1 c2 c3 e0 e1 e2 e3 f0 f1 f2 f3
          obtain ⟨⟨c0, c1⟩, c2, c3⟩ := Hc1.out _ G5.out
          obtain ⟨⟨e0, e1⟩, e2, e3⟩ := Hc2.out _ G5.out
          obtain ⟨⟨f0, f1⟩, f2, f3⟩ := Hc3.out _ G5.out
          go_wp2_with fail
          refine (M.before t1 t2 (u1, v1) (u2, v2) false false _ B1.out.1 B1.out.2 B2.out.1 B2.out.2 C1.out.1 C1.out.2 C2.out.1 C2.out.2).mono ?_
          rw [Bab.out]
          rintro e x6 ⟨rfl, g⟩
          have G6 : Hid (Fr wc x6 (fun _ => False)) := G5.out.none g
          clear g c0 c1 c2 c3 e0 e1 e2 e3 f0 f1 f2 f3
          obtain ⟨⟨c0, c1⟩, c2, c3⟩ := Hc1.out _ G6.out
          obtain ⟨⟨e0, e1⟩, e2, e3⟩ := Hc2.out _ G6.out
          obtain ⟨⟨f0, f1⟩, f2, f3⟩ := Hc3.out _ G6.out
          go_wp2_with fail
          refine (M.before t2 t1 (u2, v2) (u1, v1) false false _ B2.out.1 B2.out.2 B1.out.1 B1.out.2 C2.out.1 C2.out.2 C1.out.1 C1.out.2).mono ?_
          rw [Bba.out]
          rintro e x7 ⟨rfl, g⟩
          have G7 : Hid (Fr wc x7 (fun _ => False)) := G6.out.none g
          clear g c0 c1 c2 c3 e0 e1 e2 e3 f0 f1 f2 f3
          have Hfo : Hid (Fr w x7 (fun _ => False)) := HfW.out.none G7.out
          go_wp2
          go_ret
          exact ⟨rfl, ebelow Hfo.out⟩
        · have Bbc : Hid (eBefore t2 t3 (u2, v2) (u3, v3) = false) := Bool.eq_false_iff.2 hB2
          clear hB hB2
          obtain ⟨⟨c0, c1⟩, c2, c3⟩ := Hc1.out _ G1.out
          obtain ⟨⟨e0, e1⟩, e2, e3⟩ := Hc2.out _ G1.out
          obtain ⟨⟨f0, f1⟩, f2, f3⟩ := Hc3.out _ G1.out
          go_wp2_with fail
          refine (M.before t1 t2 (u1, v1) (u2, v2) false false _ B1.out.1 B1.out.2 B2.out.1 B2.out.2 C1.out.1 C1.out.2 C2.out.1 C2.out.2).mono ?_
          rw [Bab.out]
          rintro e x2 ⟨rfl, g⟩
          have G2 : Hid (Fr wc x2 (fun _ => False)) := G1.out.none g
          clear g c0 c1 c2 c3 e0 e1 e2 e3 f0 f1 f2 f3
          obtain ⟨⟨c0, c1⟩, c2, c3⟩ := Hc1.out _ G2.out
          obtain ⟨⟨e0, e1⟩, e2, e3⟩ := Hc2.out _ G2.out
          obtain ⟨⟨f0, f1⟩, f2, f3⟩ := Hc3.out _ G2.out
          go_wp2_with fail
          refine (M.before t2 t3 (u2, v2) (u3, v3) false false _ B2.out.1 B2.out.2 B3.out.1 B3.out.2 C2.out.1 C2.out.2 C3.out.1 C3.out.2).mono ?_
          rw [Bbc.out]
          rintro e x3 ⟨rfl, g⟩
          have G3 : Hid (Fr wc x3 (fun _ => False)) := G2.out.none g
          clear g c0 c1 c2 c3 e0 e1 e2 e3 f0 f1 f2 f3
          obtain ⟨⟨c0, c1⟩, c2, c3⟩ := Hc1.out _ G3.out
          obtain ⟨⟨e0, e1⟩, e2, e3⟩ := Hc2.out _ G3.out
          obtain ⟨⟨f0, f1⟩, f2, f3⟩ := Hc3.out _ G3.out
          go_wp2_with fail
          refine (M.before t1 t2 (u1, v1) (u2, v2) false false _ B1.out.1 B1.out.2 B2.out.1 B2.out.2 C1.out.1 C1.out.2 C2.out.1 C2.out.2).mono ?_
          rw [Bab.out]
          rintro e x4 ⟨rfl, g⟩
          have G4 : Hid (Fr wc x4 (fun _ => False)) := G3.out.none g
          clear g c0 c1 c2 c3 e0 e1 e2 e3 f0 f1 f2 f3
          obtain ⟨⟨c0, c1⟩, c2, c3⟩ := Hc1.out _ G4.out
          obtain ⟨⟨e0, e1⟩, e2, e3⟩ := Hc2.out _ G4.out
          obtain ⟨⟨f0, f1⟩, f2, f3⟩ := Hc3.out _ G4.out
          go_wp2_with fail
          refine (M.before t1 t2 (u1, v1) (u2, v2) false false _ B1.out.1 B1.out.2 B2.out.1 B2.out.2 C1.out.1 C1.out.2 C2.out.1 C2.out.2).mono ?_
          rw [Bab.out]
          rintro e x5 ⟨rfl, g⟩
          have G5 : Hid (Fr wc x5 (fun _ => False)) := G4.out.none g
          clear g c0 c1 c2 c3 e0 e1 e2 e3 f0 f1 f2 f3
          obtain ⟨⟨c0, c1⟩, c2, c3⟩ := Hc1.out _ G5.out
          obtain ⟨⟨e0, e1⟩, e2, e3⟩ := Hc2.out _ G5.out
          obtain ⟨⟨f0, f1⟩, f2, f3⟩ := Hc3.out _ G5.out
          go_wp2_with fail
          refine (M.before t2 t1 (u2, v2) (u1, v1) false false _ B2.out.1 B2.out.2 B1.out.1 B1.out.2 C2.out.1 C2.out.2 C1.out.1 C1.out.2).mono ?_
          rw [Bba.out]
          rintro e x6 ⟨rfl, g⟩
          have G6 : Hid (Fr wc x6 (fun _ => False)) := G5.out.none g
          clear g c0 c1 c2 c3 e0 e1 e2 e3 f0 f1 f2 f3
          have Hfo : Hid (Fr w x6 (fun _ => False)) := HfW.out.none G6.out
          go_wp2
          go_ret
          exact ⟨rfl, ebelow Hfo.out⟩
      · have Bab : Hid (eBefore t1 t2 (u1, v1) (u2, v2) = false) := Bool.eq_false_iff.2 hB
        obtain ⟨nS, hnS⟩ : ∃ x, (!S) = x := ⟨_, rfl⟩
        have Bba : Hid (eBefore t2 t1 (u2, v2) (u1, v1) = nS) := by show _ = _; rw [before_not Bab.out, ← HS.out, hnS]
        have bn : (nS == nS) = true := by simp
        clear HS hB
        obtain ⟨⟨c0, c1⟩, c2, c3⟩ := Hc1.out _ G1.out
        obtain ⟨⟨e0, e1⟩, e2, e3⟩ := Hc2.out _ G1.out
        obtain ⟨⟨f0, f1⟩, f2, f3⟩ := Hc3.out _ G1.out
        go_wp2_with fail
        refine (M.before t1 t2 (u1, v1) (u2, v2) false false _ B1.out.1 B1.out.2 B2.out.1 B2.out.2 C1.out.1 C1.out.2 C2.out.1 C2.out.2).mono ?_
        rw [Bab.out]
        rintro e x2 ⟨rfl, g⟩
        have G2 : Hid (Fr wc x2 (fun _ => False)) := G1.out.none g
        clear g c0 c1 c2 c3 e0 e1 e2 e3 f0 f1 f2 f3
        obtain ⟨⟨c0, c1⟩, c2, c3⟩ := Hc1.out _ G2.out
        obtain ⟨⟨e0, e1⟩, e2, e3⟩ := Hc2.out _ G2.out
        obtain ⟨⟨f0, f1⟩, f2, f3⟩ := Hc3.out _ G2.out
        go_wp2_with fail
        refine (M.before t1 t2 (u1, v1) (u2, v2) false false _ B1.out.1 B1.out.2 B2.out.1 B2.out.2 C1.out.1 C1.out.2 C2.out.1 C2.out.2).mono ?_
        rw [Bab.out]
        rintro e x3 ⟨rfl, g⟩
        have G3 : Hid (Fr wc x3 (fun _ => False)) := G2.out.none g
        clear g c0 c1 c2 c3 e0 e1 e2 e3 f0 f1 f2 f3
        obtain ⟨⟨c0, c1⟩, c2, c3⟩ := Hc1.out _ G3.out
        obtain ⟨⟨e0, e1⟩, e2, e3⟩ := Hc2.out _ G3.out
        obtain ⟨⟨f0, f1⟩, f2, f3⟩ := Hc3.out _ G3.out
        go_wp2_with fail
        refine (M.before t2 t1 (u2, v2) (u1, v1) false false _ B2.out.1 B2.out.2 B1.out.1 B1.out.2 C2.out.1 C2.out.2 C1.out.1 C1.out.2).mono ?_
        rw [Bba.out]
        rintro e x4 ⟨rfl, g⟩
        have G4 : Hid (Fr wc x4 (fun _ => False)) := G3.out.none g
        clear g c0 c1 c2 c3 e0 e1 e2 e3 f0 f1 f2 f3
        obtain ⟨⟨c0, c1⟩, c2, c3⟩ := Hc1.out _ G4.out
        obtain ⟨⟨e0, e1⟩, e2, e3⟩ := Hc2.out _ G4.out
        obtain ⟨⟨f0, f1⟩, f2, f3⟩ := Hc3.out _ G4.out
        go_wp2_with fail
        refine (M.before t1 t2 (u1, v1) (u2, v2) false false _ B1.out.1 B1.out.2 B2.out.1 B2.out.2 C1.out.1 C1.out.2 C2.out.1 C2.out.2).mono ?_
        rw [Bab.out]
        rintro e x5 ⟨rfl, g⟩
        have G5 : Hid (Fr wc x5 (fun _ => False)) := G4.out.none g
        clear g c0 c1 c2 c3 e0 e1 e2 e3 f0 f1 f2 f3
        have Hfo : Hid (Fr w x5 (fun _ => False)) := HfW.out.none G5.out
        go_wp2
        go_ret
        exact ⟨rfl, ebelow Hfo.out⟩

end Go.Proofs.Ytgmancekamfinaa.edgeOrders

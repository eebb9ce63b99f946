/-
  The walk of the law EdgeTells, under the condition that the program's functions answer as their contracts say.
-/
import Derived.Test.YtgmancekamfinaaRows
import Derived.Test.YtgmancekamfinaaEC
import Derived.Test.YtgmancekamfinaaESkip
import Derived.Deep.CutRange
namespace Go.Proofs.Ytgmancekamfinaa.edgeTells
open Go.ChangeShapes Go.WideShapes Go.ChangeAt Go.RowKit

theorem eu32 (n : Int) (h : (Lit.int .u32 n).wf = true) : 0 ≤ n ∧ n < (4294967296 : Nat) := by have := bounds_u32 h; omega
theorem eu64 (n : Int) (h : (Lit.int .u64 n).wf = true) : 0 ≤ n ∧ n < (18446744073709551616 : Nat) := by have := bounds_u64 h; omega
theorem ebelow {w w' : World} (h : Fr w w' (fun _ => False)) : Below w.heap.size w w' := h.below (Nat.le_refl _) (fun _ h => h.elim)
theorem cells_later {w z : World} {x y : Value} {T : TypeId} {p : Nat} (hp : p = w.heap.size) (h : Fr (w.alloc (.cells #[x, y] T)) z (fun _ => False)) : z.cell? ⟨p, 0, none⟩ = some x ∧ z.cell? ⟨p, 1, none⟩ = some y := by
  have h1 : (w.alloc (.cells #[x, y] T)).heap[p]? = some (.cells #[x, y] T (0, 0)) := by rw [hp]; exact heap_alloc_new _ _
  have h2 := h.kept h1 (fun h => h)
  exact ⟨two_cell0 h2, two_cell1 h2⟩

set_option maxRecDepth 4000 in
set_option maxHeartbeats 3200000 in
theorem walkM (M : EC) (a0 : Int) (a1 : Int) (a2 : Int) (a3 : Int) (a4 : Int) (a5 : Bool) (w0 : (Lit.int .u32 a0).wf = true) (w1 : (Lit.int .u32 a1).wf = true) (w2 : (Lit.int .u32 a2).wf = true) (w3 : (Lit.int .u32 a3).wf = true) (w4 : (Lit.int .u64 a4).wf = true) (w : World) :
    Calls Try.prog 3 #[.int .u32 a0, .int .u32 a1, .int .u32 a2, .int .u32 a3, .int .u64 a4, .bool a5] w fun e w' => e = .returned (.bool true) ∧ Below w.heap.size w w' := by
  obtain ⟨a, rfl⟩ : ∃ k : Nat, a0 = (k : Int) := ⟨a0.toNat, by have := eu32 a0 w0; omega⟩
  obtain ⟨b, rfl⟩ : ∃ k : Nat, a1 = (k : Int) := ⟨a1.toNat, by have := eu32 a1 w1; omega⟩
  obtain ⟨c, rfl⟩ : ∃ k : Nat, a2 = (k : Int) := ⟨a2.toNat, by have := eu32 a2 w2; omega⟩
  obtain ⟨d, rfl⟩ : ∃ k : Nat, a3 = (k : Int) := ⟨a3.toNat, by have := eu32 a3 w3; omega⟩
  obtain ⟨n, rfl⟩ : ∃ k : Nat, a4 = (k : Int) := ⟨a4.toNat, by have := eu64 a4 w4; omega⟩
  have ha := (eu32 _ w0).2
  have hb := (eu32 _ w1).2
  have hc := (eu32 _ w2).2
  have hd := (eu32 _ w3).2
  have hn := (eu64 _ w4).2
  have Hb : Hid (a < 4294967296 ∧ b < 4294967296 ∧ c < 4294967296 ∧ d < 4294967296 ∧ n < 18446744073709551616) := by refine ⟨?_, ?_, ?_, ?_, ?_⟩ <;> omega
  have ma : (a : Int).tmod 4 = ((a % 4 : Nat) : Int) := by rw [Int.tmod_eq_emod_of_nonneg (by omega)]; omega
  have mb : (b : Int).tmod 4 = ((b % 4 : Nat) : Int) := by rw [Int.tmod_eq_emod_of_nonneg (by omega)]; omega
  have mc : (c : Int).tmod 4 = ((c % 4 : Nat) : Int) := by rw [Int.tmod_eq_emod_of_nonneg (by omega)]; omega
  have md : (d : Int).tmod 4 = ((d % 4 : Nat) : Int) := by rw [Int.tmod_eq_emod_of_nonneg (by omega)]; omega
  have mn : (n : Int).tmod 6 = ((n % 6 : Nat) : Int) := by rw [Int.tmod_eq_emod_of_nonneg (by omega)]; omega
  clear w0 w1 w2 w3 w4 ha hb hc hd hn
  go_enter Try.func3, Try.ntmps3
  go_wp2_with fail
  refine (known_any M w).mono ?_
  rintro e w1 ⟨rfl, hf1⟩
  have Hf1 : Hid (Fr w w1 (fun _ => False)) := hf1
  clear hf1
  go_upto_region 3 with fail
  go_cut [21] from 21 to 21 (fun V wx => V = .bool a5 ∧ wx = w1)
  case first =>
    go_wp2_with fail
    go_meet
    case rel => exact ⟨rfl, rfl⟩
  case rest =>
    obtain ⟨rfl, rfl⟩ := hcut
    rename_i hKc
    refine hKc _ _ ?_
    clear hKc
    go_cut [0, 1, 2, 3, 4] from 22 to 31 (fun A B C D E wx => ∃ a b c d n : Nat, (A = .int .u32 (a : Int) ∧ B = .int .u32 (b : Int) ∧ C = .int .u32 (c : Int) ∧ D = .int .u32 (d : Int) ∧ E = .int .u64 (n : Int)) ∧ (a < 4294967296 ∧ b < 4294967296 ∧ c < 4294967296 ∧ d < 4294967296 ∧ n < 18446744073709551616) ∧ Fr w wx (fun _ => False))
    case first =>
      cases a5 with
      | false =>
        go_wp2_with fail
        go_meet
        case rel => exact ⟨a, b, c, d, n, ⟨rfl, rfl, rfl, rfl, rfl⟩, Hb.out, Hf1.out⟩
      | true =>
        go_wp2_with fail
        go_meet
        case rel => exact ⟨a % 4, b % 4, c % 4, d % 4, n % 6, by first | exact ⟨rfl, rfl, rfl, rfl, rfl⟩ | (refine ⟨?_, ?_, ?_, ?_, ?_⟩ <;> simp), by refine ⟨?_, ?_, ?_, ?_, ?_⟩ <;> omega, Hf1.out⟩
    case rest =>
      clear Hb Hf1 ma mb mc md mn
      obtain ⟨a, b, c, d, n, ⟨rfl, rfl, rfl, rfl, rfl⟩, hb, hf1⟩ := hcut
      have Hb : Hid _ := hb
      have Hf1 : Hid _ := hf1
      clear hb hf1
      obtain ⟨ok, hok⟩ : ∃ ok, decide (a ≠ b) = ok := ⟨_, rfl⟩
      obtain ⟨e0, e1, he⟩ : ∃ e0 e1 : Nat, (if a = b then edgeV (0, 0) else edgeV (min a b, max a b)) = .agg #[.int .u32 (e0 : Int), .int .u32 (e1 : Int)] ∧ (a ≠ b → e0 = min a b ∧ e1 = max a b) := by
        by_cases h : a = b
        · rw [if_pos h]
          exact ⟨0, 0, rfl, fun g => absurd h g⟩
        · rw [if_neg h]
          exact ⟨min a b, max a b, rfl, fun _ => ⟨rfl, rfl⟩⟩
      have Hof1 : Hid (∀ x, Calls Try.prog 8 #[.int .u32 (a : Int), .int .u32 (b : Int)] x fun e w' => e = .returned (.tuple #[.agg #[.int .u32 (e0 : Int), .int .u32 (e1 : Int)], .bool ok]) ∧ Fr x w' (fun _ => False)) := fun x => by
        have := M.of_ a b x Hb.out.1 Hb.out.2.1
        rw [he.1, hok] at this
        exact this
      have Hof2 : Hid (∀ x, Calls Try.prog 8 #[.int .u32 (b : Int), .int .u32 (a : Int)] x fun e w' => e = .returned (.tuple #[.agg #[.int .u32 (e0 : Int), .int .u32 (e1 : Int)], .bool ok]) ∧ Fr x w' (fun _ => False)) := fun x => by
        have := M.of_ b a x Hb.out.2.1 Hb.out.1
        rw [show (if b = a then edgeV (0, 0) else edgeV (min b a, max b a)) = (if a = b then edgeV (0, 0) else edgeV (min a b, max a b)) by rw [Nat.min_comm, Nat.max_comm]; simp only [eq_comm], he.1, show decide (b ≠ a) = ok by rw [← hok]; exact decide_eq_decide.2 ne_comm] at this
        exact this
      have Hok : Hid _ := hok
      have He : Hid (a ≠ b → e0 = min a b ∧ e1 = max a b) := he.2
      clear hok he
      go_wp2_with fail
      refine (Hof1.out _).mono ?_
      rintro e w2 ⟨rfl, hf2⟩
      have Hf2 : Hid (Fr w w2 (fun _ => False)) := Hf1.out.none hf2
      clear hf2
      go_wp2_with fail
      refine (Hof2.out _).mono ?_
      rintro e w3 ⟨rfl, hf3⟩
      obtain ⟨p, hp⟩ : ∃ p, p = w2.heap.size := ⟨_, rfl⟩
      rw [← hp]
      have Hc : Hid (∀ z, Fr w3 z (fun _ => False) → z.cell? ⟨p, 0, none⟩ = some (.int .u32 (e0 : Int)) ∧ z.cell? ⟨p, 1, none⟩ = some (.int .u32 (e1 : Int))) := fun z hz => cells_later hp (hf3.none hz)
      have Hf3 : Hid (Fr w w3 (fun _ => False)) := (Hf2.out.alloc _).none hf3
      clear hf3 hp
      go_upto_region 8 with fail
      obtain ⟨q0, hq0⟩ : ∃ q, q = w3.heap.size := ⟨_, rfl⟩
      obtain ⟨q1, hq1⟩ : ∃ q, q = q0 + 1 := ⟨_, rfl⟩
      obtain ⟨q2, hq2⟩ : ∃ q, q = q1 + 1 := ⟨_, rfl⟩
      rw [← hq0, ← hq1, ← hq2]
      obtain ⟨W, hW⟩ : ∃ W, W = ((w3.alloc (.cells #[.int .u32 (e0 : Int), .int .u32 (e1 : Int)] 26)).alloc (.cells #[.int .u32 (a : Int), .int .u32 (b : Int)] 26)).alloc (.cells #[.int .u32 (c : Int), .int .u32 (d : Int)] 26) := ⟨_, rfl⟩
      rw [← hW]
      have f1 : Fr w3 W (fun _ => False) := by rw [hW]; exact (((Fr.refl w3 _).alloc _).alloc _).alloc _
      have HE : Hid (∀ z, Fr W z (fun _ => False) → (z.cell? ⟨p, 0, none⟩ = some (.int .u32 (e0 : Int)) ∧ z.cell? ⟨p, 1, none⟩ = some (.int .u32 (e1 : Int))) ∧ z.cell? ⟨q0, 0, none⟩ = some (.int .u32 (e0 : Int)) ∧ z.cell? ⟨q0, 1, none⟩ = some (.int .u32 (e1 : Int))) := fun z hz =>
        ⟨Hc.out z (f1.none hz), cells_later hq0 ((((Fr.refl _ (fun _ => False)).alloc _).alloc _).none (by rw [← hW]; exact hz))⟩
      have HC : Hid (∀ z, Fr W z (fun _ => False) → (z.cell? ⟨q1, 0, none⟩ = some (.int .u32 (a : Int)) ∧ z.cell? ⟨q1, 1, none⟩ = some (.int .u32 (b : Int))) ∧ z.cell? ⟨q2, 0, none⟩ = some (.int .u32 (c : Int)) ∧ z.cell? ⟨q2, 1, none⟩ = some (.int .u32 (d : Int))) := fun z hz =>
        ⟨cells_later (w := w3.alloc (.cells #[.int .u32 (e0 : Int), .int .u32 (e1 : Int)] 26)) (by simp; omega) (((Fr.refl _ (fun _ => False)).alloc _).none (by rw [← hW]; exact hz)), cells_later (w := (w3.alloc (.cells #[.int .u32 (e0 : Int), .int .u32 (e1 : Int)] 26)).alloc (.cells #[.int .u32 (a : Int), .int .u32 (b : Int)] 26)) (by simp; omega) (by rw [← hW]; exact hz)⟩
      have HfW : Hid (Fr w W (fun _ => False)) := Hf3.out.none f1
      clear f1 hW hq0 hq1 hq2 Hf1 Hf2 Hf3 Hof1 Hof2 Hc
      go_cut [83] from 50 to 83 (fun V wx => V = .bool false ∧ wx = W)
      case first =>
        obtain ⟨⟨c0, c1⟩, c2, c3⟩ := HE.out W (Fr.refl _ _)
        by_cases heq : a = b
        · obtain rfl : ok = false := by rw [← Hok.out]; exact decide_eq_false (by simpa using heq)
          subst heq
          clear Hok He
          have d1 : ((a : Int) != (a : Int)) = false := by simp
          go_wp2_with fail
          go_meet
          case rel => exact ⟨rfl, rfl⟩
        · obtain rfl : ok = true := by rw [← Hok.out]; exact decide_eq_true heq
          obtain ⟨h0, h1⟩ := He.out heq
          have d1 : ((a : Int) == (b : Int)) = false := by rw [beq_eq_false_iff_ne]; omega
          have d1' : (a == b) = false := by rw [beq_eq_false_iff_ne]; exact heq
          have d2 : ((a : Int) != (b : Int)) = true := by rw [bne_iff_ne]; omega
          rcases Nat.lt_or_gt_of_ne heq with hlt | hlt
          · have e1' : decide ((a : Int) < (b : Int)) = true := decide_eq_true (by omega)
            have e2' : decide ((b : Int) < (a : Int)) = false := decide_eq_false (by omega)
            have e3 : (a : Int) < (b : Int) := by omega
            obtain rfl : e0 = a := by omega
            obtain rfl : e1 = b := by omega
            clear Hok He heq h0 h1
            go_wp2_with fail
            go_meet
            case rel => exact ⟨rfl, rfl⟩
          · have e1' : decide ((a : Int) < (b : Int)) = false := decide_eq_false (by omega)
            have e2' : decide ((b : Int) < (a : Int)) = true := decide_eq_true (by omega)
            have e3 : ¬ (a : Int) < (b : Int) := by omega
            have e4 : (b : Int) < (a : Int) := by omega
            obtain rfl : e0 = b := by omega
            obtain rfl : e1 = a := by omega
            clear Hok He heq h0 h1
            go_wp2_with fail
            go_meet
            case rel => exact ⟨rfl, rfl⟩
      case rest =>
        obtain ⟨rfl, rfl⟩ := hcut
        rename_i hKc
        refine hKc _ _ ?_
        clear hKc HE Hok He
        obtain ⟨hab, hbb, hcb, hdb, hnb⟩ := Hb.out
        clear Hb
        obtain ⟨R, hR⟩ : ∃ R, R = eRight a b n := ⟨_, rfl⟩
        have HR : Hid _ := hR
        have HLs : Hid (eLess (a, b) (a, b) = false) := decide_eq_false (by simp)
        have bR : (R == R) = true := by simp
        clear hR
        go_wp2_with fail
        by_cases hac : a = c
        · subst hac
          by_cases hbd : b = d
          · subst hbd
            have H1 : Hid (eLess (a, b) (a, b) = false) := HLs.out
            have H2 : Hid (eLess (a, b) (a, b) = false) := HLs.out
            have H3 : Hid (eRising [(a, b), (a, b)] = false) := by show _ = _; unfold eRising; rw [HLs.out]; rfl
            refine wp_region_tree (fun _ => False) (.take 0 (.take 1 (.take 3 (.take 4 (.one 2 (.one 5 (.take 6 (.take 7 (.take 8 (.take 9 (.take 11 (.take 12 (.one 10 (.one 13 (.take 14 (.take 15 (.take 16 (.take 17 (.take 18 (.one 19 (.take 20 (.take 21 (.take 22 (.take 23 (.take 24 (.take 31 (.take 32 (.take 33 (.one 25 (.take 26 (.take 27 (.take 28 (.one 29 (.take 30 (.take 34 (.take 35 (.take 36 (.take 37 (.take 38 (.take 41 (.take 42 (.one 39 (.one 40 (.one 43 (.take 44 (.take 45 (.take 46 .nil))))))))))))))))))))))))))))))))))))))))))))))) (by kernel_rfl) (by kernel_rfl) (by decide) (by kernel_rfl) ?_
            have G0 : Hid (Fr wc wc.drew (fun _ => False)) := (Fr.refl wc (fun _ => False)).drew
            have k1 : ∀ z, Fr wc.drew z (fun _ => False) → z.cell? ⟨q1, 0, none⟩ = some (.int .u32 (a : Int)) := fun z hz => (HC.out z (G0.out.none hz)).1.1
            have k2 : ∀ z, Fr wc.drew z (fun _ => False) → z.cell? ⟨q1, 1, none⟩ = some (.int .u32 (b : Int)) := fun z hz => (HC.out z (G0.out.none hz)).1.2
            have k3 : ∀ z, Fr wc.drew z (fun _ => False) → z.cell? ⟨q2, 0, none⟩ = some (.int .u32 (a : Int)) := fun z hz => (HC.out z (G0.out.none hz)).2.1
            have k4 : ∀ z, Fr wc.drew z (fun _ => False) → z.cell? ⟨q2, 1, none⟩ = some (.int .u32 (b : Int)) := fun z hz => (HC.out z (G0.out.none hz)).2.2
            repeat (refine wpT_take (v := ?_) rfl rfl (fun x hx => ?_) ?_; rotate_left; (focus (go_simp; with_reducible rfl)); simp only [Act.put, List.setIfInBounds_toArray, List.set_cons_zero, List.set_cons_succ])
            refine wpT_one rfl rfl (fun K hK => ?_)
            clear k1 k2 k3 k4
            go_simp
            refine (M.right a b n wc.drew hab hbb hnb).mono ?_
            rw [← HR.out]
            rintro e x1 ⟨rfl, f1⟩
            refine hK _ _ f1 ?_
            clear hK K
            have G1 : Hid (Fr wc x1 (fun _ => False)) := G0.out.none f1
            clear f1 G0
            have k1 : ∀ z, Fr x1 z (fun _ => False) → z.cell? ⟨q1, 0, none⟩ = some (.int .u32 (a : Int)) := fun z hz => (HC.out z (G1.out.none hz)).1.1
            have k2 : ∀ z, Fr x1 z (fun _ => False) → z.cell? ⟨q1, 1, none⟩ = some (.int .u32 (b : Int)) := fun z hz => (HC.out z (G1.out.none hz)).1.2
            have k3 : ∀ z, Fr x1 z (fun _ => False) → z.cell? ⟨q2, 0, none⟩ = some (.int .u32 (a : Int)) := fun z hz => (HC.out z (G1.out.none hz)).2.1
            have k4 : ∀ z, Fr x1 z (fun _ => False) → z.cell? ⟨q2, 1, none⟩ = some (.int .u32 (b : Int)) := fun z hz => (HC.out z (G1.out.none hz)).2.2
            try simp only [Act.put, List.setIfInBounds_toArray, List.set_cons_zero, List.set_cons_succ]
            repeat (refine wpT_take (v := ?_) rfl rfl (fun x hx => ?_) ?_; rotate_left; (focus (go_simp; with_reducible rfl)); simp only [Act.put, List.setIfInBounds_toArray, List.set_cons_zero, List.set_cons_succ])
            refine wpT_one rfl rfl (fun K hK => ?_)
            clear k1 k2 k3 k4
            go_simp
            refine (refRight8_any a b n x1 hbb).mono ?_
            rw [← HR.out]
            rintro e x2 ⟨rfl, f2⟩
            refine hK _ _ f2 ?_
            clear hK K
            have G2 : Hid (Fr wc x2 (fun _ => False)) := G1.out.none f2
            clear f2 G1
            have k1 : ∀ z, Fr x2 z (fun _ => False) → z.cell? ⟨q1, 0, none⟩ = some (.int .u32 (a : Int)) := fun z hz => (HC.out z (G2.out.none hz)).1.1
            have k2 : ∀ z, Fr x2 z (fun _ => False) → z.cell? ⟨q1, 1, none⟩ = some (.int .u32 (b : Int)) := fun z hz => (HC.out z (G2.out.none hz)).1.2
            have k3 : ∀ z, Fr x2 z (fun _ => False) → z.cell? ⟨q2, 0, none⟩ = some (.int .u32 (a : Int)) := fun z hz => (HC.out z (G2.out.none hz)).2.1
            have k4 : ∀ z, Fr x2 z (fun _ => False) → z.cell? ⟨q2, 1, none⟩ = some (.int .u32 (b : Int)) := fun z hz => (HC.out z (G2.out.none hz)).2.2
            try simp only [Act.put, List.setIfInBounds_toArray, List.set_cons_zero, List.set_cons_succ]
            repeat (refine wpT_take (v := ?_) rfl rfl (fun x hx => ?_) ?_; rotate_left; (focus (go_simp; with_reducible rfl)); simp only [Act.put, List.setIfInBounds_toArray, List.set_cons_zero, List.set_cons_succ])
            refine wpT_one rfl rfl (fun K hK => ?_)
            clear k1 k2 k3 k4
            go_simp
            refine (M.less (a, b) (a, b) x2 hab hbb hab hbb).mono ?_
            rw [H1.out]
            rintro e x3 ⟨rfl, f3⟩
            refine hK _ _ f3 ?_
            clear hK K
            have G3 : Hid (Fr wc x3 (fun _ => False)) := G2.out.none f3
            clear f3 G2
            have k1 : ∀ z, Fr x3 z (fun _ => False) → z.cell? ⟨q1, 0, none⟩ = some (.int .u32 (a : Int)) := fun z hz => (HC.out z (G3.out.none hz)).1.1
            have k2 : ∀ z, Fr x3 z (fun _ => False) → z.cell? ⟨q1, 1, none⟩ = some (.int .u32 (b : Int)) := fun z hz => (HC.out z (G3.out.none hz)).1.2
            have k3 : ∀ z, Fr x3 z (fun _ => False) → z.cell? ⟨q2, 0, none⟩ = some (.int .u32 (a : Int)) := fun z hz => (HC.out z (G3.out.none hz)).2.1
            have k4 : ∀ z, Fr x3 z (fun _ => False) → z.cell? ⟨q2, 1, none⟩ = some (.int .u32 (b : Int)) := fun z hz => (HC.out z (G3.out.none hz)).2.2
            try simp only [Act.put, List.setIfInBounds_toArray, List.set_cons_zero, List.set_cons_succ]
            repeat (refine wpT_take (v := ?_) rfl rfl (fun x hx => ?_) ?_; rotate_left; (focus (go_simp; with_reducible rfl)); simp only [Act.put, List.setIfInBounds_toArray, List.set_cons_zero, List.set_cons_succ])
            refine wpT_one rfl rfl (fun K hK => ?_)
            clear k1 k2 k3 k4
            go_simp
            refine (refLess8_any (a, b) (a, b) x3).mono ?_
            rw [H1.out]
            rintro e x4 ⟨rfl, f4⟩
            refine hK _ _ f4 ?_
            clear hK K
            have G4 : Hid (Fr wc x4 (fun _ => False)) := G3.out.none f4
            clear f4 G3
            have k1 : ∀ z, Fr x4 z (fun _ => False) → z.cell? ⟨q1, 0, none⟩ = some (.int .u32 (a : Int)) := fun z hz => (HC.out z (G4.out.none hz)).1.1
            have k2 : ∀ z, Fr x4 z (fun _ => False) → z.cell? ⟨q1, 1, none⟩ = some (.int .u32 (b : Int)) := fun z hz => (HC.out z (G4.out.none hz)).1.2
            have k3 : ∀ z, Fr x4 z (fun _ => False) → z.cell? ⟨q2, 0, none⟩ = some (.int .u32 (a : Int)) := fun z hz => (HC.out z (G4.out.none hz)).2.1
            have k4 : ∀ z, Fr x4 z (fun _ => False) → z.cell? ⟨q2, 1, none⟩ = some (.int .u32 (b : Int)) := fun z hz => (HC.out z (G4.out.none hz)).2.2
            try simp only [Act.put, List.setIfInBounds_toArray, List.set_cons_zero, List.set_cons_succ]
            repeat (refine wpT_take (v := ?_) rfl rfl (fun x hx => ?_) ?_; rotate_left; (focus (go_simp; with_reducible rfl)); simp only [Act.put, List.setIfInBounds_toArray, List.set_cons_zero, List.set_cons_succ])
            refine wpT_one rfl rfl (fun K hK => ?_)
            clear k1 k2 k3 k4
            go_simp
            refine (M.less (a, b) (a, b) x4 hab hbb hab hbb).mono ?_
            rw [HLs.out]
            rintro e x5 ⟨rfl, f5⟩
            refine hK _ _ f5 ?_
            clear hK K
            have G5 : Hid (Fr wc x5 (fun _ => False)) := G4.out.none f5
            clear f5 G4
            have k1 : ∀ z, Fr x5 z (fun _ => False) → z.cell? ⟨q1, 0, none⟩ = some (.int .u32 (a : Int)) := fun z hz => (HC.out z (G5.out.none hz)).1.1
            have k2 : ∀ z, Fr x5 z (fun _ => False) → z.cell? ⟨q1, 1, none⟩ = some (.int .u32 (b : Int)) := fun z hz => (HC.out z (G5.out.none hz)).1.2
            have k3 : ∀ z, Fr x5 z (fun _ => False) → z.cell? ⟨q2, 0, none⟩ = some (.int .u32 (a : Int)) := fun z hz => (HC.out z (G5.out.none hz)).2.1
            have k4 : ∀ z, Fr x5 z (fun _ => False) → z.cell? ⟨q2, 1, none⟩ = some (.int .u32 (b : Int)) := fun z hz => (HC.out z (G5.out.none hz)).2.2
            try simp only [Act.put, List.setIfInBounds_toArray, List.set_cons_zero, List.set_cons_succ]
            repeat (refine wpT_take (v := ?_) rfl rfl (fun x hx => ?_) ?_; rotate_left; (focus (go_simp; with_reducible rfl)); simp only [Act.put, List.setIfInBounds_toArray, List.set_cons_zero, List.set_cons_succ])
            refine wpT_one rfl rfl (fun K hK => ?_)
            clear k1 k2 k3 k4
            go_simp
            refine (M.less (a, b) (a, b) x5 hab hbb hab hbb).mono ?_
            rw [H1.out]
            rintro e x6 ⟨rfl, f6⟩
            refine hK _ _ f6 ?_
            clear hK K
            have G6 : Hid (Fr wc x6 (fun _ => False)) := G5.out.none f6
            clear f6 G5
            have k1 : ∀ z, Fr x6 z (fun _ => False) → z.cell? ⟨q1, 0, none⟩ = some (.int .u32 (a : Int)) := fun z hz => (HC.out z (G6.out.none hz)).1.1
            have k2 : ∀ z, Fr x6 z (fun _ => False) → z.cell? ⟨q1, 1, none⟩ = some (.int .u32 (b : Int)) := fun z hz => (HC.out z (G6.out.none hz)).1.2
            have k3 : ∀ z, Fr x6 z (fun _ => False) → z.cell? ⟨q2, 0, none⟩ = some (.int .u32 (a : Int)) := fun z hz => (HC.out z (G6.out.none hz)).2.1
            have k4 : ∀ z, Fr x6 z (fun _ => False) → z.cell? ⟨q2, 1, none⟩ = some (.int .u32 (b : Int)) := fun z hz => (HC.out z (G6.out.none hz)).2.2
            try simp only [Act.put, List.setIfInBounds_toArray, List.set_cons_zero, List.set_cons_succ]
            repeat (refine wpT_take (v := ?_) rfl rfl (fun x hx => ?_) ?_; rotate_left; (focus (go_simp; with_reducible rfl)); simp only [Act.put, List.setIfInBounds_toArray, List.set_cons_zero, List.set_cons_succ])
            refine wpT_one rfl rfl (fun K hK => ?_)
            clear k1 k2 k3 k4
            go_simp
            refine (M.less (a, b) (a, b) x6 hab hbb hab hbb).mono ?_
            rw [H2.out]
            rintro e x7 ⟨rfl, f7⟩
            refine hK _ _ f7 ?_
            clear hK K
            have G7 : Hid (Fr wc x7 (fun _ => False)) := G6.out.none f7
            clear f7 G6
            have k1 : ∀ z, Fr x7 z (fun _ => False) → z.cell? ⟨q1, 0, none⟩ = some (.int .u32 (a : Int)) := fun z hz => (HC.out z (G7.out.none hz)).1.1
            have k2 : ∀ z, Fr x7 z (fun _ => False) → z.cell? ⟨q1, 1, none⟩ = some (.int .u32 (b : Int)) := fun z hz => (HC.out z (G7.out.none hz)).1.2
            have k3 : ∀ z, Fr x7 z (fun _ => False) → z.cell? ⟨q2, 0, none⟩ = some (.int .u32 (a : Int)) := fun z hz => (HC.out z (G7.out.none hz)).2.1
            have k4 : ∀ z, Fr x7 z (fun _ => False) → z.cell? ⟨q2, 1, none⟩ = some (.int .u32 (b : Int)) := fun z hz => (HC.out z (G7.out.none hz)).2.2
            try simp only [Act.put, List.setIfInBounds_toArray, List.set_cons_zero, List.set_cons_succ]
            repeat (refine wpT_take (v := ?_) rfl rfl (fun x hx => ?_) ?_; rotate_left; (focus (go_simp; with_reducible rfl)); simp only [Act.put, List.setIfInBounds_toArray, List.set_cons_zero, List.set_cons_succ])
            refine wpT_one rfl rfl (fun K hK => ?_)
            go_simp
            refine hK _ _ ((Fr.refl _ _).alloc _) ?_
            clear hK K k1 k2 k3 k4
            obtain ⟨X, hX⟩ : ∃ X, X = x7.alloc (.cells #[.int .u32 (a : Int), .int .u32 (b : Int), .int .u32 (a : Int), .int .u32 (b : Int)] 26) := ⟨_, rfl⟩
            have G8 : Hid (Fr wc X (fun _ => False)) := by rw [hX]; exact G7.out.alloc _
            have B : Hid (RdE X (.slice (some ⟨x7.heap.size, 0, none⟩) 2 2) [(a, b), (a, b)]) := by show RdE _ _ _; rw [hX]; exact elit x7 [(a, b), (a, b)] _ _ rfl rfl (by simp)
            rw [← hX]
            clear hX
            have k1 : ∀ z, Fr X z (fun _ => False) → z.cell? ⟨q1, 0, none⟩ = some (.int .u32 (a : Int)) := fun z hz => (HC.out z (G8.out.none hz)).1.1
            have k2 : ∀ z, Fr X z (fun _ => False) → z.cell? ⟨q1, 1, none⟩ = some (.int .u32 (b : Int)) := fun z hz => (HC.out z (G8.out.none hz)).1.2
            have k3 : ∀ z, Fr X z (fun _ => False) → z.cell? ⟨q2, 0, none⟩ = some (.int .u32 (a : Int)) := fun z hz => (HC.out z (G8.out.none hz)).2.1
            have k4 : ∀ z, Fr X z (fun _ => False) → z.cell? ⟨q2, 1, none⟩ = some (.int .u32 (b : Int)) := fun z hz => (HC.out z (G8.out.none hz)).2.2
            try simp only [Act.put, List.setIfInBounds_toArray, List.set_cons_zero, List.set_cons_succ]
            refine wpT_one rfl rfl (fun K hK => ?_)
            clear k1 k2 k3 k4
            go_simp
            refine (M.rising _ [(a, b), (a, b)] X B.out (by simp; omega) (by simp)).mono ?_
            rw [H3.out]
            rintro e x9 ⟨rfl, f9⟩
            refine hK _ _ f9 ?_
            clear hK K
            have G9 : Hid (Fr wc x9 (fun _ => False)) := G8.out.none f9
            clear f9 G8
            have k1 : ∀ z, Fr x9 z (fun _ => False) → z.cell? ⟨q1, 0, none⟩ = some (.int .u32 (a : Int)) := fun z hz => (HC.out z (G9.out.none hz)).1.1
            have k2 : ∀ z, Fr x9 z (fun _ => False) → z.cell? ⟨q1, 1, none⟩ = some (.int .u32 (b : Int)) := fun z hz => (HC.out z (G9.out.none hz)).1.2
            have k3 : ∀ z, Fr x9 z (fun _ => False) → z.cell? ⟨q2, 0, none⟩ = some (.int .u32 (a : Int)) := fun z hz => (HC.out z (G9.out.none hz)).2.1
            have k4 : ∀ z, Fr x9 z (fun _ => False) → z.cell? ⟨q2, 1, none⟩ = some (.int .u32 (b : Int)) := fun z hz => (HC.out z (G9.out.none hz)).2.2
            try simp only [Act.put, List.setIfInBounds_toArray, List.set_cons_zero, List.set_cons_succ]
            repeat (refine wpT_take (v := ?_) rfl rfl (fun x hx => ?_) ?_; rotate_left; (focus (go_simp; with_reducible rfl)); simp only [Act.put, List.setIfInBounds_toArray, List.set_cons_zero, List.set_cons_succ])
            refine wpT_one rfl rfl (fun K hK => ?_)
            clear k1 k2 k3 k4
            go_simp
            refine (refLess8_any (a, b) (a, b) x9).mono ?_
            rw [H1.out]
            rintro e x10 ⟨rfl, f10⟩
            refine hK _ _ f10 ?_
            clear hK K
            have G10 : Hid (Fr wc x10 (fun _ => False)) := G9.out.none f10
            clear f10 G9
            have k1 : ∀ z, Fr x10 z (fun _ => False) → z.cell? ⟨q1, 0, none⟩ = some (.int .u32 (a : Int)) := fun z hz => (HC.out z (G10.out.none hz)).1.1
            have k2 : ∀ z, Fr x10 z (fun _ => False) → z.cell? ⟨q1, 1, none⟩ = some (.int .u32 (b : Int)) := fun z hz => (HC.out z (G10.out.none hz)).1.2
            have k3 : ∀ z, Fr x10 z (fun _ => False) → z.cell? ⟨q2, 0, none⟩ = some (.int .u32 (a : Int)) := fun z hz => (HC.out z (G10.out.none hz)).2.1
            have k4 : ∀ z, Fr x10 z (fun _ => False) → z.cell? ⟨q2, 1, none⟩ = some (.int .u32 (b : Int)) := fun z hz => (HC.out z (G10.out.none hz)).2.2
            try simp only [Act.put, List.setIfInBounds_toArray, List.set_cons_zero, List.set_cons_succ]
            repeat (refine wpT_take (v := ?_) rfl rfl (fun x hx => ?_) ?_; rotate_left; (focus (go_simp; with_reducible rfl)); simp only [Act.put, List.setIfInBounds_toArray, List.set_cons_zero, List.set_cons_succ])
            unfold wpT
            have Hfo : Hid (Fr w x10 (fun _ => False)) := HfW.out.none G10.out
            clear k1 k2 k3 k4
            go_wp2_with fail
            go_ret
            exact ⟨rfl, ebelow Hfo.out⟩
          · have n1 : ((b : Int) == (d : Int)) = false := by rw [beq_eq_false_iff_ne]; omega
            have n2 : ((b : Int) != (d : Int)) = true := by rw [bne_iff_ne]; omega
            rcases Nat.lt_or_gt_of_ne hbd with hlt | hlt
            · have H1 : Hid (eLess (a, b) (a, d) = true) := decide_eq_true (.inr ⟨rfl, hlt⟩)
              have H3 : Hid (eRising [(a, b), (a, d)] = true) := by show _ = _; unfold eRising; rw [H1.out]; rfl
              clear hbd hlt
              refine wp_region_tree (fun _ => False) (.take 0 (.take 1 (.take 3 (.take 4 (.one 2 (.one 5 (.take 6 (.take 7 (.take 8 (.take 9 (.take 11 (.take 12 (.one 10 (.one 13 (.take 14 (.take 15 (.take 16 (.take 17 (.take 18 (.one 19 (.take 20 (.take 21 (.take 22 (.take 23 (.take 24 (.take 31 (.take 32 (.take 33 (.one 25 (.take 26 (.take 27 (.take 28 (.one 29 (.take 30 (.take 34 (.take 35 (.take 36 (.take 37 (.take 38 (.take 41 (.take 42 (.one 39 (.one 40 (.one 43 (.take 44 (.take 45 (.take 46 .nil))))))))))))))))))))))))))))))))))))))))))))))) (by kernel_rfl) (by kernel_rfl) (by decide) (by kernel_rfl) ?_
              have G0 : Hid (Fr wc wc.drew (fun _ => False)) := (Fr.refl wc (fun _ => False)).drew
              have k1 : ∀ z, Fr wc.drew z (fun _ => False) → z.cell? ⟨q1, 0, none⟩ = some (.int .u32 (a : Int)) := fun z hz => (HC.out z (G0.out.none hz)).1.1
              have k2 : ∀ z, Fr wc.drew z (fun _ => False) → z.cell? ⟨q1, 1, none⟩ = some (.int .u32 (b : Int)) := fun z hz => (HC.out z (G0.out.none hz)).1.2
              have k3 : ∀ z, Fr wc.drew z (fun _ => False) → z.cell? ⟨q2, 0, none⟩ = some (.int .u32 (a : Int)) := fun z hz => (HC.out z (G0.out.none hz)).2.1
              have k4 : ∀ z, Fr wc.drew z (fun _ => False) → z.cell? ⟨q2, 1, none⟩ = some (.int .u32 (d : Int)) := fun z hz => (HC.out z (G0.out.none hz)).2.2
              repeat (refine wpT_take (v := ?_) rfl rfl (fun x hx => ?_) ?_; rotate_left; (focus (go_simp; with_reducible rfl)); simp only [Act.put, List.setIfInBounds_toArray, List.set_cons_zero, List.set_cons_succ])
              refine wpT_one rfl rfl (fun K hK => ?_)
              clear k1 k2 k3 k4
              go_simp
              refine (M.right a b n wc.drew hab hbb hnb).mono ?_
              rw [← HR.out]
              rintro e x1 ⟨rfl, f1⟩
              refine hK _ _ f1 ?_
              clear hK K
              have G1 : Hid (Fr wc x1 (fun _ => False)) := G0.out.none f1
              clear f1 G0
              have k1 : ∀ z, Fr x1 z (fun _ => False) → z.cell? ⟨q1, 0, none⟩ = some (.int .u32 (a : Int)) := fun z hz => (HC.out z (G1.out.none hz)).1.1
              have k2 : ∀ z, Fr x1 z (fun _ => False) → z.cell? ⟨q1, 1, none⟩ = some (.int .u32 (b : Int)) := fun z hz => (HC.out z (G1.out.none hz)).1.2
              have k3 : ∀ z, Fr x1 z (fun _ => False) → z.cell? ⟨q2, 0, none⟩ = some (.int .u32 (a : Int)) := fun z hz => (HC.out z (G1.out.none hz)).2.1
              have k4 : ∀ z, Fr x1 z (fun _ => False) → z.cell? ⟨q2, 1, none⟩ = some (.int .u32 (d : Int)) := fun z hz => (HC.out z (G1.out.none hz)).2.2
              try simp only [Act.put, List.setIfInBounds_toArray, List.set_cons_zero, List.set_cons_succ]
              repeat (refine wpT_take (v := ?_) rfl rfl (fun x hx => ?_) ?_; rotate_left; (focus (go_simp; with_reducible rfl)); simp only [Act.put, List.setIfInBounds_toArray, List.set_cons_zero, List.set_cons_succ])
              refine wpT_one rfl rfl (fun K hK => ?_)
              clear k1 k2 k3 k4
              go_simp
              refine (refRight8_any a b n x1 hbb).mono ?_
              rw [← HR.out]
              rintro e x2 ⟨rfl, f2⟩
              refine hK _ _ f2 ?_
              clear hK K
              have G2 : Hid (Fr wc x2 (fun _ => False)) := G1.out.none f2
              clear f2 G1
              have k1 : ∀ z, Fr x2 z (fun _ => False) → z.cell? ⟨q1, 0, none⟩ = some (.int .u32 (a : Int)) := fun z hz => (HC.out z (G2.out.none hz)).1.1
              have k2 : ∀ z, Fr x2 z (fun _ => False) → z.cell? ⟨q1, 1, none⟩ = some (.int .u32 (b : Int)) := fun z hz => (HC.out z (G2.out.none hz)).1.2
              have k3 : ∀ z, Fr x2 z (fun _ => False) → z.cell? ⟨q2, 0, none⟩ = some (.int .u32 (a : Int)) := fun z hz => (HC.out z (G2.out.none hz)).2.1
              have k4 : ∀ z, Fr x2 z (fun _ => False) → z.cell? ⟨q2, 1, none⟩ = some (.int .u32 (d : Int)) := fun z hz => (HC.out z (G2.out.none hz)).2.2
              try simp only [Act.put, List.setIfInBounds_toArray, List.set_cons_zero, List.set_cons_succ]
              repeat (refine wpT_take (v := ?_) rfl rfl (fun x hx => ?_) ?_; rotate_left; (focus (go_simp; with_reducible rfl)); simp only [Act.put, List.setIfInBounds_toArray, List.set_cons_zero, List.set_cons_succ])
              refine wpT_one rfl rfl (fun K hK => ?_)
              clear k1 k2 k3 k4
              go_simp
              refine (M.less (a, b) (a, d) x2 hab hbb hab hdb).mono ?_
              rw [H1.out]
              rintro e x3 ⟨rfl, f3⟩
              refine hK _ _ f3 ?_
              clear hK K
              have G3 : Hid (Fr wc x3 (fun _ => False)) := G2.out.none f3
              clear f3 G2
              have k1 : ∀ z, Fr x3 z (fun _ => False) → z.cell? ⟨q1, 0, none⟩ = some (.int .u32 (a : Int)) := fun z hz => (HC.out z (G3.out.none hz)).1.1
              have k2 : ∀ z, Fr x3 z (fun _ => False) → z.cell? ⟨q1, 1, none⟩ = some (.int .u32 (b : Int)) := fun z hz => (HC.out z (G3.out.none hz)).1.2
              have k3 : ∀ z, Fr x3 z (fun _ => False) → z.cell? ⟨q2, 0, none⟩ = some (.int .u32 (a : Int)) := fun z hz => (HC.out z (G3.out.none hz)).2.1
              have k4 : ∀ z, Fr x3 z (fun _ => False) → z.cell? ⟨q2, 1, none⟩ = some (.int .u32 (d : Int)) := fun z hz => (HC.out z (G3.out.none hz)).2.2
              try simp only [Act.put, List.setIfInBounds_toArray, List.set_cons_zero, List.set_cons_succ]
              repeat (refine wpT_take (v := ?_) rfl rfl (fun x hx => ?_) ?_; rotate_left; (focus (go_simp; with_reducible rfl)); simp only [Act.put, List.setIfInBounds_toArray, List.set_cons_zero, List.set_cons_succ])
              refine wpT_one rfl rfl (fun K hK => ?_)
              clear k1 k2 k3 k4
              go_simp
              refine (refLess8_any (a, b) (a, d) x3).mono ?_
              rw [H1.out]
              rintro e x4 ⟨rfl, f4⟩
              refine hK _ _ f4 ?_
              clear hK K
              have G4 : Hid (Fr wc x4 (fun _ => False)) := G3.out.none f4
              clear f4 G3
              have k1 : ∀ z, Fr x4 z (fun _ => False) → z.cell? ⟨q1, 0, none⟩ = some (.int .u32 (a : Int)) := fun z hz => (HC.out z (G4.out.none hz)).1.1
              have k2 : ∀ z, Fr x4 z (fun _ => False) → z.cell? ⟨q1, 1, none⟩ = some (.int .u32 (b : Int)) := fun z hz => (HC.out z (G4.out.none hz)).1.2
              have k3 : ∀ z, Fr x4 z (fun _ => False) → z.cell? ⟨q2, 0, none⟩ = some (.int .u32 (a : Int)) := fun z hz => (HC.out z (G4.out.none hz)).2.1
              have k4 : ∀ z, Fr x4 z (fun _ => False) → z.cell? ⟨q2, 1, none⟩ = some (.int .u32 (d : Int)) := fun z hz => (HC.out z (G4.out.none hz)).2.2
              try simp only [Act.put, List.setIfInBounds_toArray, List.set_cons_zero, List.set_cons_succ]
              repeat (refine wpT_take (v := ?_) rfl rfl (fun x hx => ?_) ?_; rotate_left; (focus (go_simp; with_reducible rfl)); simp only [Act.put, List.setIfInBounds_toArray, List.set_cons_zero, List.set_cons_succ])
              refine wpT_one rfl rfl (fun K hK => ?_)
              clear k1 k2 k3 k4
              go_simp
              refine (M.less (a, b) (a, b) x4 hab hbb hab hbb).mono ?_
              rw [HLs.out]
              rintro e x5 ⟨rfl, f5⟩
              refine hK _ _ f5 ?_
              clear hK K
              have G5 : Hid (Fr wc x5 (fun _ => False)) := G4.out.none f5
              clear f5 G4
              have k1 : ∀ z, Fr x5 z (fun _ => False) → z.cell? ⟨q1, 0, none⟩ = some (.int .u32 (a : Int)) := fun z hz => (HC.out z (G5.out.none hz)).1.1
              have k2 : ∀ z, Fr x5 z (fun _ => False) → z.cell? ⟨q1, 1, none⟩ = some (.int .u32 (b : Int)) := fun z hz => (HC.out z (G5.out.none hz)).1.2
              have k3 : ∀ z, Fr x5 z (fun _ => False) → z.cell? ⟨q2, 0, none⟩ = some (.int .u32 (a : Int)) := fun z hz => (HC.out z (G5.out.none hz)).2.1
              have k4 : ∀ z, Fr x5 z (fun _ => False) → z.cell? ⟨q2, 1, none⟩ = some (.int .u32 (d : Int)) := fun z hz => (HC.out z (G5.out.none hz)).2.2
              try simp only [Act.put, List.setIfInBounds_toArray, List.set_cons_zero, List.set_cons_succ]
              repeat (refine wpT_take (v := ?_) rfl rfl (fun x hx => ?_) ?_; rotate_left; (focus (go_simp; with_reducible rfl)); simp only [Act.put, List.setIfInBounds_toArray, List.set_cons_zero, List.set_cons_succ])
              refine wpT_one rfl rfl (fun K hK => ?_)
              clear k1 k2 k3 k4
              go_simp
              refine (M.less (a, b) (a, d) x5 hab hbb hab hdb).mono ?_
              rw [H1.out]
              rintro e x6 ⟨rfl, f6⟩
              refine hK _ _ f6 ?_
              clear hK K
              have G6 : Hid (Fr wc x6 (fun _ => False)) := G5.out.none f6
              clear f6 G5
              have k1 : ∀ z, Fr x6 z (fun _ => False) → z.cell? ⟨q1, 0, none⟩ = some (.int .u32 (a : Int)) := fun z hz => (HC.out z (G6.out.none hz)).1.1
              have k2 : ∀ z, Fr x6 z (fun _ => False) → z.cell? ⟨q1, 1, none⟩ = some (.int .u32 (b : Int)) := fun z hz => (HC.out z (G6.out.none hz)).1.2
              have k3 : ∀ z, Fr x6 z (fun _ => False) → z.cell? ⟨q2, 0, none⟩ = some (.int .u32 (a : Int)) := fun z hz => (HC.out z (G6.out.none hz)).2.1
              have k4 : ∀ z, Fr x6 z (fun _ => False) → z.cell? ⟨q2, 1, none⟩ = some (.int .u32 (d : Int)) := fun z hz => (HC.out z (G6.out.none hz)).2.2
              try simp only [Act.put, List.setIfInBounds_toArray, List.set_cons_zero, List.set_cons_succ]
              repeat (refine wpT_take (v := ?_) rfl rfl (fun x hx => ?_) ?_; rotate_left; (focus (go_simp; with_reducible rfl)); simp only [Act.put, List.setIfInBounds_toArray, List.set_cons_zero, List.set_cons_succ])
              refine wpT_pass rfl rfl ?_; simp only [Act.put, List.setIfInBounds_toArray, List.set_cons_zero, List.set_cons_succ]
              refine wpT_pass rfl rfl ?_; simp only [Act.put, List.setIfInBounds_toArray, List.set_cons_zero, List.set_cons_succ]
              refine wpT_skip rfl rfl ?_; simp only [Act.put, List.setIfInBounds_toArray, List.set_cons_zero, List.set_cons_succ]
              repeat (refine wpT_take (v := ?_) rfl rfl (fun x hx => ?_) ?_; rotate_left; (focus (go_simp; with_reducible rfl)); simp only [Act.put, List.setIfInBounds_toArray, List.set_cons_zero, List.set_cons_succ])
              refine wpT_one rfl rfl (fun K hK => ?_)
              go_simp
              refine hK _ _ ((Fr.refl _ _).alloc _) ?_
              clear hK K k1 k2 k3 k4
              obtain ⟨X, hX⟩ : ∃ X, X = x6.alloc (.cells #[.int .u32 (a : Int), .int .u32 (b : Int), .int .u32 (a : Int), .int .u32 (d : Int)] 26) := ⟨_, rfl⟩
              have G7 : Hid (Fr wc X (fun _ => False)) := by rw [hX]; exact G6.out.alloc _
              have B : Hid (RdE X (.slice (some ⟨x6.heap.size, 0, none⟩) 2 2) [(a, b), (a, d)]) := by show RdE _ _ _; rw [hX]; exact elit x6 [(a, b), (a, d)] _ _ rfl rfl (by simp)
              rw [← hX]
              clear hX
              have k1 : ∀ z, Fr X z (fun _ => False) → z.cell? ⟨q1, 0, none⟩ = some (.int .u32 (a : Int)) := fun z hz => (HC.out z (G7.out.none hz)).1.1
              have k2 : ∀ z, Fr X z (fun _ => False) → z.cell? ⟨q1, 1, none⟩ = some (.int .u32 (b : Int)) := fun z hz => (HC.out z (G7.out.none hz)).1.2
              have k3 : ∀ z, Fr X z (fun _ => False) → z.cell? ⟨q2, 0, none⟩ = some (.int .u32 (a : Int)) := fun z hz => (HC.out z (G7.out.none hz)).2.1
              have k4 : ∀ z, Fr X z (fun _ => False) → z.cell? ⟨q2, 1, none⟩ = some (.int .u32 (d : Int)) := fun z hz => (HC.out z (G7.out.none hz)).2.2
              try simp only [Act.put, List.setIfInBounds_toArray, List.set_cons_zero, List.set_cons_succ]
              refine wpT_one rfl rfl (fun K hK => ?_)
              clear k1 k2 k3 k4
              go_simp
              refine (M.rising _ [(a, b), (a, d)] X B.out (by simp; omega) (by simp)).mono ?_
              rw [H3.out]
              rintro e x8 ⟨rfl, f8⟩
              refine hK _ _ f8 ?_
              clear hK K
              have G8 : Hid (Fr wc x8 (fun _ => False)) := G7.out.none f8
              clear f8 G7
              have k1 : ∀ z, Fr x8 z (fun _ => False) → z.cell? ⟨q1, 0, none⟩ = some (.int .u32 (a : Int)) := fun z hz => (HC.out z (G8.out.none hz)).1.1
              have k2 : ∀ z, Fr x8 z (fun _ => False) → z.cell? ⟨q1, 1, none⟩ = some (.int .u32 (b : Int)) := fun z hz => (HC.out z (G8.out.none hz)).1.2
              have k3 : ∀ z, Fr x8 z (fun _ => False) → z.cell? ⟨q2, 0, none⟩ = some (.int .u32 (a : Int)) := fun z hz => (HC.out z (G8.out.none hz)).2.1
              have k4 : ∀ z, Fr x8 z (fun _ => False) → z.cell? ⟨q2, 1, none⟩ = some (.int .u32 (d : Int)) := fun z hz => (HC.out z (G8.out.none hz)).2.2
              try simp only [Act.put, List.setIfInBounds_toArray, List.set_cons_zero, List.set_cons_succ]
              repeat (refine wpT_take (v := ?_) rfl rfl (fun x hx => ?_) ?_; rotate_left; (focus (go_simp; with_reducible rfl)); simp only [Act.put, List.setIfInBounds_toArray, List.set_cons_zero, List.set_cons_succ])
              refine wpT_one rfl rfl (fun K hK => ?_)
              clear k1 k2 k3 k4
              go_simp
              refine (refLess8_any (a, b) (a, d) x8).mono ?_
              rw [H1.out]
              rintro e x9 ⟨rfl, f9⟩
              refine hK _ _ f9 ?_
              clear hK K
              have G9 : Hid (Fr wc x9 (fun _ => False)) := G8.out.none f9
              clear f9 G8
              have k1 : ∀ z, Fr x9 z (fun _ => False) → z.cell? ⟨q1, 0, none⟩ = some (.int .u32 (a : Int)) := fun z hz => (HC.out z (G9.out.none hz)).1.1
              have k2 : ∀ z, Fr x9 z (fun _ => False) → z.cell? ⟨q1, 1, none⟩ = some (.int .u32 (b : Int)) := fun z hz => (HC.out z (G9.out.none hz)).1.2
              have k3 : ∀ z, Fr x9 z (fun _ => False) → z.cell? ⟨q2, 0, none⟩ = some (.int .u32 (a : Int)) := fun z hz => (HC.out z (G9.out.none hz)).2.1
              have k4 : ∀ z, Fr x9 z (fun _ => False) → z.cell? ⟨q2, 1, none⟩ = some (.int .u32 (d : Int)) := fun z hz => (HC.out z (G9.out.none hz)).2.2
              try simp only [Act.put, List.setIfInBounds_toArray, List.set_cons_zero, List.set_cons_succ]
              repeat (refine wpT_take (v := ?_) rfl rfl (fun x hx => ?_) ?_; rotate_left; (focus (go_simp; with_reducible rfl)); simp only [Act.put, List.setIfInBounds_toArray, List.set_cons_zero, List.set_cons_succ])
              unfold wpT
              have Hfo : Hid (Fr w x9 (fun _ => False)) := HfW.out.none G9.out
              clear k1 k2 k3 k4
              go_wp2_with fail
              go_ret
              exact ⟨rfl, ebelow Hfo.out⟩
            · have H1 : Hid (eLess (a, b) (a, d) = false) := decide_eq_false (by dsimp only; omega)
              have H2 : Hid (eLess (a, d) (a, b) = true) := decide_eq_true (.inr ⟨rfl, hlt⟩)
              have H3 : Hid (eRising [(a, b), (a, d)] = false) := by show _ = _; unfold eRising; rw [H1.out]; rfl
              clear hbd hlt
              refine wp_region_tree (fun _ => False) (.take 0 (.take 1 (.take 3 (.take 4 (.one 2 (.one 5 (.take 6 (.take 7 (.take 8 (.take 9 (.take 11 (.take 12 (.one 10 (.one 13 (.take 14 (.take 15 (.take 16 (.take 17 (.take 18 (.one 19 (.take 20 (.take 21 (.take 22 (.take 23 (.take 24 (.take 31 (.take 32 (.take 33 (.one 25 (.take 26 (.take 27 (.take 28 (.one 29 (.take 30 (.take 34 (.take 35 (.take 36 (.take 37 (.take 38 (.take 41 (.take 42 (.one 39 (.one 40 (.one 43 (.take 44 (.take 45 (.take 46 .nil))))))))))))))))))))))))))))))))))))))))))))))) (by kernel_rfl) (by kernel_rfl) (by decide) (by kernel_rfl) ?_
              have G0 : Hid (Fr wc wc.drew (fun _ => False)) := (Fr.refl wc (fun _ => False)).drew
              have k1 : ∀ z, Fr wc.drew z (fun _ => False) → z.cell? ⟨q1, 0, none⟩ = some (.int .u32 (a : Int)) := fun z hz => (HC.out z (G0.out.none hz)).1.1
              have k2 : ∀ z, Fr wc.drew z (fun _ => False) → z.cell? ⟨q1, 1, none⟩ = some (.int .u32 (b : Int)) := fun z hz => (HC.out z (G0.out.none hz)).1.2
              have k3 : ∀ z, Fr wc.drew z (fun _ => False) → z.cell? ⟨q2, 0, none⟩ = some (.int .u32 (a : Int)) := fun z hz => (HC.out z (G0.out.none hz)).2.1
              have k4 : ∀ z, Fr wc.drew z (fun _ => False) → z.cell? ⟨q2, 1, none⟩ = some (.int .u32 (d : Int)) := fun z hz => (HC.out z (G0.out.none hz)).2.2
              repeat (refine wpT_take (v := ?_) rfl rfl (fun x hx => ?_) ?_; rotate_left; (focus (go_simp; with_reducible rfl)); simp only [Act.put, List.setIfInBounds_toArray, List.set_cons_zero, List.set_cons_succ])
              refine wpT_one rfl rfl (fun K hK => ?_)
              clear k1 k2 k3 k4
              go_simp
              refine (M.right a b n wc.drew hab hbb hnb).mono ?_
              rw [← HR.out]
              rintro e x1 ⟨rfl, f1⟩
              refine hK _ _ f1 ?_
              clear hK K
              have G1 : Hid (Fr wc x1 (fun _ => False)) := G0.out.none f1
              clear f1 G0
              have k1 : ∀ z, Fr x1 z (fun _ => False) → z.cell? ⟨q1, 0, none⟩ = some (.int .u32 (a : Int)) := fun z hz => (HC.out z (G1.out.none hz)).1.1
              have k2 : ∀ z, Fr x1 z (fun _ => False) → z.cell? ⟨q1, 1, none⟩ = some (.int .u32 (b : Int)) := fun z hz => (HC.out z (G1.out.none hz)).1.2
              have k3 : ∀ z, Fr x1 z (fun _ => False) → z.cell? ⟨q2, 0, none⟩ = some (.int .u32 (a : Int)) := fun z hz => (HC.out z (G1.out.none hz)).2.1
              have k4 : ∀ z, Fr x1 z (fun _ => False) → z.cell? ⟨q2, 1, none⟩ = some (.int .u32 (d : Int)) := fun z hz => (HC.out z (G1.out.none hz)).2.2
              try simp only [Act.put, List.setIfInBounds_toArray, List.set_cons_zero, List.set_cons_succ]
              repeat (refine wpT_take (v := ?_) rfl rfl (fun x hx => ?_) ?_; rotate_left; (focus (go_simp; with_reducible rfl)); simp only [Act.put, List.setIfInBounds_toArray, List.set_cons_zero, List.set_cons_succ])
              refine wpT_one rfl rfl (fun K hK => ?_)
              clear k1 k2 k3 k4
              go_simp
              refine (refRight8_any a b n x1 hbb).mono ?_
              rw [← HR.out]
              rintro e x2 ⟨rfl, f2⟩
              refine hK _ _ f2 ?_
              clear hK K
              have G2 : Hid (Fr wc x2 (fun _ => False)) := G1.out.none f2
              clear f2 G1
              have k1 : ∀ z, Fr x2 z (fun _ => False) → z.cell? ⟨q1, 0, none⟩ = some (.int .u32 (a : Int)) := fun z hz => (HC.out z (G2.out.none hz)).1.1
              have k2 : ∀ z, Fr x2 z (fun _ => False) → z.cell? ⟨q1, 1, none⟩ = some (.int .u32 (b : Int)) := fun z hz => (HC.out z (G2.out.none hz)).1.2
              have k3 : ∀ z, Fr x2 z (fun _ => False) → z.cell? ⟨q2, 0, none⟩ = some (.int .u32 (a : Int)) := fun z hz => (HC.out z (G2.out.none hz)).2.1
              have k4 : ∀ z, Fr x2 z (fun _ => False) → z.cell? ⟨q2, 1, none⟩ = some (.int .u32 (d : Int)) := fun z hz => (HC.out z (G2.out.none hz)).2.2
              try simp only [Act.put, List.setIfInBounds_toArray, List.set_cons_zero, List.set_cons_succ]
              repeat (refine wpT_take (v := ?_) rfl rfl (fun x hx => ?_) ?_; rotate_left; (focus (go_simp; with_reducible rfl)); simp only [Act.put, List.setIfInBounds_toArray, List.set_cons_zero, List.set_cons_succ])
              refine wpT_one rfl rfl (fun K hK => ?_)
              clear k1 k2 k3 k4
              go_simp
              refine (M.less (a, b) (a, d) x2 hab hbb hab hdb).mono ?_
              rw [H1.out]
              rintro e x3 ⟨rfl, f3⟩
              refine hK _ _ f3 ?_
              clear hK K
              have G3 : Hid (Fr wc x3 (fun _ => False)) := G2.out.none f3
              clear f3 G2
              have k1 : ∀ z, Fr x3 z (fun _ => False) → z.cell? ⟨q1, 0, none⟩ = some (.int .u32 (a : Int)) := fun z hz => (HC.out z (G3.out.none hz)).1.1
              have k2 : ∀ z, Fr x3 z (fun _ => False) → z.cell? ⟨q1, 1, none⟩ = some (.int .u32 (b : Int)) := fun z hz => (HC.out z (G3.out.none hz)).1.2
              have k3 : ∀ z, Fr x3 z (fun _ => False) → z.cell? ⟨q2, 0, none⟩ = some (.int .u32 (a : Int)) := fun z hz => (HC.out z (G3.out.none hz)).2.1
              have k4 : ∀ z, Fr x3 z (fun _ => False) → z.cell? ⟨q2, 1, none⟩ = some (.int .u32 (d : Int)) := fun z hz => (HC.out z (G3.out.none hz)).2.2
              try simp only [Act.put, List.setIfInBounds_toArray, List.set_cons_zero, List.set_cons_succ]
              repeat (refine wpT_take (v := ?_) rfl rfl (fun x hx => ?_) ?_; rotate_left; (focus (go_simp; with_reducible rfl)); simp only [Act.put, List.setIfInBounds_toArray, List.set_cons_zero, List.set_cons_succ])
              refine wpT_one rfl rfl (fun K hK => ?_)
              clear k1 k2 k3 k4
              go_simp
              refine (refLess8_any (a, b) (a, d) x3).mono ?_
              rw [H1.out]
              rintro e x4 ⟨rfl, f4⟩
              refine hK _ _ f4 ?_
              clear hK K
              have G4 : Hid (Fr wc x4 (fun _ => False)) := G3.out.none f4
              clear f4 G3
              have k1 : ∀ z, Fr x4 z (fun _ => False) → z.cell? ⟨q1, 0, none⟩ = some (.int .u32 (a : Int)) := fun z hz => (HC.out z (G4.out.none hz)).1.1
              have k2 : ∀ z, Fr x4 z (fun _ => False) → z.cell? ⟨q1, 1, none⟩ = some (.int .u32 (b : Int)) := fun z hz => (HC.out z (G4.out.none hz)).1.2
              have k3 : ∀ z, Fr x4 z (fun _ => False) → z.cell? ⟨q2, 0, none⟩ = some (.int .u32 (a : Int)) := fun z hz => (HC.out z (G4.out.none hz)).2.1
              have k4 : ∀ z, Fr x4 z (fun _ => False) → z.cell? ⟨q2, 1, none⟩ = some (.int .u32 (d : Int)) := fun z hz => (HC.out z (G4.out.none hz)).2.2
              try simp only [Act.put, List.setIfInBounds_toArray, List.set_cons_zero, List.set_cons_succ]
              repeat (refine wpT_take (v := ?_) rfl rfl (fun x hx => ?_) ?_; rotate_left; (focus (go_simp; with_reducible rfl)); simp only [Act.put, List.setIfInBounds_toArray, List.set_cons_zero, List.set_cons_succ])
              refine wpT_one rfl rfl (fun K hK => ?_)
              clear k1 k2 k3 k4
              go_simp
              refine (M.less (a, b) (a, b) x4 hab hbb hab hbb).mono ?_
              rw [HLs.out]
              rintro e x5 ⟨rfl, f5⟩
              refine hK _ _ f5 ?_
              clear hK K
              have G5 : Hid (Fr wc x5 (fun _ => False)) := G4.out.none f5
              clear f5 G4
              have k1 : ∀ z, Fr x5 z (fun _ => False) → z.cell? ⟨q1, 0, none⟩ = some (.int .u32 (a : Int)) := fun z hz => (HC.out z (G5.out.none hz)).1.1
              have k2 : ∀ z, Fr x5 z (fun _ => False) → z.cell? ⟨q1, 1, none⟩ = some (.int .u32 (b : Int)) := fun z hz => (HC.out z (G5.out.none hz)).1.2
              have k3 : ∀ z, Fr x5 z (fun _ => False) → z.cell? ⟨q2, 0, none⟩ = some (.int .u32 (a : Int)) := fun z hz => (HC.out z (G5.out.none hz)).2.1
              have k4 : ∀ z, Fr x5 z (fun _ => False) → z.cell? ⟨q2, 1, none⟩ = some (.int .u32 (d : Int)) := fun z hz => (HC.out z (G5.out.none hz)).2.2
              try simp only [Act.put, List.setIfInBounds_toArray, List.set_cons_zero, List.set_cons_succ]
              repeat (refine wpT_take (v := ?_) rfl rfl (fun x hx => ?_) ?_; rotate_left; (focus (go_simp; with_reducible rfl)); simp only [Act.put, List.setIfInBounds_toArray, List.set_cons_zero, List.set_cons_succ])
              refine wpT_one rfl rfl (fun K hK => ?_)
              clear k1 k2 k3 k4
              go_simp
              refine (M.less (a, b) (a, d) x5 hab hbb hab hdb).mono ?_
              rw [H1.out]
              rintro e x6 ⟨rfl, f6⟩
              refine hK _ _ f6 ?_
              clear hK K
              have G6 : Hid (Fr wc x6 (fun _ => False)) := G5.out.none f6
              clear f6 G5
              have k1 : ∀ z, Fr x6 z (fun _ => False) → z.cell? ⟨q1, 0, none⟩ = some (.int .u32 (a : Int)) := fun z hz => (HC.out z (G6.out.none hz)).1.1
              have k2 : ∀ z, Fr x6 z (fun _ => False) → z.cell? ⟨q1, 1, none⟩ = some (.int .u32 (b : Int)) := fun z hz => (HC.out z (G6.out.none hz)).1.2
              have k3 : ∀ z, Fr x6 z (fun _ => False) → z.cell? ⟨q2, 0, none⟩ = some (.int .u32 (a : Int)) := fun z hz => (HC.out z (G6.out.none hz)).2.1
              have k4 : ∀ z, Fr x6 z (fun _ => False) → z.cell? ⟨q2, 1, none⟩ = some (.int .u32 (d : Int)) := fun z hz => (HC.out z (G6.out.none hz)).2.2
              try simp only [Act.put, List.setIfInBounds_toArray, List.set_cons_zero, List.set_cons_succ]
              repeat (refine wpT_take (v := ?_) rfl rfl (fun x hx => ?_) ?_; rotate_left; (focus (go_simp; with_reducible rfl)); simp only [Act.put, List.setIfInBounds_toArray, List.set_cons_zero, List.set_cons_succ])
              refine wpT_one rfl rfl (fun K hK => ?_)
              clear k1 k2 k3 k4
              go_simp
              refine (M.less (a, d) (a, b) x6 hab hdb hab hbb).mono ?_
              rw [H2.out]
              rintro e x7 ⟨rfl, f7⟩
              refine hK _ _ f7 ?_
              clear hK K
              have G7 : Hid (Fr wc x7 (fun _ => False)) := G6.out.none f7
              clear f7 G6
              have k1 : ∀ z, Fr x7 z (fun _ => False) → z.cell? ⟨q1, 0, none⟩ = some (.int .u32 (a : Int)) := fun z hz => (HC.out z (G7.out.none hz)).1.1
              have k2 : ∀ z, Fr x7 z (fun _ => False) → z.cell? ⟨q1, 1, none⟩ = some (.int .u32 (b : Int)) := fun z hz => (HC.out z (G7.out.none hz)).1.2
              have k3 : ∀ z, Fr x7 z (fun _ => False) → z.cell? ⟨q2, 0, none⟩ = some (.int .u32 (a : Int)) := fun z hz => (HC.out z (G7.out.none hz)).2.1
              have k4 : ∀ z, Fr x7 z (fun _ => False) → z.cell? ⟨q2, 1, none⟩ = some (.int .u32 (d : Int)) := fun z hz => (HC.out z (G7.out.none hz)).2.2
              try simp only [Act.put, List.setIfInBounds_toArray, List.set_cons_zero, List.set_cons_succ]
              repeat (refine wpT_take (v := ?_) rfl rfl (fun x hx => ?_) ?_; rotate_left; (focus (go_simp; with_reducible rfl)); simp only [Act.put, List.setIfInBounds_toArray, List.set_cons_zero, List.set_cons_succ])
              refine wpT_one rfl rfl (fun K hK => ?_)
              go_simp
              refine hK _ _ ((Fr.refl _ _).alloc _) ?_
              clear hK K k1 k2 k3 k4
              obtain ⟨X, hX⟩ : ∃ X, X = x7.alloc (.cells #[.int .u32 (a : Int), .int .u32 (b : Int), .int .u32 (a : Int), .int .u32 (d : Int)] 26) := ⟨_, rfl⟩
              have G8 : Hid (Fr wc X (fun _ => False)) := by rw [hX]; exact G7.out.alloc _
              have B : Hid (RdE X (.slice (some ⟨x7.heap.size, 0, none⟩) 2 2) [(a, b), (a, d)]) := by show RdE _ _ _; rw [hX]; exact elit x7 [(a, b), (a, d)] _ _ rfl rfl (by simp)
              rw [← hX]
              clear hX
              have k1 : ∀ z, Fr X z (fun _ => False) → z.cell? ⟨q1, 0, none⟩ = some (.int .u32 (a : Int)) := fun z hz => (HC.out z (G8.out.none hz)).1.1
              have k2 : ∀ z, Fr X z (fun _ => False) → z.cell? ⟨q1, 1, none⟩ = some (.int .u32 (b : Int)) := fun z hz => (HC.out z (G8.out.none hz)).1.2
              have k3 : ∀ z, Fr X z (fun _ => False) → z.cell? ⟨q2, 0, none⟩ = some (.int .u32 (a : Int)) := fun z hz => (HC.out z (G8.out.none hz)).2.1
              have k4 : ∀ z, Fr X z (fun _ => False) → z.cell? ⟨q2, 1, none⟩ = some (.int .u32 (d : Int)) := fun z hz => (HC.out z (G8.out.none hz)).2.2
              try simp only [Act.put, List.setIfInBounds_toArray, List.set_cons_zero, List.set_cons_succ]
              refine wpT_one rfl rfl (fun K hK => ?_)
              clear k1 k2 k3 k4
              go_simp
              refine (M.rising _ [(a, b), (a, d)] X B.out (by simp; omega) (by simp)).mono ?_
              rw [H3.out]
              rintro e x9 ⟨rfl, f9⟩
              refine hK _ _ f9 ?_
              clear hK K
              have G9 : Hid (Fr wc x9 (fun _ => False)) := G8.out.none f9
              clear f9 G8
              have k1 : ∀ z, Fr x9 z (fun _ => False) → z.cell? ⟨q1, 0, none⟩ = some (.int .u32 (a : Int)) := fun z hz => (HC.out z (G9.out.none hz)).1.1
              have k2 : ∀ z, Fr x9 z (fun _ => False) → z.cell? ⟨q1, 1, none⟩ = some (.int .u32 (b : Int)) := fun z hz => (HC.out z (G9.out.none hz)).1.2
              have k3 : ∀ z, Fr x9 z (fun _ => False) → z.cell? ⟨q2, 0, none⟩ = some (.int .u32 (a : Int)) := fun z hz => (HC.out z (G9.out.none hz)).2.1
              have k4 : ∀ z, Fr x9 z (fun _ => False) → z.cell? ⟨q2, 1, none⟩ = some (.int .u32 (d : Int)) := fun z hz => (HC.out z (G9.out.none hz)).2.2
              try simp only [Act.put, List.setIfInBounds_toArray, List.set_cons_zero, List.set_cons_succ]
              repeat (refine wpT_take (v := ?_) rfl rfl (fun x hx => ?_) ?_; rotate_left; (focus (go_simp; with_reducible rfl)); simp only [Act.put, List.setIfInBounds_toArray, List.set_cons_zero, List.set_cons_succ])
              refine wpT_one rfl rfl (fun K hK => ?_)
              clear k1 k2 k3 k4
              go_simp
              refine (refLess8_any (a, b) (a, d) x9).mono ?_
              rw [H1.out]
              rintro e x10 ⟨rfl, f10⟩
              refine hK _ _ f10 ?_
              clear hK K
              have G10 : Hid (Fr wc x10 (fun _ => False)) := G9.out.none f10
              clear f10 G9
              have k1 : ∀ z, Fr x10 z (fun _ => False) → z.cell? ⟨q1, 0, none⟩ = some (.int .u32 (a : Int)) := fun z hz => (HC.out z (G10.out.none hz)).1.1
              have k2 : ∀ z, Fr x10 z (fun _ => False) → z.cell? ⟨q1, 1, none⟩ = some (.int .u32 (b : Int)) := fun z hz => (HC.out z (G10.out.none hz)).1.2
              have k3 : ∀ z, Fr x10 z (fun _ => False) → z.cell? ⟨q2, 0, none⟩ = some (.int .u32 (a : Int)) := fun z hz => (HC.out z (G10.out.none hz)).2.1
              have k4 : ∀ z, Fr x10 z (fun _ => False) → z.cell? ⟨q2, 1, none⟩ = some (.int .u32 (d : Int)) := fun z hz => (HC.out z (G10.out.none hz)).2.2
              try simp only [Act.put, List.setIfInBounds_toArray, List.set_cons_zero, List.set_cons_succ]
              repeat (refine wpT_take (v := ?_) rfl rfl (fun x hx => ?_) ?_; rotate_left; (focus (go_simp; with_reducible rfl)); simp only [Act.put, List.setIfInBounds_toArray, List.set_cons_zero, List.set_cons_succ])
              unfold wpT
              have Hfo : Hid (Fr w x10 (fun _ => False)) := HfW.out.none G10.out
              clear k1 k2 k3 k4
              go_wp2_with fail
              go_ret
              exact ⟨rfl, ebelow Hfo.out⟩
        · have n1 : ((a : Int) == (c : Int)) = false := by rw [beq_eq_false_iff_ne]; omega
          have n2 : ((a : Int) != (c : Int)) = true := by rw [bne_iff_ne]; omega
          rcases Nat.lt_or_gt_of_ne hac with hlt | hlt
          · have H1 : Hid (eLess (a, b) (c, d) = true) := decide_eq_true (.inl hlt)
            have H3 : Hid (eRising [(a, b), (c, d)] = true) := by show _ = _; unfold eRising; rw [H1.out]; rfl
            clear hac hlt
            refine wp_region_tree (fun _ => False) (.take 0 (.take 1 (.take 3 (.take 4 (.one 2 (.one 5 (.take 6 (.take 7 (.take 8 (.take 9 (.take 11 (.take 12 (.one 10 (.one 13 (.take 14 (.take 15 (.take 16 (.take 17 (.take 18 (.one 19 (.take 20 (.take 21 (.take 22 (.take 23 (.take 24 (.take 31 (.take 32 (.take 33 (.one 25 (.take 26 (.take 27 (.take 28 (.one 29 (.take 30 (.take 34 (.take 35 (.take 36 (.take 37 (.take 38 (.take 41 (.take 42 (.one 39 (.one 40 (.one 43 (.take 44 (.take 45 (.take 46 .nil))))))))))))))))))))))))))))))))))))))))))))))) (by kernel_rfl) (by kernel_rfl) (by decide) (by kernel_rfl) ?_
            have G0 : Hid (Fr wc wc.drew (fun _ => False)) := (Fr.refl wc (fun _ => False)).drew
            have k1 : ∀ z, Fr wc.drew z (fun _ => False) → z.cell? ⟨q1, 0, none⟩ = some (.int .u32 (a : Int)) := fun z hz => (HC.out z (G0.out.none hz)).1.1
            have k2 : ∀ z, Fr wc.drew z (fun _ => False) → z.cell? ⟨q1, 1, none⟩ = some (.int .u32 (b : Int)) := fun z hz => (HC.out z (G0.out.none hz)).1.2
            have k3 : ∀ z, Fr wc.drew z (fun _ => False) → z.cell? ⟨q2, 0, none⟩ = some (.int .u32 (c : Int)) := fun z hz => (HC.out z (G0.out.none hz)).2.1
            have k4 : ∀ z, Fr wc.drew z (fun _ => False) → z.cell? ⟨q2, 1, none⟩ = some (.int .u32 (d : Int)) := fun z hz => (HC.out z (G0.out.none hz)).2.2
            repeat (refine wpT_take (v := ?_) rfl rfl (fun x hx => ?_) ?_; rotate_left; (focus (go_simp; with_reducible rfl)); simp only [Act.put, List.setIfInBounds_toArray, List.set_cons_zero, List.set_cons_succ])
            refine wpT_one rfl rfl (fun K hK => ?_)
            clear k1 k2 k3 k4
            go_simp
            refine (M.right a b n wc.drew hab hbb hnb).mono ?_
            rw [← HR.out]
            rintro e x1 ⟨rfl, f1⟩
            refine hK _ _ f1 ?_
            clear hK K
            have G1 : Hid (Fr wc x1 (fun _ => False)) := G0.out.none f1
            clear f1 G0
            have k1 : ∀ z, Fr x1 z (fun _ => False) → z.cell? ⟨q1, 0, none⟩ = some (.int .u32 (a : Int)) := fun z hz => (HC.out z (G1.out.none hz)).1.1
            have k2 : ∀ z, Fr x1 z (fun _ => False) → z.cell? ⟨q1, 1, none⟩ = some (.int .u32 (b : Int)) := fun z hz => (HC.out z (G1.out.none hz)).1.2
            have k3 : ∀ z, Fr x1 z (fun _ => False) → z.cell? ⟨q2, 0, none⟩ = some (.int .u32 (c : Int)) := fun z hz => (HC.out z (G1.out.none hz)).2.1
            have k4 : ∀ z, Fr x1 z (fun _ => False) → z.cell? ⟨q2, 1, none⟩ = some (.int .u32 (d : Int)) := fun z hz => (HC.out z (G1.out.none hz)).2.2
            try simp only [Act.put, List.setIfInBounds_toArray, List.set_cons_zero, List.set_cons_succ]
            repeat (refine wpT_take (v := ?_) rfl rfl (fun x hx => ?_) ?_; rotate_left; (focus (go_simp; with_reducible rfl)); simp only [Act.put, List.setIfInBounds_toArray, List.set_cons_zero, List.set_cons_succ])
            refine wpT_one rfl rfl (fun K hK => ?_)
            clear k1 k2 k3 k4
            go_simp
            refine (refRight8_any a b n x1 hbb).mono ?_
            rw [← HR.out]
            rintro e x2 ⟨rfl, f2⟩
            refine hK _ _ f2 ?_
            clear hK K
            have G2 : Hid (Fr wc x2 (fun _ => False)) := G1.out.none f2
            clear f2 G1
            have k1 : ∀ z, Fr x2 z (fun _ => False) → z.cell? ⟨q1, 0, none⟩ = some (.int .u32 (a : Int)) := fun z hz => (HC.out z (G2.out.none hz)).1.1
            have k2 : ∀ z, Fr x2 z (fun _ => False) → z.cell? ⟨q1, 1, none⟩ = some (.int .u32 (b : Int)) := fun z hz => (HC.out z (G2.out.none hz)).1.2
            have k3 : ∀ z, Fr x2 z (fun _ => False) → z.cell? ⟨q2, 0, none⟩ = some (.int .u32 (c : Int)) := fun z hz => (HC.out z (G2.out.none hz)).2.1
            have k4 : ∀ z, Fr x2 z (fun _ => False) → z.cell? ⟨q2, 1, none⟩ = some (.int .u32 (d : Int)) := fun z hz => (HC.out z (G2.out.none hz)).2.2
            try simp only [Act.put, List.setIfInBounds_toArray, List.set_cons_zero, List.set_cons_succ]
            repeat (refine wpT_take (v := ?_) rfl rfl (fun x hx => ?_) ?_; rotate_left; (focus (go_simp; with_reducible rfl)); simp only [Act.put, List.setIfInBounds_toArray, List.set_cons_zero, List.set_cons_succ])
            refine wpT_one rfl rfl (fun K hK => ?_)
            clear k1 k2 k3 k4
            go_simp
            refine (M.less (a, b) (c, d) x2 hab hbb hcb hdb).mono ?_
            rw [H1.out]
            rintro e x3 ⟨rfl, f3⟩
            refine hK _ _ f3 ?_
            clear hK K
            have G3 : Hid (Fr wc x3 (fun _ => False)) := G2.out.none f3
            clear f3 G2
            have k1 : ∀ z, Fr x3 z (fun _ => False) → z.cell? ⟨q1, 0, none⟩ = some (.int .u32 (a : Int)) := fun z hz => (HC.out z (G3.out.none hz)).1.1
            have k2 : ∀ z, Fr x3 z (fun _ => False) → z.cell? ⟨q1, 1, none⟩ = some (.int .u32 (b : Int)) := fun z hz => (HC.out z (G3.out.none hz)).1.2
            have k3 : ∀ z, Fr x3 z (fun _ => False) → z.cell? ⟨q2, 0, none⟩ = some (.int .u32 (c : Int)) := fun z hz => (HC.out z (G3.out.none hz)).2.1
            have k4 : ∀ z, Fr x3 z (fun _ => False) → z.cell? ⟨q2, 1, none⟩ = some (.int .u32 (d : Int)) := fun z hz => (HC.out z (G3.out.none hz)).2.2
            try simp only [Act.put, List.setIfInBounds_toArray, List.set_cons_zero, List.set_cons_succ]
            repeat (refine wpT_take (v := ?_) rfl rfl (fun x hx => ?_) ?_; rotate_left; (focus (go_simp; with_reducible rfl)); simp only [Act.put, List.setIfInBounds_toArray, List.set_cons_zero, List.set_cons_succ])
            refine wpT_one rfl rfl (fun K hK => ?_)
            clear k1 k2 k3 k4
            go_simp
            refine (refLess8_any (a, b) (c, d) x3).mono ?_
            rw [H1.out]
            rintro e x4 ⟨rfl, f4⟩
            refine hK _ _ f4 ?_
            clear hK K
            have G4 : Hid (Fr wc x4 (fun _ => False)) := G3.out.none f4
            clear f4 G3
            have k1 : ∀ z, Fr x4 z (fun _ => False) → z.cell? ⟨q1, 0, none⟩ = some (.int .u32 (a : Int)) := fun z hz => (HC.out z (G4.out.none hz)).1.1
            have k2 : ∀ z, Fr x4 z (fun _ => False) → z.cell? ⟨q1, 1, none⟩ = some (.int .u32 (b : Int)) := fun z hz => (HC.out z (G4.out.none hz)).1.2
            have k3 : ∀ z, Fr x4 z (fun _ => False) → z.cell? ⟨q2, 0, none⟩ = some (.int .u32 (c : Int)) := fun z hz => (HC.out z (G4.out.none hz)).2.1
            have k4 : ∀ z, Fr x4 z (fun _ => False) → z.cell? ⟨q2, 1, none⟩ = some (.int .u32 (d : Int)) := fun z hz => (HC.out z (G4.out.none hz)).2.2
            try simp only [Act.put, List.setIfInBounds_toArray, List.set_cons_zero, List.set_cons_succ]
            repeat (refine wpT_take (v := ?_) rfl rfl (fun x hx => ?_) ?_; rotate_left; (focus (go_simp; with_reducible rfl)); simp only [Act.put, List.setIfInBounds_toArray, List.set_cons_zero, List.set_cons_succ])
            refine wpT_one rfl rfl (fun K hK => ?_)
            clear k1 k2 k3 k4
            go_simp
            refine (M.less (a, b) (a, b) x4 hab hbb hab hbb).mono ?_
            rw [HLs.out]
            rintro e x5 ⟨rfl, f5⟩
            refine hK _ _ f5 ?_
            clear hK K
            have G5 : Hid (Fr wc x5 (fun _ => False)) := G4.out.none f5
            clear f5 G4
            have k1 : ∀ z, Fr x5 z (fun _ => False) → z.cell? ⟨q1, 0, none⟩ = some (.int .u32 (a : Int)) := fun z hz => (HC.out z (G5.out.none hz)).1.1
            have k2 : ∀ z, Fr x5 z (fun _ => False) → z.cell? ⟨q1, 1, none⟩ = some (.int .u32 (b : Int)) := fun z hz => (HC.out z (G5.out.none hz)).1.2
            have k3 : ∀ z, Fr x5 z (fun _ => False) → z.cell? ⟨q2, 0, none⟩ = some (.int .u32 (c : Int)) := fun z hz => (HC.out z (G5.out.none hz)).2.1
            have k4 : ∀ z, Fr x5 z (fun _ => False) → z.cell? ⟨q2, 1, none⟩ = some (.int .u32 (d : Int)) := fun z hz => (HC.out z (G5.out.none hz)).2.2
            try simp only [Act.put, List.setIfInBounds_toArray, List.set_cons_zero, List.set_cons_succ]
            repeat (refine wpT_take (v := ?_) rfl rfl (fun x hx => ?_) ?_; rotate_left; (focus (go_simp; with_reducible rfl)); simp only [Act.put, List.setIfInBounds_toArray, List.set_cons_zero, List.set_cons_succ])
            refine wpT_one rfl rfl (fun K hK => ?_)
            clear k1 k2 k3 k4
            go_simp
            refine (M.less (a, b) (c, d) x5 hab hbb hcb hdb).mono ?_
            rw [H1.out]
            rintro e x6 ⟨rfl, f6⟩
            refine hK _ _ f6 ?_
            clear hK K
            have G6 : Hid (Fr wc x6 (fun _ => False)) := G5.out.none f6
            clear f6 G5
            have k1 : ∀ z, Fr x6 z (fun _ => False) → z.cell? ⟨q1, 0, none⟩ = some (.int .u32 (a : Int)) := fun z hz => (HC.out z (G6.out.none hz)).1.1
            have k2 : ∀ z, Fr x6 z (fun _ => False) → z.cell? ⟨q1, 1, none⟩ = some (.int .u32 (b : Int)) := fun z hz => (HC.out z (G6.out.none hz)).1.2
            have k3 : ∀ z, Fr x6 z (fun _ => False) → z.cell? ⟨q2, 0, none⟩ = some (.int .u32 (c : Int)) := fun z hz => (HC.out z (G6.out.none hz)).2.1
            have k4 : ∀ z, Fr x6 z (fun _ => False) → z.cell? ⟨q2, 1, none⟩ = some (.int .u32 (d : Int)) := fun z hz => (HC.out z (G6.out.none hz)).2.2
            try simp only [Act.put, List.setIfInBounds_toArray, List.set_cons_zero, List.set_cons_succ]
            repeat (refine wpT_take (v := ?_) rfl rfl (fun x hx => ?_) ?_; rotate_left; (focus (go_simp; with_reducible rfl)); simp only [Act.put, List.setIfInBounds_toArray, List.set_cons_zero, List.set_cons_succ])
            refine wpT_pass rfl rfl ?_; simp only [Act.put, List.setIfInBounds_toArray, List.set_cons_zero, List.set_cons_succ]
            refine wpT_pass rfl rfl ?_; simp only [Act.put, List.setIfInBounds_toArray, List.set_cons_zero, List.set_cons_succ]
            refine wpT_skip rfl rfl ?_; simp only [Act.put, List.setIfInBounds_toArray, List.set_cons_zero, List.set_cons_succ]
            repeat (refine wpT_take (v := ?_) rfl rfl (fun x hx => ?_) ?_; rotate_left; (focus (go_simp; with_reducible rfl)); simp only [Act.put, List.setIfInBounds_toArray, List.set_cons_zero, List.set_cons_succ])
            refine wpT_one rfl rfl (fun K hK => ?_)
            go_simp
            refine hK _ _ ((Fr.refl _ _).alloc _) ?_
            clear hK K k1 k2 k3 k4
            obtain ⟨X, hX⟩ : ∃ X, X = x6.alloc (.cells #[.int .u32 (a : Int), .int .u32 (b : Int), .int .u32 (c : Int), .int .u32 (d : Int)] 26) := ⟨_, rfl⟩
            have G7 : Hid (Fr wc X (fun _ => False)) := by rw [hX]; exact G6.out.alloc _
            have B : Hid (RdE X (.slice (some ⟨x6.heap.size, 0, none⟩) 2 2) [(a, b), (c, d)]) := by show RdE _ _ _; rw [hX]; exact elit x6 [(a, b), (c, d)] _ _ rfl rfl (by simp)
            rw [← hX]
            clear hX
            have k1 : ∀ z, Fr X z (fun _ => False) → z.cell? ⟨q1, 0, none⟩ = some (.int .u32 (a : Int)) := fun z hz => (HC.out z (G7.out.none hz)).1.1
            have k2 : ∀ z, Fr X z (fun _ => False) → z.cell? ⟨q1, 1, none⟩ = some (.int .u32 (b : Int)) := fun z hz => (HC.out z (G7.out.none hz)).1.2
            have k3 : ∀ z, Fr X z (fun _ => False) → z.cell? ⟨q2, 0, none⟩ = some (.int .u32 (c : Int)) := fun z hz => (HC.out z (G7.out.none hz)).2.1
            have k4 : ∀ z, Fr X z (fun _ => False) → z.cell? ⟨q2, 1, none⟩ = some (.int .u32 (d : Int)) := fun z hz => (HC.out z (G7.out.none hz)).2.2
            try simp only [Act.put, List.setIfInBounds_toArray, List.set_cons_zero, List.set_cons_succ]
            refine wpT_one rfl rfl (fun K hK => ?_)
            clear k1 k2 k3 k4
            go_simp
            refine (M.rising _ [(a, b), (c, d)] X B.out (by simp; omega) (by simp)).mono ?_
            rw [H3.out]
            rintro e x8 ⟨rfl, f8⟩
            refine hK _ _ f8 ?_
            clear hK K
            have G8 : Hid (Fr wc x8 (fun _ => False)) := G7.out.none f8
            clear f8 G7
            have k1 : ∀ z, Fr x8 z (fun _ => False) → z.cell? ⟨q1, 0, none⟩ = some (.int .u32 (a : Int)) := fun z hz => (HC.out z (G8.out.none hz)).1.1
            have k2 : ∀ z, Fr x8 z (fun _ => False) → z.cell? ⟨q1, 1, none⟩ = some (.int .u32 (b : Int)) := fun z hz => (HC.out z (G8.out.none hz)).1.2
            have k3 : ∀ z, Fr x8 z (fun _ => False) → z.cell? ⟨q2, 0, none⟩ = some (.int .u32 (c : Int)) := fun z hz => (HC.out z (G8.out.none hz)).2.1
            have k4 : ∀ z, Fr x8 z (fun _ => False) → z.cell? ⟨q2, 1, none⟩ = some (.int .u32 (d : Int)) := fun z hz => (HC.out z (G8.out.none hz)).2.2
            try simp only [Act.put, List.setIfInBounds_toArray, List.set_cons_zero, List.set_cons_succ]
            repeat (refine wpT_take (v := ?_) rfl rfl (fun x hx => ?_) ?_; rotate_left; (focus (go_simp; with_reducible rfl)); simp only [Act.put, List.setIfInBounds_toArray, List.set_cons_zero, List.set_cons_succ])
            refine wpT_one rfl rfl (fun K hK => ?_)
            clear k1 k2 k3 k4
            go_simp
            refine (refLess8_any (a, b) (c, d) x8).mono ?_
            rw [H1.out]
            rintro e x9 ⟨rfl, f9⟩
            refine hK _ _ f9 ?_
            clear hK K
            have G9 : Hid (Fr wc x9 (fun _ => False)) := G8.out.none f9
            clear f9 G8
            have k1 : ∀ z, Fr x9 z (fun _ => False) → z.cell? ⟨q1, 0, none⟩ = some (.int .u32 (a : Int)) := fun z hz => (HC.out z (G9.out.none hz)).1.1
            have k2 : ∀ z, Fr x9 z (fun _ => False) → z.cell? ⟨q1, 1, none⟩ = some (.int .u32 (b : Int)) := fun z hz => (HC.out z (G9.out.none hz)).1.2
            have k3 : ∀ z, Fr x9 z (fun _ => False) → z.cell? ⟨q2, 0, none⟩ = some (.int .u32 (c : Int)) := fun z hz => (HC.out z (G9.out.none hz)).2.1
            have k4 : ∀ z, Fr x9 z (fun _ => False) → z.cell? ⟨q2, 1, none⟩ = some (.int .u32 (d : Int)) := fun z hz => (HC.out z (G9.out.none hz)).2.2
            try simp only [Act.put, List.setIfInBounds_toArray, List.set_cons_zero, List.set_cons_succ]
            repeat (refine wpT_take (v := ?_) rfl rfl (fun x hx => ?_) ?_; rotate_left; (focus (go_simp; with_reducible rfl)); simp only [Act.put, List.setIfInBounds_toArray, List.set_cons_zero, List.set_cons_succ])
            unfold wpT
            have Hfo : Hid (Fr w x9 (fun _ => False)) := HfW.out.none G9.out
            clear k1 k2 k3 k4
            go_wp2_with fail
            go_ret
            exact ⟨rfl, ebelow Hfo.out⟩
          · have H1 : Hid (eLess (a, b) (c, d) = false) := decide_eq_false (by dsimp only; omega)
            have H2 : Hid (eLess (c, d) (a, b) = true) := decide_eq_true (.inl hlt)
            have H3 : Hid (eRising [(a, b), (c, d)] = false) := by show _ = _; unfold eRising; rw [H1.out]; rfl
            clear hac hlt
            refine wp_region_tree (fun _ => False) (.take 0 (.take 1 (.take 3 (.take 4 (.one 2 (.one 5 (.take 6 (.take 7 (.take 8 (.take 9 (.take 11 (.take 12 (.one 10 (.one 13 (.take 14 (.take 15 (.take 16 (.take 17 (.take 18 (.one 19 (.take 20 (.take 21 (.take 22 (.take 23 (.take 24 (.take 31 (.take 32 (.take 33 (.one 25 (.take 26 (.take 27 (.take 28 (.one 29 (.take 30 (.take 34 (.take 35 (.take 36 (.take 37 (.take 38 (.take 41 (.take 42 (.one 39 (.one 40 (.one 43 (.take 44 (.take 45 (.take 46 .nil))))))))))))))))))))))))))))))))))))))))))))))) (by kernel_rfl) (by kernel_rfl) (by decide) (by kernel_rfl) ?_
            have G0 : Hid (Fr wc wc.drew (fun _ => False)) := (Fr.refl wc (fun _ => False)).drew
            have k1 : ∀ z, Fr wc.drew z (fun _ => False) → z.cell? ⟨q1, 0, none⟩ = some (.int .u32 (a : Int)) := fun z hz => (HC.out z (G0.out.none hz)).1.1
            have k2 : ∀ z, Fr wc.drew z (fun _ => False) → z.cell? ⟨q1, 1, none⟩ = some (.int .u32 (b : Int)) := fun z hz => (HC.out z (G0.out.none hz)).1.2
            have k3 : ∀ z, Fr wc.drew z (fun _ => False) → z.cell? ⟨q2, 0, none⟩ = some (.int .u32 (c : Int)) := fun z hz => (HC.out z (G0.out.none hz)).2.1
            have k4 : ∀ z, Fr wc.drew z (fun _ => False) → z.cell? ⟨q2, 1, none⟩ = some (.int .u32 (d : Int)) := fun z hz => (HC.out z (G0.out.none hz)).2.2
            repeat (refine wpT_take (v := ?_) rfl rfl (fun x hx => ?_) ?_; rotate_left; (focus (go_simp; with_reducible rfl)); simp only [Act.put, List.setIfInBounds_toArray, List.set_cons_zero, List.set_cons_succ])
            refine wpT_one rfl rfl (fun K hK => ?_)
            clear k1 k2 k3 k4
            go_simp
            refine (M.right a b n wc.drew hab hbb hnb).mono ?_
            rw [← HR.out]
            rintro e x1 ⟨rfl, f1⟩
            refine hK _ _ f1 ?_
            clear hK K
            have G1 : Hid (Fr wc x1 (fun _ => False)) := G0.out.none f1
            clear f1 G0
            have k1 : ∀ z, Fr x1 z (fun _ => False) → z.cell? ⟨q1, 0, none⟩ = some (.int .u32 (a : Int)) := fun z hz => (HC.out z (G1.out.none hz)).1.1
            have k2 : ∀ z, Fr x1 z (fun _ => False) → z.cell? ⟨q1, 1, none⟩ = some (.int .u32 (b : Int)) := fun z hz => (HC.out z (G1.out.none hz)).1.2
            have k3 : ∀ z, Fr x1 z (fun _ => False) → z.cell? ⟨q2, 0, none⟩ = some (.int .u32 (c : Int)) := fun z hz => (HC.out z (G1.out.none hz)).2.1
            have k4 : ∀ z, Fr x1 z (fun _ => False) → z.cell? ⟨q2, 1, none⟩ = some (.int .u32 (d : Int)) := fun z hz => (HC.out z (G1.out.none hz)).2.2
            try simp only [Act.put, List.setIfInBounds_toArray, List.set_cons_zero, List.set_cons_succ]
            repeat (refine wpT_take (v := ?_) rfl rfl (fun x hx => ?_) ?_; rotate_left; (focus (go_simp; with_reducible rfl)); simp only [Act.put, List.setIfInBounds_toArray, List.set_cons_zero, List.set_cons_succ])
            refine wpT_one rfl rfl (fun K hK => ?_)
            clear k1 k2 k3 k4
            go_simp
            refine (refRight8_any a b n x1 hbb).mono ?_
            rw [← HR.out]
            rintro e x2 ⟨rfl, f2⟩
            refine hK _ _ f2 ?_
            clear hK K
            have G2 : Hid (Fr wc x2 (fun _ => False)) := G1.out.none f2
            clear f2 G1
            have k1 : ∀ z, Fr x2 z (fun _ => False) → z.cell? ⟨q1, 0, none⟩ = some (.int .u32 (a : Int)) := fun z hz => (HC.out z (G2.out.none hz)).1.1
            have k2 : ∀ z, Fr x2 z (fun _ => False) → z.cell? ⟨q1, 1, none⟩ = some (.int .u32 (b : Int)) := fun z hz => (HC.out z (G2.out.none hz)).1.2
            have k3 : ∀ z, Fr x2 z (fun _ => False) → z.cell? ⟨q2, 0, none⟩ = some (.int .u32 (c : Int)) := fun z hz => (HC.out z (G2.out.none hz)).2.1
            have k4 : ∀ z, Fr x2 z (fun _ => False) → z.cell? ⟨q2, 1, none⟩ = some (.int .u32 (d : Int)) := fun z hz => (HC.out z (G2.out.none hz)).2.2
            try simp only [Act.put, List.setIfInBounds_toArray, List.set_cons_zero, List.set_cons_succ]
            repeat (refine wpT_take (v := ?_) rfl rfl (fun x hx => ?_) ?_; rotate_left; (focus (go_simp; with_reducible rfl)); simp only [Act.put, List.setIfInBounds_toArray, List.set_cons_zero, List.set_cons_succ])
            refine wpT_one rfl rfl (fun K hK => ?_)
            clear k1 k2 k3 k4
            go_simp
            refine (M.less (a, b) (c, d) x2 hab hbb hcb hdb).mono ?_
            rw [H1.out]
            rintro e x3 ⟨rfl, f3⟩
            refine hK _ _ f3 ?_
            clear hK K
            have G3 : Hid (Fr wc x3 (fun _ => False)) := G2.out.none f3
            clear f3 G2
            have k1 : ∀ z, Fr x3 z (fun _ => False) → z.cell? ⟨q1, 0, none⟩ = some (.int .u32 (a : Int)) := fun z hz => (HC.out z (G3.out.none hz)).1.1
            have k2 : ∀ z, Fr x3 z (fun _ => False) → z.cell? ⟨q1, 1, none⟩ = some (.int .u32 (b : Int)) := fun z hz => (HC.out z (G3.out.none hz)).1.2
            have k3 : ∀ z, Fr x3 z (fun _ => False) → z.cell? ⟨q2, 0, none⟩ = some (.int .u32 (c : Int)) := fun z hz => (HC.out z (G3.out.none hz)).2.1
            have k4 : ∀ z, Fr x3 z (fun _ => False) → z.cell? ⟨q2, 1, none⟩ = some (.int .u32 (d : Int)) := fun z hz => (HC.out z (G3.out.none hz)).2.2
            try simp only [Act.put, List.setIfInBounds_toArray, List.set_cons_zero, List.set_cons_succ]
            repeat (refine wpT_take (v := ?_) rfl rfl (fun x hx => ?_) ?_; rotate_left; (focus (go_simp; with_reducible rfl)); simp only [Act.put, List.setIfInBounds_toArray, List.set_cons_zero, List.set_cons_succ])
            refine wpT_one rfl rfl (fun K hK => ?_)
            clear k1 k2 k3 k4
            go_simp
            refine (refLess8_any (a, b) (c, d) x3).mono ?_
            rw [H1.out]
            rintro e x4 ⟨rfl, f4⟩
            refine hK _ _ f4 ?_
            clear hK K
            have G4 : Hid (Fr wc x4 (fun _ => False)) := G3.out.none f4
            clear f4 G3
            have k1 : ∀ z, Fr x4 z (fun _ => False) → z.cell? ⟨q1, 0, none⟩ = some (.int .u32 (a : Int)) := fun z hz => (HC.out z (G4.out.none hz)).1.1
            have k2 : ∀ z, Fr x4 z (fun _ => False) → z.cell? ⟨q1, 1, none⟩ = some (.int .u32 (b : Int)) := fun z hz => (HC.out z (G4.out.none hz)).1.2
            have k3 : ∀ z, Fr x4 z (fun _ => False) → z.cell? ⟨q2, 0, none⟩ = some (.int .u32 (c : Int)) := fun z hz => (HC.out z (G4.out.none hz)).2.1
            have k4 : ∀ z, Fr x4 z (fun _ => False) → z.cell? ⟨q2, 1, none⟩ = some (.int .u32 (d : Int)) := fun z hz => (HC.out z (G4.out.none hz)).2.2
            try simp only [Act.put, List.setIfInBounds_toArray, List.set_cons_zero, List.set_cons_succ]
            repeat (refine wpT_take (v := ?_) rfl rfl (fun x hx => ?_) ?_; rotate_left; (focus (go_simp; with_reducible rfl)); simp only [Act.put, List.setIfInBounds_toArray, List.set_cons_zero, List.set_cons_succ])
            refine wpT_one rfl rfl (fun K hK => ?_)
            clear k1 k2 k3 k4
            go_simp
            refine (M.less (a, b) (a, b) x4 hab hbb hab hbb).mono ?_
            rw [HLs.out]
            rintro e x5 ⟨rfl, f5⟩
            refine hK _ _ f5 ?_
            clear hK K
            have G5 : Hid (Fr wc x5 (fun _ => False)) := G4.out.none f5
            clear f5 G4
            have k1 : ∀ z, Fr x5 z (fun _ => False) → z.cell? ⟨q1, 0, none⟩ = some (.int .u32 (a : Int)) := fun z hz => (HC.out z (G5.out.none hz)).1.1
            have k2 : ∀ z, Fr x5 z (fun _ => False) → z.cell? ⟨q1, 1, none⟩ = some (.int .u32 (b : Int)) := fun z hz => (HC.out z (G5.out.none hz)).1.2
            have k3 : ∀ z, Fr x5 z (fun _ => False) → z.cell? ⟨q2, 0, none⟩ = some (.int .u32 (c : Int)) := fun z hz => (HC.out z (G5.out.none hz)).2.1
            have k4 : ∀ z, Fr x5 z (fun _ => False) → z.cell? ⟨q2, 1, none⟩ = some (.int .u32 (d : Int)) := fun z hz => (HC.out z (G5.out.none hz)).2.2
            try simp only [Act.put, List.setIfInBounds_toArray, List.set_cons_zero, List.set_cons_succ]
            repeat (refine wpT_take (v := ?_) rfl rfl (fun x hx => ?_) ?_; rotate_left; (focus (go_simp; with_reducible rfl)); simp only [Act.put, List.setIfInBounds_toArray, List.set_cons_zero, List.set_cons_succ])
            refine wpT_one rfl rfl (fun K hK => ?_)
            clear k1 k2 k3 k4
            go_simp
            refine (M.less (a, b) (c, d) x5 hab hbb hcb hdb).mono ?_
            rw [H1.out]
            rintro e x6 ⟨rfl, f6⟩
            refine hK _ _ f6 ?_
            clear hK K
            have G6 : Hid (Fr wc x6 (fun _ => False)) := G5.out.none f6
            clear f6 G5
            have k1 : ∀ z, Fr x6 z (fun _ => False) → z.cell? ⟨q1, 0, none⟩ = some (.int .u32 (a : Int)) := fun z hz => (HC.out z (G6.out.none hz)).1.1
            have k2 : ∀ z, Fr x6 z (fun _ => False) → z.cell? ⟨q1, 1, none⟩ = some (.int .u32 (b : Int)) := fun z hz => (HC.out z (G6.out.none hz)).1.2
            have k3 : ∀ z, Fr x6 z (fun _ => False) → z.cell? ⟨q2, 0, none⟩ = some (.int .u32 (c : Int)) := fun z hz => (HC.out z (G6.out.none hz)).2.1
            have k4 : ∀ z, Fr x6 z (fun _ => False) → z.cell? ⟨q2, 1, none⟩ = some (.int .u32 (d : Int)) := fun z hz => (HC.out z (G6.out.none hz)).2.2
            try simp only [Act.put, List.setIfInBounds_toArray, List.set_cons_zero, List.set_cons_succ]
            repeat (refine wpT_take (v := ?_) rfl rfl (fun x hx => ?_) ?_; rotate_left; (focus (go_simp; with_reducible rfl)); simp only [Act.put, List.setIfInBounds_toArray, List.set_cons_zero, List.set_cons_succ])
            refine wpT_one rfl rfl (fun K hK => ?_)
            clear k1 k2 k3 k4
            go_simp
            refine (M.less (c, d) (a, b) x6 hcb hdb hab hbb).mono ?_
            rw [H2.out]
            rintro e x7 ⟨rfl, f7⟩
            refine hK _ _ f7 ?_
            clear hK K
            have G7 : Hid (Fr wc x7 (fun _ => False)) := G6.out.none f7
            clear f7 G6
            have k1 : ∀ z, Fr x7 z (fun _ => False) → z.cell? ⟨q1, 0, none⟩ = some (.int .u32 (a : Int)) := fun z hz => (HC.out z (G7.out.none hz)).1.1
            have k2 : ∀ z, Fr x7 z (fun _ => False) → z.cell? ⟨q1, 1, none⟩ = some (.int .u32 (b : Int)) := fun z hz => (HC.out z (G7.out.none hz)).1.2
            have k3 : ∀ z, Fr x7 z (fun _ => False) → z.cell? ⟨q2, 0, none⟩ = some (.int .u32 (c : Int)) := fun z hz => (HC.out z (G7.out.none hz)).2.1
            have k4 : ∀ z, Fr x7 z (fun _ => False) → z.cell? ⟨q2, 1, none⟩ = some (.int .u32 (d : Int)) := fun z hz => (HC.out z (G7.out.none hz)).2.2
            try simp only [Act.put, List.setIfInBounds_toArray, List.set_cons_zero, List.set_cons_succ]
            repeat (refine wpT_take (v := ?_) rfl rfl (fun x hx => ?_) ?_; rotate_left; (focus (go_simp; with_reducible rfl)); simp only [Act.put, List.setIfInBounds_toArray, List.set_cons_zero, List.set_cons_succ])
            refine wpT_one rfl rfl (fun K hK => ?_)
            go_simp
            refine hK _ _ ((Fr.refl _ _).alloc _) ?_
            clear hK K k1 k2 k3 k4
            obtain ⟨X, hX⟩ : ∃ X, X = x7.alloc (.cells #[.int .u32 (a : Int), .int .u32 (b : Int), .int .u32 (c : Int), .int .u32 (d : Int)] 26) := ⟨_, rfl⟩
            have G8 : Hid (Fr wc X (fun _ => False)) := by rw [hX]; exact G7.out.alloc _
            have B : Hid (RdE X (.slice (some ⟨x7.heap.size, 0, none⟩) 2 2) [(a, b), (c, d)]) := by show RdE _ _ _; rw [hX]; exact elit x7 [(a, b), (c, d)] _ _ rfl rfl (by simp)
            rw [← hX]
            clear hX
            have k1 : ∀ z, Fr X z (fun _ => False) → z.cell? ⟨q1, 0, none⟩ = some (.int .u32 (a : Int)) := fun z hz => (HC.out z (G8.out.none hz)).1.1
            have k2 : ∀ z, Fr X z (fun _ => False) → z.cell? ⟨q1, 1, none⟩ = some (.int .u32 (b : Int)) := fun z hz => (HC.out z (G8.out.none hz)).1.2
            have k3 : ∀ z, Fr X z (fun _ => False) → z.cell? ⟨q2, 0, none⟩ = some (.int .u32 (c : Int)) := fun z hz => (HC.out z (G8.out.none hz)).2.1
            have k4 : ∀ z, Fr X z (fun _ => False) → z.cell? ⟨q2, 1, none⟩ = some (.int .u32 (d : Int)) := fun z hz => (HC.out z (G8.out.none hz)).2.2
            try simp only [Act.put, List.setIfInBounds_toArray, List.set_cons_zero, List.set_cons_succ]
            refine wpT_one rfl rfl (fun K hK => ?_)
            clear k1 k2 k3 k4
            go_simp
            refine (M.rising _ [(a, b), (c, d)] X B.out (by simp; omega) (by simp)).mono ?_
            rw [H3.out]
            rintro e x9 ⟨rfl, f9⟩
            refine hK _ _ f9 ?_
            clear hK K
            have G9 : Hid (Fr wc x9 (fun _ => False)) := G8.out.none f9
            clear f9 G8
            have k1 : ∀ z, Fr x9 z (fun _ => False) → z.cell? ⟨q1, 0, none⟩ = some (.int .u32 (a : Int)) := fun z hz => (HC.out z (G9.out.none hz)).1.1
            have k2 : ∀ z, Fr x9 z (fun _ => False) → z.cell? ⟨q1, 1, none⟩ = some (.int .u32 (b : Int)) := fun z hz => (HC.out z (G9.out.none hz)).1.2
            have k3 : ∀ z, Fr x9 z (fun _ => False) → z.cell? ⟨q2, 0, none⟩ = some (.int .u32 (c : Int)) := fun z hz => (HC.out z (G9.out.none hz)).2.1
            have k4 : ∀ z, Fr x9 z (fun _ => False) → z.cell? ⟨q2, 1, none⟩ = some (.int .u32 (d : Int)) := fun z hz => (HC.out z (G9.out.none hz)).2.2
            try simp only [Act.put, List.setIfInBounds_toArray, List.set_cons_zero, List.set_cons_succ]
            repeat (refine wpT_take (v := ?_) rfl rfl (fun x hx => ?_) ?_; rotate_left; (focus (go_simp; with_reducible rfl)); simp only [Act.put, List.setIfInBounds_toArray, List.set_cons_zero, List.set_cons_succ])
            refine wpT_one rfl rfl (fun K hK => ?_)
            clear k1 k2 k3 k4
            go_simp
            refine (refLess8_any (a, b) (c, d) x9).mono ?_
            rw [H1.out]
            rintro e x10 ⟨rfl, f10⟩
            refine hK _ _ f10 ?_
            clear hK K
            have G10 : Hid (Fr wc x10 (fun _ => False)) := G9.out.none f10
            clear f10 G9
            have k1 : ∀ z, Fr x10 z (fun _ => False) → z.cell? ⟨q1, 0, none⟩ = some (.int .u32 (a : Int)) := fun z hz => (HC.out z (G10.out.none hz)).1.1
            have k2 : ∀ z, Fr x10 z (fun _ => False) → z.cell? ⟨q1, 1, none⟩ = some (.int .u32 (b : Int)) := fun z hz => (HC.out z (G10.out.none hz)).1.2
            have k3 : ∀ z, Fr x10 z (fun _ => False) → z.cell? ⟨q2, 0, none⟩ = some (.int .u32 (c : Int)) := fun z hz => (HC.out z (G10.out.none hz)).2.1
            have k4 : ∀ z, Fr x10 z (fun _ => False) → z.cell? ⟨q2, 1, none⟩ = some (.int .u32 (d : Int)) := fun z hz => (HC.out z (G10.out.none hz)).2.2
            try simp only [Act.put, List.setIfInBounds_toArray, List.set_cons_zero, List.set_cons_succ]
            repeat (refine wpT_take (v := ?_) rfl rfl (fun x hx => ?_) ?_; rotate_left; (focus (go_simp; with_reducible rfl)); simp only [Act.put, List.setIfInBounds_toArray, List.set_cons_zero, List.set_cons_succ])
            unfold wpT
            have Hfo : Hid (Fr w x10 (fun _ => False)) := HfW.out.none G10.out
            clear k1 k2 k3 k4
            go_wp2_with fail
            go_ret
            exact ⟨rfl, ebelow Hfo.out⟩

end Go.Proofs.Ytgmancekamfinaa.edgeTells

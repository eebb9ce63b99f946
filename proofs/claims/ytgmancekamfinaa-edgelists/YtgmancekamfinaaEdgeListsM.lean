/-
  The walk of the law EdgeLists, under the condition that the program's functions answer as their contracts say.
-/
import Derived.Test.YtgmancekamfinaaRows
import Derived.Test.YtgmancekamfinaaEC
import Derived.Test.YtgmancekamfinaaEArg
import Derived.Test.YtgmancekamfinaaEOwn
import Derived.Deep.CutRange
import Derived.Deep.LoopGhost
namespace Go.Proofs.Ytgmancekamfinaa.edgeLists
open Go.ChangeShapes Go.WideShapes Go.ChangeAt Go.RowKit

theorem eu8 (n : Int) (h : (Lit.int .u8 n).wf = true) : 0 ≤ n ∧ n < (256 : Nat) := by have := bounds_u8 h; omega
theorem ebelow {w w' : World} (h : Fr w w' (fun _ => False)) : Below w.heap.size w w' := h.below (Nat.le_refl _) (fun _ h => h.elim)

theorem four_cells {w : World} {x0 x1 x2 x3 : Value} {T : TypeId} {p : Nat} (h : w.heap[p]? = some (.cells #[x0, x1, x2, x3] T (0, 0))) : w.cell? ⟨p, 0, none⟩ = some x0 ∧ w.cell? ⟨p, 1, none⟩ = some x1 ∧ w.cell? ⟨p, 2, none⟩ = some x2 ∧ w.cell? ⟨p, 3, none⟩ = some x3 := by
  refine ⟨?_, ?_, ?_, ?_⟩ <;> simp [World.cell?, h]

theorem four_set0 {w : World} {x0 x1 x2 x3 : Value} {T : TypeId} {p : Nat} (h : w.heap[p]? = some (.cells #[x0, x1, x2, x3] T (0, 0))) (v : Value) : (w.setCell ⟨p, 0, none⟩ v).heap[p]? = some (.cells #[v, x1, x2, x3] T (0, 0)) := by
  simp [World.setCell, Array.getElem?_modify, h]
theorem four_set1 {w : World} {x0 x1 x2 x3 : Value} {T : TypeId} {p : Nat} (h : w.heap[p]? = some (.cells #[x0, x1, x2, x3] T (0, 0))) (v : Value) : (w.setCell ⟨p, 1, none⟩ v).heap[p]? = some (.cells #[x0, v, x2, x3] T (0, 0)) := by
  simp [World.setCell, Array.getElem?_modify, h]
theorem four_set2 {w : World} {x0 x1 x2 x3 : Value} {T : TypeId} {p : Nat} (h : w.heap[p]? = some (.cells #[x0, x1, x2, x3] T (0, 0))) (v : Value) : (w.setCell ⟨p, 2, none⟩ v).heap[p]? = some (.cells #[x0, x1, v, x3] T (0, 0)) := by
  simp [World.setCell, Array.getElem?_modify, h]

theorem fz_any {w : World} {cs : Array Value} {T : TypeId} {p k : Nat} (h : w.heap[p]? = some (.cells cs T (0, 0))) : w.frozen? ⟨p, k, none⟩ = false := by
  simp [World.frozen?, h]

theorem before_self (t : Int) (e : Nat × Nat) : eBefore t t e e = false := by unfold eBefore eLess; simp
theorem fr_setCell (w : World) (p k : Nat) (u : Value) : Fr w (w.setCell ⟨p, k, none⟩ u) (fun j => j = p) := Fr.setCell (S := fun j => j = p) (Fr.refl _ _) ⟨p, k, none⟩ (fun _ => rfl) u

/-- The list of the law's own making. -/
def fewOf (es : List (Nat × Nat)) (n : Nat) : List (Nat × Nat) := (List.range n).map fun i => (i / 3 + (es.getD i (0, 0)).1 % 2, 10 + i + (es.getD i (0, 0)).2 % 2)
theorem fewOf_length (es : List (Nat × Nat)) (n : Nat) : (fewOf es n).length = n := by simp [fewOf]
theorem fewOf_succ {es : List (Nat × Nat)} {i a b : Nat} (h : es[i]? = some (a, b)) : fewOf es (i + 1) = fewOf es i ++ [(i / 3 + a % 2, 10 + i + b % 2)] := by
  unfold fewOf
  rw [List.range_succ, List.map_append, List.map_singleton, List.getD_eq_getElem?_getD, h]
  rfl
theorem fewOf_small (es : List (Nat × Nat)) (n : Nat) (hn : n ≤ 30) : ∀ e ∈ fewOf es n, e.1 < 4294967296 ∧ e.2 < 4294967296 := fun e he => by
  unfold fewOf at he
  obtain ⟨i, hi, rfl⟩ := List.mem_map.1 he
  have := List.mem_range.1 hi
  dsimp only
  omega

set_option maxRecDepth 4000 in
set_option maxHeartbeats 3200000 in
theorem walkM (M : EC) (a0 : Option Addr) (len0 cap0 : Nat) (t1 : Int) (u1 y1 : Nat) (b1 : Bool) (t2 : Int) (u2 y2 : Nat) (b2 : Bool) (a3 : Int) (w : World) (w0 : IsEdges w a0 len0 cap0) (w1 : (Lit.int .i64 t1).wf = true ∧ u1 < 4294967296 ∧ y1 < 4294967296) (w2 : (Lit.int .i64 t2).wf = true ∧ u2 < 4294967296 ∧ y2 < 4294967296) (w3 : (Lit.int .u8 a3).wf = true) :
    Calls Try.prog 4 #[.slice a0 len0 cap0, eventV t1 (u1, y1) b1, eventV t2 (u2, y2) b2, .int .u8 a3] w fun e w' => e = .returned (.bool true) ∧ Below w.heap.size w w' := by
  obtain ⟨es, hel, hes, heb⟩ := w0
  obtain ⟨k, rfl⟩ : ∃ k : Nat, a3 = (k : Int) := ⟨a3.toNat, by have := eu8 a3 w3; omega⟩
  have Hes : Hid (RdE w (.slice a0 len0 cap0) es) := hes
  have Hel : Hid _ := hel
  have Heb : Hid _ := heb
  have Hk : Hid (k < 256) := by have := (eu8 _ w3).2; exact (by omega : k < 256)
  have H1 : Hid (-9223372036854775808 ≤ t1 ∧ t1 ≤ 9223372036854775807) := by have := bounds_i64 w1.1; show _ ∧ _; omega
  have H2 : Hid (-9223372036854775808 ≤ t2 ∧ t2 ≤ 9223372036854775807) := by have := bounds_i64 w2.1; show _ ∧ _; omega
  have B1 : Hid _ := w1.2
  have B2 : Hid _ := w2.2
  clear hes hel heb w1 w2 w3
  unfold eventV
  dsimp only
  go_enter Try.func4, Try.ntmps4
  go_wp2_with fail
  refine (known_any M _).mono ?_
  rintro e w1 ⟨rfl, hf1⟩
  have Hf1 : Hid (Fr w w1 (fun _ => False)) := ((Fr.refl w (fun _ => False)).alloc _ |>.alloc _).none hf1
  have h5 : w1.heap[w.heap.size]? = some (.cells #[.int .i64 t1, .int .u32 (u1 : Int), .int .u32 (y1 : Int), .bool b1] 35 (0, 0)) := hf1.kept (((Fr.refl _ (fun _ => False)).alloc _).kept (heap_alloc_new w _) (fun h => h)) (fun h => h)
  have h6 : w1.heap[w.heap.size + 1]? = some (.cells #[.int .i64 t2, .int .u32 (u2 : Int), .int .u32 (y2 : Int), .bool b2] 35 (0, 0)) := hf1.kept (by have := heap_alloc_new (w.alloc (.cells #[.int .i64 t1, .int .u32 (u1 : Int), .int .u32 (y1 : Int), .bool b1] 35)) (.cells #[.int .i64 t2, .int .u32 (u2 : Int), .int .u32 (y2 : Int), .bool b2] 35); simpa using this) (fun h => h)
  obtain ⟨pa, hpa⟩ : ∃ p, p = w.heap.size := ⟨_, rfl⟩
  obtain ⟨pb, hpb⟩ : ∃ p, p = pa + 1 := ⟨_, rfl⟩
  rw [← hpa] at h5 h6
  rw [← hpb] at h6
  rw [← hpa, ← hpb]
  have Hpa : Hid (∀ z, Fr w1 z (fun _ => False) → _) := fun z hz => hz.kept h5 (fun h => h)
  have Hpb : Hid (∀ z, Fr w1 z (fun _ => False) → _) := fun z hz => hz.kept h6 (fun h => h)
  clear hf1 h5 h6 hpa hpb
  by_cases h30 : 30 < len0
  · have d1 : decide ((30 : Int) < (len0 : Int)) = true := decide_eq_true (by omega)
    have d1' : decide (30 < len0) = true := decide_eq_true h30
    go_wp2
    go_ret
    exact ⟨rfl, ebelow Hf1.out⟩
  have d1 : decide ((30 : Int) < (len0 : Int)) = false := decide_eq_false (by omega)
  have d1' : decide (30 < len0) = false := decide_eq_false h30
  have Hn : Hid (len0 ≤ 30) := (by omega : len0 ≤ 30)
  clear h30
  go_wp2_with fail
  have hk0 : Fr w1 w1 (fun _ => False) := Fr.refl _ _
  go_loopg [9, 10] len0 (fun g S I wr => ∃ i : Nat, g = len0 - i ∧ i ≤ len0 ∧ I = .int .i64 (i : Int) ∧ OwnE wr S (fewOf es i) ∧ Fr w1 wr (fun _ => False) ∧ (∀ k, S.ownBlock = some k → w1.heap.size ≤ k))
  case atStart => exact ⟨0, by omega, by omega, rfl, OwnE.nil _, Fr.refl _ _, fun k hk => (by simp [Value.ownBlock] at hk)⟩
  case round =>
    obtain ⟨i, hg, hi, rfl, ho, hf, hnw⟩ := hrel
    have Hg : Hid _ := hg
    have Ho : Hid (OwnE wr u9 (fewOf es i)) := ho
    have Hf : Hid (Fr w1 wr (fun _ => False)) := hf
    have Hnw : Hid _ := hnw
    clear hg ho hf hnw hk0
    by_cases hlt : i < len0
    · have hin : (i : Int) < (len0 : Int) := by omega
      have hin' : decide (i < len0) = true := decide_eq_true hlt
      obtain ⟨⟨a, b⟩, ha⟩ : ∃ a, es[i]? = some a := ⟨_, List.getElem?_eq_getElem (by rw [Hel.out]; omega)⟩
      have Hst : Hid (fewOf es (i + 1) = fewOf es i ++ [(i / 3 + a % 2, 10 + i + b % 2)]) := fewOf_succ ha
      obtain ⟨bk, off, cap, e1, hbk, hca⟩ := (Hes.out.keep (Hf1.out.none Hf.out)).get i _ ha
      simp only [Value.slice.injEq] at e1
      obtain ⟨rfl, -, rfl⟩ := e1
      have hbw : bk < w.heap.size := by
        obtain ⟨b', off', cap', e2, hb', -⟩ := Hes.out.get i _ ha
        simp only [Value.slice.injEq, Option.some.injEq, Addr.mk.injEq] at e2
        rw [e2.1.1]; exact hb'
      have c0 := hca wr (Fr.refl _ _)
      have hbS : ∀ j, u9.ownBlock = some j → j ≠ bk := fun j hj e => by
        have h1 := Hnw.out j hj
        have h2 := Hf1.out.size
        omega
      have k0 : ∀ z, Fr wr.drew z (fun j => u9.ownBlock = some j) → z.cell? ⟨bk, off + i * 2, none⟩ = some (.int .u32 (a : Int)) := fun z hz => by
        rw [World.cell?_of_block (w := wr) (hz.block bk hbk (fun h => hbS bk h rfl))]
        exact c0.1
      have k1 : ∀ z, Fr wr.drew z (fun j => u9.ownBlock = some j) → z.cell? ⟨bk, off + i * 2 + 1, none⟩ = some (.int .u32 (b : Int)) := fun z hz => by
        rw [World.cell?_of_block (w := wr) (hz.block bk hbk (fun h => hbS bk h rfl))]
        exact c0.2
      obtain ⟨q, hq⟩ : ∃ q, q = i / 3 := ⟨_, rfl⟩
      obtain ⟨r1, hr1⟩ : ∃ q, q = a % 2 := ⟨_, rfl⟩
      obtain ⟨r2, hr2⟩ : ∃ q, q = b % 2 := ⟨_, rfl⟩
      obtain ⟨x, hx⟩ : ∃ x, x = q + r1 := ⟨_, rfl⟩
      obtain ⟨y0, hy0⟩ : ∃ x, x = 10 + i := ⟨_, rfl⟩
      obtain ⟨y, hy⟩ : ∃ x, x = y0 + r2 := ⟨_, rfl⟩
      have hil := Hn.out
      have wq : IntKind.i64.wrap ((i : Int) / 3) = (q : Int) := by rw [show (i : Int) / 3 = (q : Int) by omega]; exact IntWalk.i64_in _ (by omega)
      have wc : IntKind.u32.wrap (q : Int) = (q : Int) := by rw [IntKind.wrap_u32]; omega
      have wi : IntKind.u32.wrap (i : Int) = (i : Int) := by rw [IntKind.wrap_u32]; omega
      have ra : (a : Int).tmod 2 = (r1 : Int) := by rw [Int.tmod_eq_emod_of_nonneg (by omega)]; omega
      have rb : (b : Int).tmod 2 = (r2 : Int) := by rw [Int.tmod_eq_emod_of_nonneg (by omega)]; omega
      have ra' : (a : Int) % 2 = (r1 : Int) := by omega
      have rb' : (b : Int) % 2 = (r2 : Int) := by omega
      have wx : IntKind.u32.wrap ((q : Int) + (r1 : Int)) = (x : Int) := by rw [IntKind.wrap_u32]; omega
      have wy0 : IntKind.u32.wrap (10 + (i : Int)) = (y0 : Int) := by rw [IntKind.wrap_u32]; omega
      have wy : IntKind.u32.wrap ((y0 : Int) + (r2 : Int)) = (y : Int) := by rw [IntKind.wrap_u32]; omega
      rw [show i / 3 + a % 2 = x by rw [hx, hq, hr1], show 10 + i + b % 2 = y by rw [hy, hy0, hr2]] at Hst
      have hi0 : (0 : Int) ≤ (i : Int) := by omega
      have Hfl : Hid ((fewOf es i).length ≤ 10000000) := by
        have := fewOf_length es i
        exact (by omega : (fewOf es i).length ≤ 10000000)
      clear hca c0 ha hbS hq hr1 hr2 hx hy0 hy hil hbk hbw
      go_wp2_with fail
      refine wp_region_tree (fun j => u9.ownBlock = some j) (.take 0 (.take 1 (.take 2 (.take 3 (.take 4 (.take 5 (.take 6 (.take 7 (.take 8 (.take 9 (.take 10 (.take 11 (.take 12 (.take 13 (.take 14 (.take 15 (.take 16 (.take 17 (.take 18 (.take 19 (.take 20 (.take 21 (.one 22 (.one 23 (.take 24 .nil))))))))))))))))))))))))) (by kernel_rfl) (by kernel_rfl) (by decide) (by kernel_rfl) ?_
      repeat (refine wpT_take (v := ?_) rfl rfl (fun x hx => ?_) ?_; rotate_left; (focus (go_simp; with_reducible rfl)); simp only [Act.put, List.setIfInBounds_toArray, List.set_cons_zero, List.set_cons_succ])
      clear k0 k1 wq wc wi ra rb ra' rb' wx wy0 wy
      refine wpT_one rfl rfl (fun K hK => ?_)
      go_simp
      refine hK _ _ (((Fr.refl wr.drew (fun _ => False)).alloc _).mono (fun _ _ h => h.elim)) ?_
      clear hK K
      obtain ⟨v5, w5, hrun5, ho5, hf5, hm5⟩ := app_edge wr.drew u9 (fewOf es i) x y (Ho.out.frame (Fr.refl wr (fun _ => False)).drew (fun _ _ h => h)) Hfl.out
      refine wpT_one rfl rfl (fun K hK => ?_)
      refine op_append_run (.tmp 23) (.tmp 45) 32 rfl rfl rfl hrun5 ?_
      refine hK _ _ hf5 ?_
      clear hK K
      simp only [Act.put, List.setIfInBounds_toArray, List.set_cons_zero, List.set_cons_succ]
      repeat (refine wpT_take (v := ?_) rfl rfl (fun x hx => ?_) ?_; rotate_left; (focus (go_simp; with_reducible rfl)); simp only [Act.put, List.setIfInBounds_toArray, List.set_cons_zero, List.set_cons_succ])
      have Hf6 : Hid (Fr w1 w5 (fun _ => False)) := Fr.newer ((Hf.out.none (Fr.refl wr (fun _ => False)).drew).alloc _) hf5 (fun j hj => Hnw.out j hj)
      have Ho5 : Hid _ := ho5
      have Hm5 : Hid _ := hm5
      clear hf5 ho5 hm5 hrun5
      unfold wpT
      go_wp2_with fail
      go_roundg (len0 - (i + 1))
      case rel =>
        refine ⟨i + 1, rfl, by omega, by rw [IntWalk.wrap64_in _ (by have := Hn.out; omega)]; rfl, ?_, Hf6.out, fun j hj => ?_⟩
        · rw [Hst.out]; exact Ho5.out
        · rcases Hm5.out j hj with h | h
          · exact Hnw.out j h
          · have := Hf.out.size
            exact Nat.le_trans this h
      case measure => rw [Hg.out]; omega
    · have hin : ¬ (i : Int) < (len0 : Int) := by omega
      have hin' : decide (i < len0) = false := decide_eq_false hlt
      obtain rfl : i = len0 := by omega
      have He5 : Hid (RdE wr u9 (fewOf es i)) := Ho.out.rd
      have Hlt9 : Hid (∀ k, u9.ownBlock = some k → k < wr.heap.size) := OwnE.lt Ho.out
      clear Ho Hnw
      obtain ⟨ao9, cp9, rfl⟩ : ∃ ao cp, u9 = .slice ao i cp := by
        obtain ⟨ao, cp, h, -⟩ := RdE.form He5.out
        exact ⟨ao, cp, by rw [h, fewOf_length]⟩
      obtain ⟨c0, c1, c2, c3⟩ := four_cells (Hpa.out wr Hf.out)
      obtain ⟨e0, e1, e2, e3⟩ := four_cells (Hpb.out wr Hf.out)
      go_upto_region 10 with fail
      obtain ⟨pc, hpc⟩ : ∃ p, p = wr.heap.size := ⟨_, rfl⟩
      obtain ⟨wa, hwa⟩ : ∃ x, x = wr.alloc (.cells #[.int .i64 t1, .int .u32 (u1 : Int), .int .u32 (y1 : Int), .bool b1] 35) := ⟨_, rfl⟩
      have Hpc : Hid _ := hpc
      have Hwa : Hid _ := hwa
      clear hpc hwa
      go_cut [11] from 47 to 47 (fun V wx => V = .pointer (some ⟨pc, 0, none⟩) ∧ wx = wa)
      case first =>
        go_wp2_with fail
        go_meet
        case rel => exact ⟨by rw [Hpc.out], by rw [Hwa.out]⟩
      case rest =>
      obtain ⟨rfl, rfl⟩ := hcut
      rename_i hKc
      refine hKc _ _ ?_
      clear hKc c0 c1 c2 c3 e0 e1 e2 e3
      have Hfa : Hid (Fr w1 wc (fun _ => False)) := by show Fr _ _ _; rw [Hwa.out]; exact Hf.out.alloc _
      have hnc : wc.heap[pc]? = some (.cells #[.int .i64 t1, .int .u32 (u1 : Int), .int .u32 (y1 : Int), .bool b1] 35 (0, 0)) := by rw [Hwa.out, Hpc.out]; exact heap_alloc_new _ _
      have Hnc : Hid _ := hnc
      have Hpw : Hid (w1.heap.size ≤ pc) := by have := Hf.out.size; have h2 := Hpc.out; exact (by omega : w1.heap.size ≤ pc)
      have Hes5 : Hid (RdE wc (.slice ao9 i cp9) (fewOf es i)) := by show RdE _ _ _; rw [Hwa.out]; exact He5.out.keep ((Fr.refl _ _).alloc _)
      have H9c : Hid (∀ k, (Value.slice ao9 i cp9).ownBlock = some k → ¬ k = pc) := fun k hk => by have h1 := Hlt9.out k hk; have h2 := Hpc.out; omega
      have hpbc : pb < wc.heap.size ∧ pb ≠ pc := by
        have h1 := (Array.getElem?_eq_some_iff.1 (Hpb.out w1 (Fr.refl _ _))).1
        have h2 := Hfa.out.size
        have h3 := Hpw.out
        omega
      obtain ⟨c0, c1, c2, c3⟩ := four_cells (Hpb.out wc Hfa.out)
      obtain ⟨e0, e1, e2, e3⟩ := four_cells hnc
      clear hnc Hwa Hpc He5
      refine wp_seq_k (fun K2 hK2 => ?_)
      go_cut [11] from 48 to 62 (fun V wx => V = .pointer (some ⟨pc, 0, none⟩) ∧ ∃ (tc : Int) (uc yc : Nat), (-9223372036854775808 ≤ tc ∧ tc ≤ 9223372036854775807) ∧ (uc < 4294967296 ∧ yc < 4294967296) ∧ wx.heap[pc]? = some (.cells #[.int .i64 tc, .int .u32 (uc : Int), .int .u32 (yc : Int), .bool b1] 35 (0, 0)) ∧ Fr wc wx (fun k => k = pc))
      case first =>
        have hk3 : k % 3 = 0 ∨ k % 3 = 1 ∨ k % 3 = 2 := by omega
        rcases hk3 with h3 | h3 | h3
        · have m1 : (k : Int).tmod 3 = 0 := by rw [Int.tmod_eq_emod_of_nonneg (by omega)]; omega
          have m2 : (k : Int) % 3 = 0 := by omega
          have fz : wc.frozen? ⟨pc, 0, none⟩ = false := by simp [World.frozen?, Hnc.out]
          clear h3 hpbc
          go_wp2_with fail
          go_meet
          case rel => exact ⟨rfl, t2, u1, y1, H2.out, B1.out, four_set0 Hnc.out _, fr_setCell _ _ _ _⟩
        · have m1 : (k : Int).tmod 3 = 1 := by rw [Int.tmod_eq_emod_of_nonneg (by omega)]; omega
          have m2 : (k : Int) % 3 = 1 := by omega
          have k0 : ∀ z, Fr wc.drew z (fun k => k = pc) → z.cell? ⟨pb, 0, none⟩ = some (.int .i64 t2) := fun z hz => by rw [World.cell?_of_block (w := wc) (hz.block pb hpbc.1 hpbc.2)]; exact c0
          have k1 : ∀ z, Fr wc.drew z (fun k => k = pc) → z.cell? ⟨pb, 1, none⟩ = some (.int .u32 (u2 : Int)) := fun z hz => by rw [World.cell?_of_block (w := wc) (hz.block pb hpbc.1 hpbc.2)]; exact c1
          have k2 : ∀ z, Fr wc.drew z (fun k => k = pc) → z.cell? ⟨pb, 2, none⟩ = some (.int .u32 (y2 : Int)) := fun z hz => by rw [World.cell?_of_block (w := wc) (hz.block pb hpbc.1 hpbc.2)]; exact c2
          clear h3 hpbc c0 c1 c2 c3 e0 e1 e2 e3
          have fz : wc.drew.frozen? ⟨pc, 0, none⟩ = false := fz_any (w := wc.drew) Hnc.out
          have hc0 : wc.drew.cell? ⟨pc, 0, none⟩ = some (.int .i64 t1) := (four_cells (w := wc.drew) Hnc.out).1
          go_wp2
          refine wp_region_tree (fun j => j = pc) (.take 0 (.take 1 (.take 2 (.take 3 (.take 4 (.one 5 (.take 6 (.one 7 .nil)))))))) (by kernel_rfl) (by kernel_rfl) (by decide) (by kernel_rfl) ?_
          repeat (refine wpT_take (v := ?_) rfl rfl (fun x hx => ?_) ?_; rotate_left; (focus (go_simp; with_reducible rfl)); simp only [Act.put, List.setIfInBounds_toArray, List.set_cons_zero, List.set_cons_succ])
          refine wpT_one rfl rfl (fun K hK => ?_)
          go_simp
          refine hK _ _ (fr_setCell wc.drew _ _ _) ?_
          clear hK K fz hc0
          repeat (refine wpT_take (v := ?_) rfl rfl (fun x hx => ?_) ?_; rotate_left; (focus (go_simp; with_reducible rfl)); simp only [Act.put, List.setIfInBounds_toArray, List.set_cons_zero, List.set_cons_succ])
          have hA : (wc.setCell ⟨pc, 0, none⟩ (.int .i64 t2)).drew.heap[pc]? = some (.cells #[.int .i64 t2, .int .u32 (u1 : Int), .int .u32 (y1 : Int), .bool b1] 35 (0, 0)) := four_set0 (w := wc) Hnc.out _
          have HfA : Hid (Fr wc (wc.setCell ⟨pc, 0, none⟩ (.int .i64 t2)).drew (fun k => k = pc)) := (fr_setCell wc _ _ _).drew
          generalize (wc.setCell ⟨pc, 0, none⟩ (.int .i64 t2)).drew = wA at hA HfA ⊢
          have fz1 : wA.frozen? ⟨pc, 1, none⟩ = false := fz_any hA
          have fz2 : wA.frozen? ⟨pc, 2, none⟩ = false := fz_any hA
          obtain ⟨c0, c1, c2, c3⟩ := four_cells hA
          have HA : Hid _ := hA
          clear hA
          refine wpT_one rfl rfl (fun K hK => ?_)
          go_simp
          refine hK _ _ ((fr_setCell wA _ _ _).trans (fr_setCell _ _ _ _) (fun _ _ h => h)) ?_
          clear hK K fz1 fz2 c0 c1 c2 c3
          have hB := four_set2 (four_set1 HA.out (.int .u32 (u2 : Int))) (.int .u32 (y2 : Int))
          have HfB : Hid (Fr wc ((wA.setCell ⟨pc, 1, none⟩ (.int .u32 (u2 : Int))).setCell ⟨pc, 2, none⟩ (.int .u32 (y2 : Int))) (fun k => k = pc)) := HfA.out.trans ((fr_setCell wA _ _ _).trans (fr_setCell _ _ _ _) (fun _ _ h => h)) (fun _ _ h => h)
          generalize (wA.setCell ⟨pc, 1, none⟩ (.int .u32 (u2 : Int))).setCell ⟨pc, 2, none⟩ (.int .u32 (y2 : Int)) = wB at hB HfB ⊢
          have HB : Hid _ := hB
          clear hB HfA HA
          unfold wpT
          go_wp2_with fail
          go_meet
          case rel => exact ⟨rfl, t2, u2, y2, H2.out, B2.out, HB.out, HfB.out⟩
        · have m1 : (k : Int).tmod 3 = 2 := by rw [Int.tmod_eq_emod_of_nonneg (by omega)]; omega
          have m2 : (k : Int) % 3 = 2 := by omega
          clear h3
          go_wp2_with fail
          go_meet
          case rel => exact ⟨rfl, t1, u1, y1, H1.out, B1.out, Hnc.out, Fr.refl _ _⟩
      case rest =>
        obtain ⟨rfl, tc, uc, yc, htc, huc, hcc, hfc⟩ := hcut
        refine hK2 _ _ ?_
        clear hK2 c0 c1 c2 c3 e0 e1 e2 e3 hpbc
        have Hfw : Hid (Fr w wc (fun _ => False)) := (Hf1.out.none Hfa.out).newer hfc (fun j hj => by have h1 := Hpw.out; have h2 := Hf1.out.size; omega)
        have Hfw1 : Hid (Fr w1 wc (fun _ => False)) := Hfa.out.newer hfc (fun j hj => by have h1 := Hpw.out; omega)
        have P5 : Hid (∀ z, Fr wc.drew z (fun _ => False) → z.heap[pa]? = some (.cells #[.int .i64 t1, .int .u32 (u1 : Int), .int .u32 (y1 : Int), .bool b1] 35 (0, 0))) := fun z hz => Hpa.out z (Hfw1.out.drew.none hz)
        have P6 : Hid (∀ z, Fr wc.drew z (fun _ => False) → z.heap[pb]? = some (.cells #[.int .i64 t2, .int .u32 (u2 : Int), .int .u32 (y2 : Int), .bool b2] 35 (0, 0))) := fun z hz => Hpb.out z (Hfw1.out.drew.none hz)
        have P7 : Hid (∀ z, Fr wc.drew z (fun _ => False) → z.heap[pc]? = some (.cells #[.int .i64 tc, .int .u32 (uc : Int), .int .u32 (yc : Int), .bool b1] 35 (0, 0))) := fun z hz => hz.kept (w := wc.drew) hcc (fun h => h)
        have Htc : Hid _ := htc
        have Huc : Hid _ := huc
        have Hl1 : Hid (∀ z, Fr wc.drew z (fun _ => False) → RdE z (.slice a0 i cap0) es) := fun z hz => Hes.out.keep (Hfw.out.drew.none hz)
        have Hl2 : Hid (∀ z, Fr wc.drew z (fun _ => False) → RdE z (.slice ao9 i cp9) (fewOf es i)) := fun z hz => (RdE.frame Hes5.out hfc (fun _ k hk => H9c.out k hk)).keep (Fr.none (Fr.refl wc (fun _ => False)).drew hz)
        obtain ⟨R1, hR1⟩ : ∃ x, x = eRising es := ⟨_, rfl⟩
        obtain ⟨R2, hR2⟩ : ∃ x, x = eRising (fewOf es i) := ⟨_, rfl⟩
        obtain ⟨D1, hD1⟩ : ∃ x, x = eBefore t1 t2 (u1, y1) (u2, y2) := ⟨_, rfl⟩
        obtain ⟨D2, hD2⟩ : ∃ x, x = eBefore tc t2 (uc, yc) (u2, y2) := ⟨_, rfl⟩
        obtain ⟨D3, hD3⟩ : ∃ x, x = eBefore t2 tc (u2, y2) (uc, yc) := ⟨_, rfl⟩
        have HR1 : Hid _ := hR1
        have bR1 : (R1 == R1) = true := by simp
        have HR2 : Hid _ := hR2
        have bR2 : (R2 == R2) = true := by simp
        have HD1 : Hid _ := hD1
        have bD1 : (D1 == D1) = true := by simp
        have HD2 : Hid _ := hD2
        have bD2 : (D2 == D2) = true := by simp
        have HD3 : Hid _ := hD3
        have bD3 : (D3 == D3) = true := by simp
        clear hR1 hR2 hD1 hD2 hD3 htc huc hcc hfc
        obtain ⟨wz, hwz⟩ : ∃ z, z = wc.drew := ⟨_, rfl⟩
        have G0 : Hid (Fr wc.drew wz (fun _ => False)) := by rw [hwz]; exact Fr.refl _ _
        go_wp2_with fail
        refine wp_region_tree (fun _ => False) (.take 0 (.take 2 (.one 1 (.one 3 (.take 4 (.take 5 (.take 6 (.take 8 (.one 7 (.one 9 (.take 10 (.take 11 (.take 12 (.take 13 (.take 14 (.take 16 (.take 17 (.one 15 (.one 18 (.take 19 (.take 20 (.take 21 (.take 22 (.take 23 (.take 25 (.take 26 (.one 24 (.one 27 (.take 28 (.take 29 (.take 30 (.take 31 (.take 32 (.take 34 (.take 35 (.one 33 (.one 36 (.take 37 (.take 38 (.take 39 (.take 40 (.take 41 (.one 42 (.take 43 (.take 44 (.take 45 .nil)))))))))))))))))))))))))))))))))))))))))))))) (by kernel_rfl) (by kernel_rfl) (by decide) (by kernel_rfl) ?_
        rw [← hwz]
        clear hwz
        repeat (refine wpT_take (v := ?_) rfl rfl (fun x hx => ?_) ?_; rotate_left; (focus (go_simp; with_reducible rfl)); simp only [Act.put, List.setIfInBounds_toArray, List.set_cons_zero, List.set_cons_succ])
        refine wpT_one rfl rfl (fun K hK => ?_)
        go_simp
        refine (M.rising _ es _ (Hl1.out _ G0.out) Heb.out (by have h1 := Hel.out; have h2 := Hn.out; omega)).mono ?_
        rw [← HR1.out]
        rintro e x1 ⟨rfl, g⟩
        refine hK _ _ g ?_
        clear hK K
        have G1 : Hid (Fr wc.drew x1 (fun _ => False)) := G0.out.none g
        clear g
        try simp only [Act.put, List.setIfInBounds_toArray, List.set_cons_zero, List.set_cons_succ]
        refine wpT_one rfl rfl (fun K hK => ?_)
        go_simp
        refine (refRising8_any _ es _ (Hl1.out _ G1.out) (by have h1 := Hel.out; have h2 := Hn.out; omega)).mono ?_
        rw [← HR1.out]
        rintro e x2 ⟨rfl, g⟩
        refine hK _ _ g ?_
        clear hK K
        have G2 : Hid (Fr wc.drew x2 (fun _ => False)) := G1.out.none g
        clear g
        try simp only [Act.put, List.setIfInBounds_toArray, List.set_cons_zero, List.set_cons_succ]
        repeat (refine wpT_take (v := ?_) rfl rfl (fun x hx => ?_) ?_; rotate_left; (focus (go_simp; with_reducible rfl)); simp only [Act.put, List.setIfInBounds_toArray, List.set_cons_zero, List.set_cons_succ])
        refine wpT_one rfl rfl (fun K hK => ?_)
        go_simp
        refine (M.rising _ (fewOf es i) _ (Hl2.out _ G2.out) (fewOf_small es i Hn.out) (by rw [fewOf_length]; have h2 := Hn.out; omega)).mono ?_
        rw [← HR2.out]
        rintro e x3 ⟨rfl, g⟩
        refine hK _ _ g ?_
        clear hK K
        have G3 : Hid (Fr wc.drew x3 (fun _ => False)) := G2.out.none g
        clear g
        try simp only [Act.put, List.setIfInBounds_toArray, List.set_cons_zero, List.set_cons_succ]
        refine wpT_one rfl rfl (fun K hK => ?_)
        go_simp
        refine (refRising8_any _ (fewOf es i) _ (Hl2.out _ G3.out) (by rw [fewOf_length]; have h2 := Hn.out; omega)).mono ?_
        rw [← HR2.out]
        rintro e x4 ⟨rfl, g⟩
        refine hK _ _ g ?_
        clear hK K
        have G4 : Hid (Fr wc.drew x4 (fun _ => False)) := G3.out.none g
        clear g
        try simp only [Act.put, List.setIfInBounds_toArray, List.set_cons_zero, List.set_cons_succ]
        have kpa0 : ∀ z, Fr x4 z (fun _ => False) → z.cell? ⟨pa, 0, none⟩ = _ := fun z hz => (four_cells (P5.out z (G4.out.none hz))).1
        have kpa1 : ∀ z, Fr x4 z (fun _ => False) → z.cell? ⟨pa, 1, none⟩ = _ := fun z hz => (four_cells (P5.out z (G4.out.none hz))).2.1
        have kpa2 : ∀ z, Fr x4 z (fun _ => False) → z.cell? ⟨pa, 2, none⟩ = _ := fun z hz => (four_cells (P5.out z (G4.out.none hz))).2.2.1
        have kpa3 : ∀ z, Fr x4 z (fun _ => False) → z.cell? ⟨pa, 3, none⟩ = _ := fun z hz => (four_cells (P5.out z (G4.out.none hz))).2.2.2
        have kpb0 : ∀ z, Fr x4 z (fun _ => False) → z.cell? ⟨pb, 0, none⟩ = _ := fun z hz => (four_cells (P6.out z (G4.out.none hz))).1
        have kpb1 : ∀ z, Fr x4 z (fun _ => False) → z.cell? ⟨pb, 1, none⟩ = _ := fun z hz => (four_cells (P6.out z (G4.out.none hz))).2.1
        have kpb2 : ∀ z, Fr x4 z (fun _ => False) → z.cell? ⟨pb, 2, none⟩ = _ := fun z hz => (four_cells (P6.out z (G4.out.none hz))).2.2.1
        have kpb3 : ∀ z, Fr x4 z (fun _ => False) → z.cell? ⟨pb, 3, none⟩ = _ := fun z hz => (four_cells (P6.out z (G4.out.none hz))).2.2.2
        repeat (refine wpT_take (v := ?_) rfl rfl (fun x hx => ?_) ?_; rotate_left; (focus (go_simp; with_reducible rfl)); simp only [Act.put, List.setIfInBounds_toArray, List.set_cons_zero, List.set_cons_succ])
        clear kpa0 kpa1 kpa2 kpa3 kpb0 kpb1 kpb2 kpb3
        refine wpT_one rfl rfl (fun K hK => ?_)
        go_simp
        refine (M.before t1 t2 (u1, y1) (u2, y2) b1 b2 _ H1.out.1 H1.out.2 H2.out.1 H2.out.2 B1.out.1 B1.out.2 B2.out.1 B2.out.2).mono ?_
        rw [← HD1.out]
        rintro e x5 ⟨rfl, g⟩
        refine hK _ _ g ?_
        clear hK K
        have G5 : Hid (Fr wc.drew x5 (fun _ => False)) := G4.out.none g
        clear g
        try simp only [Act.put, List.setIfInBounds_toArray, List.set_cons_zero, List.set_cons_succ]
        refine wpT_one rfl rfl (fun K hK => ?_)
        go_simp
        refine (refBefore8_any t1 t2 (u1, y1) (u2, y2) b1 b2 _).mono ?_
        rw [← HD1.out]
        rintro e x6 ⟨rfl, g⟩
        refine hK _ _ g ?_
        clear hK K
        have G6 : Hid (Fr wc.drew x6 (fun _ => False)) := G5.out.none g
        clear g
        try simp only [Act.put, List.setIfInBounds_toArray, List.set_cons_zero, List.set_cons_succ]
        have kpc0 : ∀ z, Fr x6 z (fun _ => False) → z.cell? ⟨pc, 0, none⟩ = _ := fun z hz => (four_cells (P7.out z (G6.out.none hz))).1
        have kpc1 : ∀ z, Fr x6 z (fun _ => False) → z.cell? ⟨pc, 1, none⟩ = _ := fun z hz => (four_cells (P7.out z (G6.out.none hz))).2.1
        have kpc2 : ∀ z, Fr x6 z (fun _ => False) → z.cell? ⟨pc, 2, none⟩ = _ := fun z hz => (four_cells (P7.out z (G6.out.none hz))).2.2.1
        have kpc3 : ∀ z, Fr x6 z (fun _ => False) → z.cell? ⟨pc, 3, none⟩ = _ := fun z hz => (four_cells (P7.out z (G6.out.none hz))).2.2.2
        have kpb0 : ∀ z, Fr x6 z (fun _ => False) → z.cell? ⟨pb, 0, none⟩ = _ := fun z hz => (four_cells (P6.out z (G6.out.none hz))).1
        have kpb1 : ∀ z, Fr x6 z (fun _ => False) → z.cell? ⟨pb, 1, none⟩ = _ := fun z hz => (four_cells (P6.out z (G6.out.none hz))).2.1
        have kpb2 : ∀ z, Fr x6 z (fun _ => False) → z.cell? ⟨pb, 2, none⟩ = _ := fun z hz => (four_cells (P6.out z (G6.out.none hz))).2.2.1
        have kpb3 : ∀ z, Fr x6 z (fun _ => False) → z.cell? ⟨pb, 3, none⟩ = _ := fun z hz => (four_cells (P6.out z (G6.out.none hz))).2.2.2
        repeat (refine wpT_take (v := ?_) rfl rfl (fun x hx => ?_) ?_; rotate_left; (focus (go_simp; with_reducible rfl)); simp only [Act.put, List.setIfInBounds_toArray, List.set_cons_zero, List.set_cons_succ])
        clear kpc0 kpc1 kpc2 kpc3 kpb0 kpb1 kpb2 kpb3
        refine wpT_one rfl rfl (fun K hK => ?_)
        go_simp
        refine (M.before tc t2 (uc, yc) (u2, y2) b1 b2 _ Htc.out.1 Htc.out.2 H2.out.1 H2.out.2 Huc.out.1 Huc.out.2 B2.out.1 B2.out.2).mono ?_
        rw [← HD2.out]
        rintro e x7 ⟨rfl, g⟩
        refine hK _ _ g ?_
        clear hK K
        have G7 : Hid (Fr wc.drew x7 (fun _ => False)) := G6.out.none g
        clear g
        try simp only [Act.put, List.setIfInBounds_toArray, List.set_cons_zero, List.set_cons_succ]
        refine wpT_one rfl rfl (fun K hK => ?_)
        go_simp
        refine (refBefore8_any tc t2 (uc, yc) (u2, y2) b1 b2 _).mono ?_
        rw [← HD2.out]
        rintro e x8 ⟨rfl, g⟩
        refine hK _ _ g ?_
        clear hK K
        have G8 : Hid (Fr wc.drew x8 (fun _ => False)) := G7.out.none g
        clear g
        try simp only [Act.put, List.setIfInBounds_toArray, List.set_cons_zero, List.set_cons_succ]
        have kpb0 : ∀ z, Fr x8 z (fun _ => False) → z.cell? ⟨pb, 0, none⟩ = _ := fun z hz => (four_cells (P6.out z (G8.out.none hz))).1
        have kpb1 : ∀ z, Fr x8 z (fun _ => False) → z.cell? ⟨pb, 1, none⟩ = _ := fun z hz => (four_cells (P6.out z (G8.out.none hz))).2.1
        have kpb2 : ∀ z, Fr x8 z (fun _ => False) → z.cell? ⟨pb, 2, none⟩ = _ := fun z hz => (four_cells (P6.out z (G8.out.none hz))).2.2.1
        have kpb3 : ∀ z, Fr x8 z (fun _ => False) → z.cell? ⟨pb, 3, none⟩ = _ := fun z hz => (four_cells (P6.out z (G8.out.none hz))).2.2.2
        have kpc0 : ∀ z, Fr x8 z (fun _ => False) → z.cell? ⟨pc, 0, none⟩ = _ := fun z hz => (four_cells (P7.out z (G8.out.none hz))).1
        have kpc1 : ∀ z, Fr x8 z (fun _ => False) → z.cell? ⟨pc, 1, none⟩ = _ := fun z hz => (four_cells (P7.out z (G8.out.none hz))).2.1
        have kpc2 : ∀ z, Fr x8 z (fun _ => False) → z.cell? ⟨pc, 2, none⟩ = _ := fun z hz => (four_cells (P7.out z (G8.out.none hz))).2.2.1
        have kpc3 : ∀ z, Fr x8 z (fun _ => False) → z.cell? ⟨pc, 3, none⟩ = _ := fun z hz => (four_cells (P7.out z (G8.out.none hz))).2.2.2
        repeat (refine wpT_take (v := ?_) rfl rfl (fun x hx => ?_) ?_; rotate_left; (focus (go_simp; with_reducible rfl)); simp only [Act.put, List.setIfInBounds_toArray, List.set_cons_zero, List.set_cons_succ])
        clear kpb0 kpb1 kpb2 kpb3 kpc0 kpc1 kpc2 kpc3
        refine wpT_one rfl rfl (fun K hK => ?_)
        go_simp
        refine (M.before t2 tc (u2, y2) (uc, yc) b2 b1 _ H2.out.1 H2.out.2 Htc.out.1 Htc.out.2 B2.out.1 B2.out.2 Huc.out.1 Huc.out.2).mono ?_
        rw [← HD3.out]
        rintro e x9 ⟨rfl, g⟩
        refine hK _ _ g ?_
        clear hK K
        have G9 : Hid (Fr wc.drew x9 (fun _ => False)) := G8.out.none g
        clear g
        try simp only [Act.put, List.setIfInBounds_toArray, List.set_cons_zero, List.set_cons_succ]
        refine wpT_one rfl rfl (fun K hK => ?_)
        go_simp
        refine (refBefore8_any t2 tc (u2, y2) (uc, yc) b2 b1 _).mono ?_
        rw [← HD3.out]
        rintro e x10 ⟨rfl, g⟩
        refine hK _ _ g ?_
        clear hK K
        have G10 : Hid (Fr wc.drew x10 (fun _ => False)) := G9.out.none g
        clear g
        try simp only [Act.put, List.setIfInBounds_toArray, List.set_cons_zero, List.set_cons_succ]
        have kpa0 : ∀ z, Fr x10 z (fun _ => False) → z.cell? ⟨pa, 0, none⟩ = _ := fun z hz => (four_cells (P5.out z (G10.out.none hz))).1
        have kpa1 : ∀ z, Fr x10 z (fun _ => False) → z.cell? ⟨pa, 1, none⟩ = _ := fun z hz => (four_cells (P5.out z (G10.out.none hz))).2.1
        have kpa2 : ∀ z, Fr x10 z (fun _ => False) → z.cell? ⟨pa, 2, none⟩ = _ := fun z hz => (four_cells (P5.out z (G10.out.none hz))).2.2.1
        have kpa3 : ∀ z, Fr x10 z (fun _ => False) → z.cell? ⟨pa, 3, none⟩ = _ := fun z hz => (four_cells (P5.out z (G10.out.none hz))).2.2.2
        repeat (refine wpT_take (v := ?_) rfl rfl (fun x hx => ?_) ?_; rotate_left; (focus (go_simp; with_reducible rfl)); simp only [Act.put, List.setIfInBounds_toArray, List.set_cons_zero, List.set_cons_succ])
        clear kpa0 kpa1 kpa2 kpa3
        refine wpT_one rfl rfl (fun K hK => ?_)
        go_simp
        refine (M.before t1 t1 (u1, y1) (u1, y1) b1 b1 _ H1.out.1 H1.out.2 H1.out.1 H1.out.2 B1.out.1 B1.out.2 B1.out.1 B1.out.2).mono ?_
        rw [before_self]
        rintro e x11 ⟨rfl, g⟩
        refine hK _ _ g ?_
        clear hK K
        have G11 : Hid (Fr wc.drew x11 (fun _ => False)) := G10.out.none g
        clear g
        try simp only [Act.put, List.setIfInBounds_toArray, List.set_cons_zero, List.set_cons_succ]
        repeat (refine wpT_take (v := ?_) rfl rfl (fun x hx => ?_) ?_; rotate_left; (focus (go_simp; with_reducible rfl)); simp only [Act.put, List.setIfInBounds_toArray, List.set_cons_zero, List.set_cons_succ])
        have Hfo : Hid (Fr w x11 (fun _ => False)) := Hfw.out.drew.none G11.out
        unfold wpT
        go_wp2_with fail
        go_ret
        exact ⟨rfl, ebelow Hfo.out⟩

end Go.Proofs.Ytgmancekamfinaa.edgeLists

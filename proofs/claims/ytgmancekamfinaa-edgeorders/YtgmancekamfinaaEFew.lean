/-
  The contract of the helper few of EdgeOrders: one of some events.
-/
import Derived.Test.YtgmancekamfinaaZRow
import Derived.Test.YtgmancekamfinaaERef
import Derived.Test.YtgmancekamfinaaTree
import Derived.Laws.Rows
import Derived.Laws.Tables
namespace Go.Proofs.Ytgmancekamfinaa
open Go.RowKit

theorem eventSize : (Try.prog.info? 35).map (·.size) = some 4 := by kernel_rfl
theorem fr_setRow {w : World} {p : Nat} {q : Nat} {cs : Array Value} (h : q = p) : Fr w (w.setRow q cs) (fun k => k = p) := by
  subst h
  exact ⟨rfl, rfl, rfl, by simp [World.setRow], fun k _ hk => setRow_other w q k cs hk⟩
theorem results_one {fn : Func} {p : Tmp} {ty : TypeId} (h : fn.results = #[.cell p ty]) {tmps : Array Value} {P : Program} {w : World} {b o : Nat} {v : Value} (hp : tmps.getD p undef = .pointer (some ⟨b, o, none⟩)) (hl : (loadVar ty ⟨b, o, none⟩).run P w = .ok v w) :
    (results fn tmps).run P w = .ok v w := by
  have hp' : tmps[p]?.getD undef = .pointer (some ⟨b, o, none⟩) := by rw [← hp]; simp
  simp [results, h, asAddr, hp', hl]

set_option maxRecDepth 4000 in
set_option maxHeartbeats 800000 in
theorem few_any (a0 a1 : Option Addr) (n c0 m c1 i : Nat) (es : List (Nat × Nat)) (zs : List Int) (w : World) (h0 : RdE w (.slice a0 n c0) es) (h1 : ReadsZ w (.slice a1 m c1) zs) (hes : es.length = n) (hzs : zs.length = m) (hn0 : 0 < n) (hn : n ≤ 20) (hm : n ≤ m) (hi : i < 256) (hb : ∀ z ∈ zs, -9223372036854775808 ≤ z ∧ z ≤ 9223372036854775807) :
    Calls Try.prog 17 #[.slice a0 n c0, .slice a1 m c1, .int .u8 (i : Int)] w fun e w' => ∃ (t : Int) (u v : Nat), e = .returned (eventV t (u, v) false) ∧ (-9223372036854775808 ≤ t ∧ t ≤ 9223372036854775807) ∧ (u < 4294967296 ∧ v < 4294967296) ∧ Fr w w' (fun _ => False) := by
  obtain ⟨k, hk⟩ : ∃ k, k = i % n := ⟨_, rfl⟩
  have hkn : k < n := by rw [hk]; exact Nat.mod_lt _ hn0
  have r1 : (i : Int).tmod (n : Int) = (k : Int) := by rw [Int.tmod_eq_emod_of_nonneg (by omega), hk]; simp
  have r1b : (i : Int) % (n : Int) = (k : Int) := by rw [hk]; simp
  have wi : IntKind.i64.wrap (i : Int) = (i : Int) := IntWalk.i64_in _ (by omega)
  have hz : ((n : Int) == 0) = false := by rw [beq_eq_false_iff_ne]; omega
  have hk1 : (k : Int) < (n : Int) := by omega
  have hk2 : (k : Int) < (m : Int) := by omega
  obtain ⟨⟨a, b⟩, hab⟩ : ∃ a, es[k]? = some a := ⟨_, List.getElem?_eq_getElem (by omega)⟩
  obtain ⟨z, hz1⟩ : ∃ a, zs[k]? = some a := ⟨_, List.getElem?_eq_getElem (by omega)⟩
  obtain ⟨b0, o0, c0', e0, hb0, hc0⟩ := h0.get k _ hab
  obtain ⟨b1, o1, c1', e1, hc1⟩ := h1.get k z hz1
  rw [hes] at e0
  rw [hzs] at e1
  simp only [Value.slice.injEq] at e0 e1
  obtain ⟨rfl, -, rfl⟩ := e0
  obtain ⟨rfl, -, rfl⟩ := e1
  obtain ⟨ca, cb⟩ := hc0 w (Fr.refl _ _)
  have hb1 : b1 < w.heap.size := World.block_lt_of_cell? _ _ hc1
  have hzb := hb z (List.mem_of_getElem? hz1)
  obtain ⟨t, ht⟩ : ∃ t, t = z.tmod 3 := ⟨_, rfl⟩
  have htb : -9223372036854775808 ≤ t ∧ t ≤ 9223372036854775807 := by
    rw [ht]
    rcases Int.le_total 0 z with h | h
    · rw [Int.tmod_eq_emod_of_nonneg h]; omega
    · have := Int.neg_tmod (-z) 3
      rw [Int.neg_neg, Int.tmod_eq_emod_of_nonneg (show (0 : Int) ≤ -z by omega)] at this
      omega
  have rt : z.tmod 3 = t := ht.symm
  have wt : IntKind.i64.wrap t = t := IntWalk.i64_in _ (by omega)
  obtain ⟨u, hu⟩ : ∃ u, u = a % 3 := ⟨_, rfl⟩
  obtain ⟨v, hv⟩ : ∃ u, u = b % 3 := ⟨_, rfl⟩
  have ru : (a : Int).tmod 3 = (u : Int) := by rw [Int.tmod_eq_emod_of_nonneg (by omega)]; omega
  have rub : (a : Int) % 3 = (u : Int) := by omega
  have rv : (b : Int).tmod 3 = (v : Int) := by rw [Int.tmod_eq_emod_of_nonneg (by omega)]; omega
  have rvb : (b : Int) % 3 = (v : Int) := by omega
  have Hu : Hid (u < 4294967296 ∧ v < 4294967296) := by constructor <;> omega
  have Ht : Hid _ := htb
  have hk0 : (0 : Int) ≤ (k : Int) := by omega
  obtain ⟨p, hp⟩ : ∃ p, p = w.heap.size := ⟨_, rfl⟩
  obtain ⟨wa, hwa⟩ : ∃ wa, wa = w.alloc (.cells #[.int .i64 0, .int .u32 0, .int .u32 0, .bool false] 35) := ⟨_, rfl⟩
  have hpb : wa.heap[p]? = some (.cells #[.int .i64 0, .int .u32 0, .int .u32 0, .bool false] 35 (0, 0)) := by rw [hwa, hp]; exact heap_alloc_new _ _
  have Hwa : Hid (Fr w wa (fun _ => False)) := by show Fr _ _ _; rw [hwa]; exact (Fr.refl _ _).alloc _
  have g0 : ∀ z, Fr wa.drew z (fun k => k = p) → z.cell? ⟨b0, o0 + k * 2, none⟩ = some (.int .u32 (a : Int)) := fun x hx => (World.cell?_of_block (w := w) ((hx.block b0 (by have := Hwa.out.size; show b0 < wa.heap.size; omega) (by show ¬ b0 = p; omega)).trans (Hwa.out.block b0 hb0 (fun h => h)))).trans ca
  have g1 : ∀ z, Fr wa.drew z (fun k => k = p) → z.cell? ⟨b0, o0 + k * 2 + 1, none⟩ = some (.int .u32 (b : Int)) := fun x hx => (World.cell?_of_block (w := w) ((hx.block b0 (by have := Hwa.out.size; show b0 < wa.heap.size; omega) (by show ¬ b0 = p; omega)).trans (Hwa.out.block b0 hb0 (fun h => h)))).trans cb
  have g2 : ∀ x, Fr wa.drew x (fun k => k = p) → x.cell? ⟨b1, o1 + k, none⟩ = some (.int .i64 z) := fun x hx => (World.cell?_of_block (w := w) ((hx.block b1 (by have := Hwa.out.size; show b1 < wa.heap.size; omega) (by show ¬ b1 = p; omega)).trans (Hwa.out.block b1 hb1 (fun h => h)))).trans hc1
  have Hpb : Hid _ := hpb
  have Hp : Hid _ := hp
  have Hwae : Hid _ := hwa
  clear hk hab hz1 hc0 hc1 ca cb hb1 hzb ht hu hv htb hb h0 h1 hb0 hpb hp hwa hes hzs
  go_enter Try.func17, Try.ntmps17
  go_wp2_with fail
  rw [← Hwae.out, ← Hp.out]
  refine wp_region_tree (fun k => k = p) (.take 0 (.take 1 (.take 2 (.take 3 (.take 4 (.take 5 (.take 6 (.take 7 (.take 8 (.take 9 (.take 10 (.take 11 (.take 12 (.take 13 (.take 14 (.take 15 (.take 16 (.take 17 (.take 18 (.one 19 .nil)))))))))))))))))))) (by kernel_rfl) (by kernel_rfl) (by decide) (by kernel_rfl) ?_
  repeat (refine wpT_take (v := ?_) rfl rfl (fun x hx => ?_) ?_; rotate_left; (focus (go_simp; with_reducible rfl)); simp only [Act.put, List.setIfInBounds_toArray, List.set_cons_zero, List.set_cons_succ])
  refine wpT_one rfl rfl (fun K hK => ?_)
  refine wp_store_row 35 (.tmp 6) (.tmp 31) rfl p #[.int .i64 t, .int .u32 (u : Int), .int .u32 (v : Int), .bool false] rfl rfl 35 _ (show wa.drew.heap[p]? = _ from Hpb.out) eventSize rfl (by simp [Value.oneCell']) ?_
  refine hK _ _ (fr_setRow rfl) ?_
  have Hfo : Hid (Fr w (wa.drew.setRow p #[.int .i64 t, .int .u32 (u : Int), .int .u32 (v : Int), .bool false]) (fun _ => False)) := Hwa.out.drew.newer (fr_setRow rfl) (fun i hi => by rw [hi, Hp.out]; exact Nat.le_refl _)
  have Hl : Hid ((loadVar 35 ⟨p, 0, none⟩).run Try.prog (wa.drew.setRow p #[.int .i64 t, .int .u32 (u : Int), .int .u32 (v : Int), .bool false]) = .ok (.agg #[.int .i64 t, .int .u32 (u : Int), .int .u32 (v : Int), .bool false]) (wa.drew.setRow p #[.int .i64 t, .int .u32 (u : Int), .int .u32 (v : Int), .bool false])) := run_loadVar_row _ _ 35 _ _ (0, 0) _ (setRow_heap _ _ _ _ _ _ (show wa.drew.heap[p]? = _ from Hpb.out)) Try.underlying35 rfl eventSize
  generalize wa.drew.setRow p #[.int .i64 t, .int .u32 (u : Int), .int .u32 (v : Int), .bool false] = wo at Hfo Hl ⊢
  clear hK K g0 g1 g2
  unfold wpT
  simp only [Act.put]
  go_wp2_with fail
  refine bodyPost_ret (results_one rfl rfl Hl.out) rfl ?_
  exact ⟨t, u, v, rfl, Ht.out, Hu.out, Hfo.out⟩

end Go.Proofs.Ytgmancekamfinaa

/-
  The contract of the seat's Change: some bytes come, no more than both had.
-/
import Derived.Test.YtnffjafddbbjaaaGreatDoorBytes
import Derived.Test.YtnffjafddbbjaaaGreatDoorJ1
import Derived.Deep.CutRange
namespace Go.Proofs.YtnffjafddbbjaaaGreatDoor
open Go.RowKit

theorem Own.put {w : World} {g c n : Nat} {bs : List Nat} (h : Own w (.slice (some ⟨g, 0, none⟩) n c) bs) (hn : bs.length = n) (k x : Nat) : Own (w.setCell ⟨g, k, none⟩ (.int .u8 (x : Int))) (.slice (some ⟨g, 0, none⟩) n c) (bs.set k x) := by
  subst hn
  have := (World.ownsRow.stored h k (.int .u8 (x : Int))).1
  unfold Own
  rw [List.length_set, row_set]
  exact this
theorem Own.free {w : World} {g c n : Nat} {bs : List Nat} (h : Own w (.slice (some ⟨g, 0, none⟩) n c) bs) (hn : bs.length = n) (j : Nat) : w.frozen? ⟨g, j, none⟩ = false := by
  subst hn
  exact World.ownsRow.frozenAt h j
theorem Own.cell {w : World} {g c n : Nat} {bs : List Nat} (h : Own w (.slice (some ⟨g, 0, none⟩) n c) bs) (hn : bs.length = n) (j : Nat) (hj : j < n) : w.cell? ⟨g, j, none⟩ = some (.int .u8 ((bs.getD j 0 : Nat) : Int)) := by
  subst hn
  rw [World.ownsRow.cellAt h j (by omega)]
  exact row_get .u8 bs j hj
theorem Own.form {w : World} {v : Value} {bs : List Nat} (h : Own w v bs) (hp : 0 < bs.length) : ∃ g c, v = .slice (some ⟨g, 0, none⟩) bs.length c ∧ bs.length ≤ c := by
  rcases h.2 with ⟨-, h0⟩ | ⟨g, cap, cur, rfl, h1, h2, h3, h4, -⟩
  · omega
  · exact ⟨g, cap, rfl, h3⟩
theorem set_lt {bs : List Nat} (h : ∀ x ∈ bs, x < 256) (k x : Nat) (hx : x < 256) : ∀ y ∈ bs.set k x, y < 256 := fun y hy => by
  rcases List.mem_or_eq_of_mem_set hy with h1 | rfl
  · exact h y h1
  · exact hx

set_option maxRecDepth 4000 in
set_option maxHeartbeats 3200000 in
theorem seatChange_any (v u : Value) (bs cs : List Nat) (how at_ x : Nat) (w : World) (hv : Reads .u8 w v bs) (hu : Reads .u8 w u cs) (hbs : ∀ y ∈ bs, y < 256) (hcs : ∀ y ∈ cs, y < 256) (hl : bs.length ≤ 1000000) (hl2 : cs.length ≤ 1000000) (hhow : how < 256) (hat : at_ < 65536) (hx : x < 256) :
    Calls Tryz.prog 16 #[v, .int .u8 (how : Int), .int .u16 (at_ : Int), .int .u8 (x : Int), u] w fun r w' => (∃ v' ds, r = .returned v' ∧ Reads .u8 w' v' ds ∧ (∀ y ∈ ds, y < 256) ∧ ds.length ≤ bs.length + cs.length) ∧ Fr w w' (fun _ => False) := by
  obtain ⟨a0, c0, rfl, hc0, -⟩ := id hv
  rw [length_row] at hc0 hv ⊢
  obtain ⟨n, hn⟩ : ∃ n, n = bs.length := ⟨_, rfl⟩
  rw [← hn] at hv hl hc0 ⊢
  have Hn : Hid (n = bs.length) := hn
  have Hv : Hid (Reads .u8 w (.slice a0 n c0) bs) := hv
  have Hu : Hid (Reads .u8 w u cs) := hu
  have Hbs : Hid (∀ y ∈ bs, y < 256) := hbs
  have Hcs : Hid (∀ y ∈ cs, y < 256) := hcs
  have Hl2 : Hid (cs.length ≤ 1000000) := hl2
  clear hn hv hu hbs hcs hl2
  obtain ⟨v1, w1, hrun1, ho1, hf1, hm1, -⟩ := app_bytes w (.slice none 0 0) (.slice a0 n c0) [] bs (Own.nil w) Hv.out (by rw [← Hn.out]; simp; omega)
  rw [List.nil_append] at ho1
  have Ho1 : Hid (Own w1 v1 bs) := ho1
  have Hf1 : Hid (Fr w w1 (fun _ => False)) := hf1.mono (fun _ _ h => by cases h)
  have Hm1 : Hid (∀ k, v1.ownBlock = some k → w.heap.size ≤ k) := fun k hk => by
    rcases hm1 k hk with h | h
    · cases h
    · exact h
  clear ho1 hf1 hm1
  go_enter Tryz.func16, Tryz.ntmps16
  by_cases h0 : n = 0
  · subst h0
    obtain ⟨a1, c1, rfl⟩ : ∃ a c, v1 = .slice a 0 c := by
      obtain ⟨a, c, e, -⟩ := Ho1.out.reads
      rw [length_row, ← Hn.out] at e
      exact ⟨a, c, e⟩
    obtain ⟨v2, w2, hrun2, ho2, hf2, -, -⟩ := app_bytes w1 (.slice none 0 0) u [] cs (Own.nil w1) (Hu.out.keep Hf1.out) (by have := Hl2.out; simp; omega)
    rw [List.nil_append] at ho2
    have Ho2 : Hid (Own w2 v2 cs) := ho2
    have Hf2 : Hid (Fr w w2 (fun _ => False)) := Hf1.out.none (hf2.mono (fun _ _ h => by cases h))
    clear ho2 hf2
    go_wp2_with (at_builtin; first | refine wpList_append_run rfl (.const (.slice none 0 0)) (.tmp 13) 26 rfl rfl rfl hrun1 ?_ | refine wpList_append_run rfl (.const (.slice none 0 0)) (.tmp 18) 26 rfl rfl rfl hrun2 ?_)
    go_ret
    exact ⟨⟨v2, cs, rfl, Ho2.out.reads, Hcs.out, by omega⟩, Hf2.out⟩
  obtain ⟨g, c1, rfl, hc1⟩ := Ho1.out.form (by rw [← Hn.out]; omega)
  rw [← Hn.out] at hrun1 hc1
  have Ho : Hid (Own w1 (.slice (some ⟨g, 0, none⟩) n c1) bs) := by have := Ho1.out; rwa [← Hn.out] at this
  have Hg : Hid (w.heap.size ≤ g) := Hm1.out g rfl
  clear Ho1 Hm1
  obtain ⟨k, hk⟩ : ∃ k, k = at_ % n := ⟨_, rfl⟩
  have hkn : k < n := by rw [hk]; exact Nat.mod_lt _ (by omega)
  have hkt : (at_ : Int).tmod (n : Int) = (k : Int) := by rw [Int.tmod_eq_emod_of_nonneg (by omega), hk]; simp
  have hwa : IntKind.i64.wrap (at_ : Int) = (at_ : Int) := IntWalk.i64_in _ (by omega)
  have hwk : IntKind.i64.wrap (k : Int) = (k : Int) := IntWalk.i64_in _ (by omega)
  have hn0 : ((n : Int) == 0) = false := by rw [beq_eq_false_iff_ne]; omega
  have hkc : k ≤ c0 := by omega
  have hkle : k ≤ n := by omega
  have hkle1 : k + 1 ≤ n := by omega
  have hkc2 : k + 1 ≤ c0 := by omega
  have hq1 : (0 : Int) ≤ (k : Int) + 1 := by omega
  have hq2 : (k : Int) + 1 ≤ (n : Int) := by omega
  have hw1 : IntKind.i64.wrap ((k : Int) + 1) = ((k + 1 : Nat) : Int) := by rw [IntWalk.i64_in _ (by omega)]; rfl
  have hkc1 : k ≤ c1 := by omega
  clear hk
  obtain ⟨m, hm⟩ : ∃ m, m = how % 5 := ⟨_, rfl⟩
  have hm5 : m < 5 := by omega
  have hmt : (how : Int).tmod 5 = (m : Int) := by rw [Int.tmod_eq_emod_of_nonneg (by omega)]; omega
  have hmw : IntKind.u8.wrap (m : Int) = (m : Int) := by rw [IntKind.wrap_u8]; omega
  clear hm
  have hfree := Ho.out.free Hn.out.symm
  have hcell := Ho.out.cell Hn.out.symm k hkn
  go_upto_region 5 with (at_builtin; refine wpList_append_run rfl (.const (.slice none 0 0)) (.tmp 13) 26 rfl rfl rfl hrun1 ?_)
  clear hrun1 hkt hwa
  have hset : m ≤ 1 → Fr w (w1.setCell ⟨g, k, none⟩ (.int .u8 (x : Int))) (fun _ => False) := fun _ => Hf1.out.setCell _ (fun h => by have := Hg.out; dsimp only at h; omega) _
  have hput := Ho.out.put Hn.out.symm k x
  have Hput : Hid _ := hput
  have Hset : Hid _ := hset
  clear hput hset
  obtain rfl | rfl | rfl | rfl | rfl : m = 0 ∨ m = 1 ∨ m = 2 ∨ m = 3 ∨ m = 4 := by omega
  · go_wp2_with fail
    go_ret
    exact ⟨⟨_, _, rfl, Own.reads Hput.out, set_lt Hbs.out k x hx, by rw [List.length_set, ← Hn.out]; omega⟩, Hset.out (by omega)⟩
  · go_wp2_with fail
    go_ret
    exact ⟨⟨_, _, rfl, Own.reads Hput.out, set_lt Hbs.out k x hx, by rw [List.length_set, ← Hn.out]; omega⟩, Hset.out (by omega)⟩
  · have Hsz : Hid (w.heap.size ≤ w1.heap.size) := Hf1.out.size
    have HT : Hid (∀ z, Fr w z (fun _ => False) → Reads .u8 z (.slice a0 k c0) (bs.take k)) := fun z hz => by
      have := Holds.take (Hv.out.keep hz) k (by omega) c0 hkc
      rwa [← row_take] at this
    have hd : ∀ z, Fr w z (fun _ => False) → Reads .u8 z (.slice (if c0 = k then a0 else Option.map (fun x => x.add (k)) a0) (n - (k)) (c0 - (k))) (bs.drop (k)) := fun z hz => reads_drop (Hv.out.keep hz) _ (by omega)
    have HD : Hid _ := hd
    clear hd
    obtain ⟨x0, hx0⟩ : ∃ x, x = w1.drew := ⟨_, rfl⟩
    have F0 : Hid (Fr w x0 (fun _ => False)) := by show Fr _ _ _; rw [hx0]; exact Hf1.out.none (Fr.refl _ _).drew
    have Z0 : Hid (w1.heap.size = x0.heap.size) := by show _ = _; rw [hx0]; rfl
    go_wp2_with fail
    refine wp_region_tree (fun j => w1.heap.size ≤ j) (.take 0 (.take 1 (.take 2 (.take 4 (.take 6 (.take 7 (.take 8 (.one 3 (.one 5 (.one 9 (.take 10 .nil))))))))))) (by kernel_rfl) (by kernel_rfl) (by decide) (by kernel_rfl) ?_
    rw [← hx0]
    clear hx0
    repeat (refine wpT_take (v := ?_) rfl rfl (fun x hx => ?_) ?_; rotate_left; (focus (go_simp; with_reducible rfl)); simp only [Act.put, List.setIfInBounds_toArray, List.set_cons_zero, List.set_cons_succ])
    obtain ⟨v2, w2, hrun2, ho2, hf2, hm2, -⟩ := app_bytes x0 (.slice none 0 0) (.slice a0 k c0) [] (bs.take k) (Own.nil _) (HT.out _ F0.out) (by rw [List.length_take]; simp; omega)
    have N2 : Hid (∀ j, v2.ownBlock = some j → x0.heap.size ≤ j) := fun j hj => by
      rcases hm2 j hj with h | h
      · cases h
      · exact h
    have F2 : Hid (Fr x0 w2 (fun _ => False)) := hf2.mono (fun _ _ h => by cases h)
    refine wpT_one rfl rfl (fun K hK => ?_)
    refine op_append_run (.const (.slice none 0 0)) (.tmp 47) 26 rfl rfl rfl hrun2 ?_
    refine hK _ _ (F2.out.mono (fun _ _ h => h.elim)) ?_
    clear hK K
    simp only [Act.put, List.setIfInBounds_toArray, List.set_cons_zero, List.set_cons_succ]
    obtain ⟨v3, w3, hrun3, ho3, hf3, hm3, -⟩ := app_bytes w2 v2 u _ cs ho2 (Hu.out.keep (F0.out.none F2.out)) (by have := Hl2.out; rw [List.nil_append, List.length_take]; omega)
    have N3 : Hid (∀ j, v3.ownBlock = some j → x0.heap.size ≤ j) := fun j hj => by
      rcases hm3 j hj with h | h
      · exact N2.out j h
      · have := F2.out.size; omega
    have F3 : Hid (Fr x0 w3 (fun _ => False)) := F2.out.newer hf3 (fun j hj => N2.out j hj)
    refine wpT_one rfl rfl (fun K hK => ?_)
    refine op_append_run (.tmp 48) (.tmp 49) 26 rfl rfl rfl hrun3 ?_
    refine hK _ _ (hf3.mono (fun j _ h => by have := N2.out j h; rw [Z0.out]; exact this)) ?_
    clear hK K
    simp only [Act.put, List.setIfInBounds_toArray, List.set_cons_zero, List.set_cons_succ]
    obtain ⟨v4, w4, hrun4, ho4, hf4, hm4, -⟩ := app_bytes w3 v3 _ _ _ ho3 (HD.out _ (F0.out.none F3.out)) (by have := Hl2.out; have := Hn.out; simp only [List.nil_append, List.length_append, List.length_take, List.length_drop]; omega)
    have F4 : Hid (Fr x0 w4 (fun _ => False)) := F3.out.newer hf4 (fun j hj => N3.out j hj)
    refine wpT_one rfl rfl (fun K hK => ?_)
    refine op_append_run (.tmp 50) (.tmp 53) 26 rfl rfl rfl hrun4 ?_
    refine hK _ _ (hf4.mono (fun j _ h => by have := N3.out j h; rw [Z0.out]; exact this)) ?_
    clear hK K
    simp only [Act.put, List.setIfInBounds_toArray, List.set_cons_zero, List.set_cons_succ]
    repeat (refine wpT_take (v := ?_) rfl rfl (fun x hx => ?_) ?_; rotate_left; (focus (go_simp; with_reducible rfl)); simp only [Act.put, List.setIfInBounds_toArray, List.set_cons_zero, List.set_cons_succ])
    have F5 : Hid (Fr w w4 (fun _ => False)) := F0.out.none F4.out
    have H4 : Hid _ := ho4
    unfold wpT
    go_wp2_with fail
    go_ret
    refine ⟨⟨_, rfl, _, Own.reads H4.out, ?_, ?_⟩, F5.out⟩
    · intro y hy
      rw [List.mem_append, List.mem_append, List.nil_append] at hy
      rcases hy with (hy | hy) | hy
      · exact mem_take_lt Hbs.out y hy
      · exact Hcs.out y hy
      · exact Hbs.out y (List.mem_of_mem_drop hy)
    · have := Hn.out
      simp only [List.nil_append, List.length_append, List.length_take, List.length_drop]
      omega
  · have hR : Reads .u8 w1 (.slice (some ⟨g, 0, none⟩) k c1) (bs.take k) := by
      have := Holds.take Ho.out.reads k (by omega) c1 hkc1
      rwa [← row_take] at this
    have HR : Hid _ := hR
    clear hR
    go_wp2_with fail
    go_ret
    exact ⟨⟨_, _, rfl, HR.out, mem_take_lt Hbs.out, by rw [List.length_take]; omega⟩, Hf1.out⟩
  · have Hsz : Hid (w.heap.size ≤ w1.heap.size) := Hf1.out.size
    have HT : Hid (∀ z, Fr w z (fun _ => False) → Reads .u8 z (.slice a0 k c0) (bs.take k)) := fun z hz => by
      have := Holds.take (Hv.out.keep hz) k (by omega) c0 hkc
      rwa [← row_take] at this
    have hd : ∀ z, Fr w z (fun _ => False) → Reads .u8 z (.slice (if c0 = k + 1 then a0 else Option.map (fun x => x.add (k + 1)) a0) (n - (k + 1)) (c0 - (k + 1))) (bs.drop (k + 1)) := fun z hz => reads_drop (Hv.out.keep hz) _ (by omega)
    have HD : Hid _ := hd
    clear hd
    obtain ⟨x0, hx0⟩ : ∃ x, x = w1.drew := ⟨_, rfl⟩
    have F0 : Hid (Fr w x0 (fun _ => False)) := by show Fr _ _ _; rw [hx0]; exact Hf1.out.none (Fr.refl _ _).drew
    have Z0 : Hid (w1.heap.size = x0.heap.size) := by show _ = _; rw [hx0]; rfl
    go_wp2_with fail
    refine wp_region_tree (fun j => w1.heap.size ≤ j) (.take 0 (.take 1 (.take 2 (.take 4 (.take 5 (.take 6 (.take 7 (.one 3 (.one 8 (.take 9 .nil)))))))))) (by kernel_rfl) (by kernel_rfl) (by decide) (by kernel_rfl) ?_
    rw [← hx0]
    clear hx0
    repeat (refine wpT_take (v := ?_) rfl rfl (fun x hx => ?_) ?_; rotate_left; (focus (go_simp; with_reducible rfl)); simp only [Act.put, List.setIfInBounds_toArray, List.set_cons_zero, List.set_cons_succ])
    obtain ⟨v2, w2, hrun2, ho2, hf2, hm2, -⟩ := app_bytes x0 (.slice none 0 0) (.slice a0 k c0) [] (bs.take k) (Own.nil _) (HT.out _ F0.out) (by rw [List.length_take]; simp; omega)
    have N2 : Hid (∀ j, v2.ownBlock = some j → x0.heap.size ≤ j) := fun j hj => by
      rcases hm2 j hj with h | h
      · cases h
      · exact h
    have F2 : Hid (Fr x0 w2 (fun _ => False)) := hf2.mono (fun _ _ h => by cases h)
    refine wpT_one rfl rfl (fun K hK => ?_)
    refine op_append_run (.const (.slice none 0 0)) (.tmp 29) 26 rfl rfl rfl hrun2 ?_
    refine hK _ _ (F2.out.mono (fun _ _ h => h.elim)) ?_
    clear hK K
    simp only [Act.put, List.setIfInBounds_toArray, List.set_cons_zero, List.set_cons_succ]
    obtain ⟨v4, w4, hrun4, ho4, hf4, hm4, -⟩ := app_bytes w2 v2 _ _ _ ho2 (HD.out _ (F0.out.none F2.out)) (by have := Hn.out; simp only [List.nil_append, List.length_take, List.length_drop]; omega)
    have F4 : Hid (Fr x0 w4 (fun _ => False)) := F2.out.newer hf4 (fun j hj => N2.out j hj)
    refine wpT_one rfl rfl (fun K hK => ?_)
    refine op_append_run (.tmp 30) (.tmp 34) 26 rfl rfl rfl hrun4 ?_
    refine hK _ _ (hf4.mono (fun j _ h => by have := N2.out j h; rw [Z0.out]; exact this)) ?_
    clear hK K
    simp only [Act.put, List.setIfInBounds_toArray, List.set_cons_zero, List.set_cons_succ]
    repeat (refine wpT_take (v := ?_) rfl rfl (fun x hx => ?_) ?_; rotate_left; (focus (go_simp; with_reducible rfl)); simp only [Act.put, List.setIfInBounds_toArray, List.set_cons_zero, List.set_cons_succ])
    have F5 : Hid (Fr w w4 (fun _ => False)) := F0.out.none F4.out
    have H4 : Hid _ := ho4
    unfold wpT
    go_wp2_with fail
    all_goals (
      go_ret
      refine ⟨⟨_, rfl, _, Own.reads H4.out, ?_, ?_⟩, F5.out⟩
      · intro y hy
        rw [List.mem_append, List.nil_append] at hy
        rcases hy with hy | hy
        · exact mem_take_lt Hbs.out y hy
        · exact Hbs.out y (List.mem_of_mem_drop hy)
      · have := Hn.out
        simp only [List.nil_append, List.length_append, List.length_take, List.length_drop]
        omega)

end Go.Proofs.YtnffjafddbbjaaaGreatDoor

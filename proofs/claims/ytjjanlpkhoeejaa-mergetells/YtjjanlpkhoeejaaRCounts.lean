/-
  The contract of the law's own counts: a number for each of some.
-/
import Derived.Test.YtjjanlpkhoeejaaRItems
import Derived.Test.YtjjanlpkhoeejaaRInts
namespace Go.Proofs.Ytjjanlpkhoeejaa
open Go.RowKit

/-- The number made of x. -/
def madeOf (k x : Nat) : Nat := [x, x % 3, x % 2 * 1000, 2 ^ (x % 40), x * x].getD ((k + x % 7) % 5) 0
theorem wrapI (z : Int) (n : Nat) (h : z = (n : Int)) (hn : n ≤ 9223372036854775807) : IntKind.i64.wrap z = (n : Int) := by rw [h, IntWalk.i64_in _ (by omega)]
theorem wrapU (z : Int) (n : Nat) (h : z = (n : Int)) (hn : n ≤ 65535) : IntKind.u16.wrap z = (n : Int) := by rw [h, IntKind.wrap_u16]; omega

set_option maxRecDepth 4000 in
set_option maxHeartbeats 1600000 in
theorem counts_any (v : Value) (xs : List Nat) (k : Nat) (w : World) (h : Reads .u16 w v xs) (hx : ∀ x ∈ xs, x < 65536) (hk : k < 256) (hl : xs.length ≤ 1000) :
    Calls Try.prog 10 #[v, .int .u8 (k : Int)] w fun e w' => ∃ sv, e = .returned sv ∧ OwnN w' sv (xs.map (madeOf k)) ∧ Fr w w' (fun _ => False) ∧ (∀ k, sv.ownBlock = some k → w.heap.size ≤ k) := by
  obtain ⟨ao, cap, rfl, hlc, hc⟩ := id h
  rw [length_row] at h hlc hc ⊢
  obtain ⟨n, hnn⟩ : ∃ n, n = xs.length := ⟨_, rfl⟩
  rw [← hnn] at h hlc hc hl ⊢
  have Hn : Hid _ := hnn
  have Hr : Hid (Reads .u16 w (.slice ao n cap) xs) := h
  have Hx : Hid _ := hx
  have Hc : Hid _ := hc
  clear hnn h hx hc
  go_enter Try.func10, Try.ntmps10
  go_wp2_with fail
  go_loopg [5, 6] n (fun g S I wr => ∃ i : Nat, g = n - i ∧ i ≤ n ∧ I = .int .i64 (i : Int) ∧ OwnN wr S ((xs.take i).map (madeOf k)) ∧ Fr w wr (fun _ => False) ∧ (∀ k, S.ownBlock = some k → w.heap.size ≤ k))
  case atStart => exact ⟨0, rfl, by omega, rfl, OwnN.nil _, Fr.refl _ _, fun k hk => by simp [Value.ownBlock] at hk⟩
  case round =>
    obtain ⟨i, hg, hi, rfl, ho, hf, hb⟩ := hrel
    have Hg : Hid _ := hg
    have Ho : Hid (OwnN wr u5 ((xs.take i).map (madeOf k))) := ho
    have Hb : Hid _ := hb
    clear hg ho hb
    by_cases hlt : i < n
    · obtain ⟨ao', cap', e, -, hcl⟩ := Hr.out.keep hf
      obtain ⟨b, off, rfl, hcell⟩ := hcl (by rw [length_row, ← Hn.out]; omega)
      simp only [Value.slice.injEq] at e
      obtain ⟨rfl, -, rfl⟩ := e
      have cg := hcell i _ (row_get .u16 xs i (by rw [← Hn.out]; exact hlt))
      have hel := getD_lt (by decide) Hx.out i
      have Hst : Hid ((xs.take (i + 1)).map (madeOf k) = (xs.take i).map (madeOf k) ++ [madeOf k (xs.getD i 0)]) := by
        show _ = _
        rw [take_step (by rw [← Hn.out]; exact hlt), List.map_append]; rfl
      generalize xs.getD i 0 = x at cg hel Hst
      have hbs : b < wr.heap.size := World.block_lt_of_cell? _ _ cg
      have hbS : ∀ j, u5.ownBlock = some j → j ≠ b := fun j hj e => by
        have h1 := Hb.out j hj
        have h2 := Hr.out
        obtain ⟨a2, c2, e2, -, hc2⟩ := h2
        obtain ⟨b2, o2, e3, hc3⟩ := hc2 (by rw [length_row, ← Hn.out]; omega)
        simp only [Value.slice.injEq] at e2
        obtain ⟨e4, -, -⟩ := e2
        rw [e3] at e4
        simp only [Option.some.injEq, Addr.mk.injEq, and_true] at e4
        have h5 := World.block_lt_of_cell? _ _ (hc3 0 _ (row_get .u16 xs 0 (by rw [← Hn.out]; omega)))
        simp at h5
        omega
      have kx : ∀ z, Fr wr.drew z (fun j => u5.ownBlock = some j) → z.cell? ⟨b, off + i, none⟩ = some (.int .u16 (x : Int)) := fun z hz => by
        rw [World.cell?_of_block (w := wr) (hz.block b hbs (fun h => hbS b h rfl))]
        exact cg
      have hi1 : (i : Int) < (n : Int) := by omega
      obtain ⟨r3, h3⟩ : ∃ r, r = x % 3 := ⟨_, rfl⟩
      obtain ⟨r2, h2⟩ : ∃ r, r = x % 2 := ⟨_, rfl⟩
      obtain ⟨r40, h40⟩ : ∃ r, r = x % 40 := ⟨_, rfl⟩
      obtain ⟨r7, h7⟩ : ∃ r, r = x % 7 := ⟨_, rfl⟩
      obtain ⟨s2, hs2⟩ : ∃ s, s = r2 * 1000 := ⟨_, rfl⟩
      obtain ⟨xx, hxx0⟩ : ∃ s, s = x * x := ⟨_, rfl⟩
      obtain ⟨k7, hk7⟩ : ∃ s, s = k + r7 := ⟨_, rfl⟩
      obtain ⟨q, hq⟩ : ∃ q, q = k7 % 5 := ⟨_, rfl⟩
      have t3 : (x : Int).tmod 3 = (r3 : Int) := by rw [Int.tmod_eq_emod_of_nonneg (by omega)]; omega
      have t2 : (x : Int).tmod 2 = (r2 : Int) := by rw [Int.tmod_eq_emod_of_nonneg (by omega)]; omega
      have t40 : (x : Int).tmod 40 = (r40 : Int) := by rw [Int.tmod_eq_emod_of_nonneg (by omega)]; omega
      have t7 : (x : Int).tmod 7 = (r7 : Int) := by rw [Int.tmod_eq_emod_of_nonneg (by omega)]; omega
      have t5 : (k7 : Int).tmod 5 = (q : Int) := by rw [Int.tmod_eq_emod_of_nonneg (by omega)]; omega
      have wx := wrapI (x : Int) x rfl (by omega)
      have w3 := wrapI (r3 : Int) r3 rfl (by omega)
      have w2 := wrapI (r2 : Int) r2 rfl (by omega)
      have w7 := wrapI (r7 : Int) r7 rfl (by omega)
      have wk := wrapI (k : Int) k rfl (by omega)
      have ws2 := wrapI ((r2 : Int) * 1000) s2 (by omega) (by omega)
      have wk7 := wrapI ((k : Int) + (r7 : Int)) k7 (by omega) (by omega)
      have wxx := wrapI ((x : Int) * (x : Int)) xx (by rw [hxx0]; simp) (by rw [hxx0]; have := Nat.mul_le_mul (by omega : x ≤ 65535) (by omega : x ≤ 65535); omega)
      have hq5 : q < 5 := by omega
      have hr40 : r40 ≤ 39 := by omega
      have Hmade : Hid (madeOf k x = [x, r3, s2, 2 ^ r40, xx].getD q 0) := by show _ = _; unfold madeOf; rw [hq, hk7, hxx0, hs2, h40, h7, h2, h3]
      have p40 : 2 ^ r40 ≤ 549755813888 := Nat.le_trans (Nat.pow_le_pow_right (by omega) hr40) (by decide)
      obtain ⟨P, hP⟩ : ∃ P, P = 2 ^ r40 := ⟨_, rfl⟩
      rw [← hP] at p40 Hmade
      have wP := wrapI ((2 : Int) ^ r40) P (by rw [hP]; simp) (by omega)
      clear hcl hcell cg h3 h2 h40 h7 hs2 hxx0 hk7 hq hP
      go_wp2
      refine wp_region_tree (fun j => u5.ownBlock = some j) (.take 0 (.take 1 (.take 2 (.take 3 (.take 4 (.take 5 (.take 6 (.take 7 (.take 8 (.take 9 (.take 10 (.take 11 (.take 12 (.take 13 (.take 14 (.take 15 (.take 16 (.take 17 (.take 18 (.take 19 (.take 20 (.take 21 (.take 22 (.take 23 (.take 24 (.take 25 (.take 26 (.take 27 (.take 28 (.take 29 (.take 30 (.take 31 (.take 32 (.take 33 (.take 34 (.take 35 (.take 37 (.take 38 (.take 39 (.take 40 (.take 41 (.take 42 (.take 43 (.take 44 (.take 45 (.take 46 (.one 36 (.take 47 (.take 48 (.one 49 (.one 50 (.take 51 .nil)))))))))))))))))))))))))))))))))))))))))))))))))))) (by kernel_rfl) (by kernel_rfl) (by decide) (by kernel_rfl) ?_
      repeat (refine wpT_take (v := ?_) rfl rfl (fun x hx => ?_) ?_; rotate_left; (focus (go_simp; with_reducible rfl)); simp only [Act.put, List.setIfInBounds_toArray, List.set_cons_zero, List.set_cons_succ])
      clear kx t3 t2 t40 t7 t5 wx w3 w2 w7 wk ws2 wk7 wxx wP
      have hTu : ∀ j, u5.ownBlock = some j → j < wr.heap.size := Ho.out.lt
      obtain ⟨y, hy⟩ : ∃ y, y = madeOf k x := ⟨_, rfl⟩
      have hblk : ∀ z, Fr (wr.alloc (.cells #[.int .i64 (x : Int), .int .i64 (r3 : Int), .int .i64 (s2 : Int), .int .i64 (P : Int), .int .i64 (xx : Int)] 3)).drew z (fun j => u5.ownBlock = some j) → z.cell? ⟨wr.heap.size, q, none⟩ = some (.int .i64 (y : Int)) := fun z hz => by
        have h1 : z.heap[wr.heap.size]? = some (.cells #[.int .i64 (x : Int), .int .i64 (r3 : Int), .int .i64 (s2 : Int), .int .i64 (P : Int), .int .i64 (xx : Int)] 3 (0, 0)) := hz.kept (heap_alloc_new _ _) (fun h => by have := hTu _ h; omega)
        have h2 := row_get .i64 [x, r3, s2, P, xx] q (by simpa using hq5)
        rw [← Hmade.out, ← hy] at h2
        simp only [World.cell?, h1]
        rw [if_neg (by simp)]
        have h3 : (row .i64 [x, r3, s2, P, xx]).toArray[q]? = some (.int .i64 (y : Int)) := by rw [List.getElem?_toArray]; exact h2
        exact h3
      have Hy : Hid _ := hy
      have hq5' : (q : Int) < 5 := by omega
      clear hy
      refine wpT_one rfl rfl (fun K hK => ?_)
      go_simp
      refine hK _ _ (((Fr.refl wr.drew (fun _ => False)).alloc _).mono (fun _ _ h => h.elim)) ?_
      clear hK K
      repeat (refine wpT_take (v := ?_) rfl rfl (fun x hx => ?_) ?_; rotate_left; (focus (go_simp; with_reducible rfl)); simp only [Act.put, List.setIfInBounds_toArray, List.set_cons_zero, List.set_cons_succ])
      clear hblk
      have hf2 : Fr wr (wr.alloc (.cells #[.int .i64 (x : Int), .int .i64 (r3 : Int), .int .i64 (s2 : Int), .int .i64 (P : Int), .int .i64 (xx : Int)] 3)).drew (fun _ => False) := ((Fr.refl wr (fun _ => False)).alloc _).drew
      generalize (wr.alloc (.cells #[.int .i64 (x : Int), .int .i64 (r3 : Int), .int .i64 (s2 : Int), .int .i64 (P : Int), .int .i64 (xx : Int)] 3)).drew = w2 at hf2 ⊢
      refine wpT_one rfl rfl (fun K hK => ?_)
      go_simp
      refine hK _ _ (((Fr.refl w2 (fun _ => False)).alloc _).mono (fun _ _ h => h.elim)) ?_
      clear hK K
      obtain ⟨v5, w5, hrun5, ho5, hf5, hm5, -⟩ := app_ints (w2.alloc (.cells #[.int .i64 (y : Int)] 3)) u5 (.slice (some ⟨w2.heap.size, 0, none⟩) 1 1) _ [y] ((Ho.out.frame hf2 (fun _ _ h => h)).alloc _) (holds_lit w2 3 [.int .i64 (y : Int)] (by simp)) (by rw [List.length_map, List.length_take]; simp; omega)
      refine wpT_one rfl rfl (fun K hK => ?_)
      refine op_append_run (.tmp 13) (.tmp 62) 22 rfl rfl rfl hrun5 ?_
      refine hK _ _ hf5 ?_
      clear hK K
      simp only [Act.put, List.setIfInBounds_toArray, List.set_cons_zero, List.set_cons_succ]
      repeat (refine wpT_take (v := ?_) rfl rfl (fun x hx => ?_) ?_; rotate_left; (focus (go_simp; with_reducible rfl)); simp only [Act.put, List.setIfInBounds_toArray, List.set_cons_zero, List.set_cons_succ])
      have hf6 : Fr w w5 (fun _ => False) := (hf.none (hf2.alloc _)).newer hf5 (fun j hj => Hb.out j hj)
      unfold wpT
      go_wp2
      go_roundg (n - (i + 1))
      case rel =>
        refine ⟨i + 1, rfl, by omega, by go_num, ?_, hf6, fun j hj => ?_⟩
        · rw [Hst.out, ← Hy.out]; exact ho5
        · rcases hm5 j hj with h | h
          · exact Hb.out j h
          · have := (hf.none (hf2.alloc (.cells #[.int .i64 (y : Int)] 3))).size
            omega
      case measure => rw [Hg.out]; omega
    · obtain rfl : i = n := by omega
      go_wp2
      go_ret
      refine ⟨_, rfl, ?_, hf, Hb.out⟩
      have := Ho.out
      rwa [List.take_of_length_le (by rw [← Hn.out]; exact Nat.le_refl _)] at this

end Go.Proofs.Ytjjanlpkhoeejaa

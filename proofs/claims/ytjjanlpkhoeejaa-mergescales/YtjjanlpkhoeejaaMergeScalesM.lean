/-
  The walk of the law MergeScales, under the condition that merge's functions answer as their contracts say.
-/
import Derived.Test.YtjjanlpkhoeejaaRows
import Derived.Test.YtjjanlpkhoeejaaMHelp
namespace Go.Proofs.Ytjjanlpkhoeejaa.mergeScales
open Go.ChangeShapes Go.WideShapes Go.ChangeAt Go.RowKit

/-- The number made of x. -/
def mk (k x : Nat) : Nat := x * (x % (k + 1))
theorem mk_le (k x : Nat) (hk : k ≤ 255) (hx : x < 65536) : mk k x ≤ 16711425 := by
  unfold mk
  have h1 : x % (k + 1) ≤ 255 := by have := Nat.mod_lt x (show 0 < k + 1 by omega); omega
  exact Nat.mul_le_mul (by omega : x ≤ 65535) h1

set_option maxRecDepth 4000 in
set_option maxHeartbeats 1600000 in
theorem walkM (M : MC) (a0 : Option Addr) (len0 cap0 : Nat) (z0 : List Int) (a1 : Int) (a2 : Int) (w : World) (w0 : IsRow .u16 w a0 len0 cap0 z0) (w1 : (Lit.int .u8 a1).wf = true) (w2 : (Lit.int .u8 a2).wf = true) :
    Calls Try.prog 7 #[.slice a0 len0 cap0, .int .u8 a1, .int .u8 a2] w fun e w' => e = .returned (.bool true) ∧ Below w.heap.size w w' := by
  obtain ⟨xs, hxl, hxx, hrd, -⟩ := reads_isRow small_u16 (by decide) w0
  have hxs : ∀ x ∈ xs, x < 65536 := fun x hx => by
    obtain ⟨j, hj⟩ := List.getElem?_of_mem hx
    have := hxx j
    rwa [List.getD_eq_getElem?_getD, hj] at this
  obtain ⟨hb1, hb1'⟩ := bounds_u8 w1
  obtain ⟨hb2, hb2'⟩ := bounds_u8 w2
  obtain ⟨k, rfl⟩ := Int.eq_ofNat_of_zero_le hb1
  obtain ⟨by', rfl⟩ := Int.eq_ofNat_of_zero_le hb2
  have Hrd : Hid (Reads .u16 w (.slice a0 len0 cap0) xs) := hrd
  have Hxs : Hid _ := hxs
  have Hxl : Hid _ := hxl
  clear w0 w1 w2 hrd hxs hxx hb1 hb2 hxl
  go_enter Try.func7, Try.ntmps7
  go_wp2_with fail
  refine (known_any M w).mono ?_
  rintro e w1 ⟨rfl, hf1⟩
  by_cases hbig : 40 < len0
  · go_wp2
    go_ret
    exact ⟨rfl, hf1.below (Nat.le_refl _) (fun k h => h.elim)⟩
  · obtain ⟨F, hF⟩ : ∃ F, F = by' + 1 := ⟨_, rfl⟩
    have hFe : (by' : Int) + 1 = (F : Int) := by omega
    have hF1 : 1 ≤ F := by omega
    have hF256 : F ≤ 256 := by omega
    clear hF
    go_wp2_with fail
    go_loopg [7, 8, 9] len0 (fun g SA SB I wr => ∃ i : Nat, g = len0 - i ∧ i ≤ len0 ∧ I = .int .i64 (i : Int) ∧ OwnN wr SA ((xs.take i).map (mk k)) ∧ OwnN wr SB ((xs.take i).map fun x => mk k x * F) ∧ Fr w wr (fun _ => False) ∧ (∀ j, SA.ownBlock = some j → w.heap.size ≤ j ∧ SB.ownBlock ≠ some j) ∧ (∀ j, SB.ownBlock = some j → w.heap.size ≤ j))
    case atStart => exact ⟨0, rfl, by omega, rfl, OwnN.nil _, OwnN.nil _, hf1, fun j hj => by simp [Value.ownBlock] at hj, fun j hj => by simp [Value.ownBlock] at hj⟩
    case round =>
      clear hf1
      obtain ⟨i, hg, hi, rfl, hoA, hoB, hf, hA, hB⟩ := hrel
      have Hg : Hid _ := hg
      have HoA : Hid (OwnN wr u7 ((xs.take i).map (mk k))) := hoA
      have HoB : Hid (OwnN wr u8 ((xs.take i).map fun x => mk k x * F)) := hoB
      have HA : Hid _ := hA
      have HB : Hid _ := hB
      clear hg hoA hoB hA hB
      by_cases hlt : i < len0
      · obtain ⟨_, _, e, -, hcl⟩ := Hrd.out.keep hf
        rw [length_row, Hxl.out] at hcl
        obtain ⟨b, off, rfl, hcell⟩ := hcl (by omega)
        simp only [Value.slice.injEq] at e
        obtain ⟨rfl, -, rfl⟩ := e
        have cg := hcell i _ (row_get .u16 xs i (by rw [Hxl.out]; exact hlt))
        have hel := getD_lt (by decide) Hxs.out i
        have HsA : Hid ((xs.take (i + 1)).map (mk k) = (xs.take i).map (mk k) ++ [mk k (xs.getD i 0)]) := by
          show _ = _
          rw [take_step (by rw [Hxl.out]; exact hlt), List.map_append]; rfl
        have HsB : Hid ((xs.take (i + 1)).map (fun x => mk k x * F) = (xs.take i).map (fun x => mk k x * F) ++ [mk k (xs.getD i 0) * F]) := by
          show _ = _
          rw [take_step (by rw [Hxl.out]; exact hlt), List.map_append]; rfl
        generalize xs.getD i 0 = x at cg hel HsA HsB
        have hbs : b < wr.heap.size := World.block_lt_of_cell? _ _ cg
        have kx : ∀ z, Fr wr.drew z (fun _ => False) → z.cell? ⟨b, off + i, none⟩ = some (.int .u16 (x : Int)) := fun z hz => by
          rw [World.cell?_of_block (w := wr) (hz.block b hbs (fun h => h))]; exact cg
        have hi1 : (i : Int) < (len0 : Int) := by omega
        obtain ⟨r, hr⟩ : ∃ r, r = x % (k + 1) := ⟨_, rfl⟩
        obtain ⟨K, hK⟩ : ∃ K, K = k + 1 := ⟨_, rfl⟩
        have hr255 : r ≤ 255 := by have := Nat.mod_lt x (show 0 < k + 1 by omega); omega
        have hmk := mk_le k x (by omega) hel
        obtain ⟨c, hc⟩ : ∃ c, c = mk k x := ⟨_, rfl⟩
        have hce : c = x * r := by rw [hc, hr]; rfl
        rw [← hc] at HsA HsB hmk
        have wx := wrapI (x : Int) x rfl (by omega)
        have wk := wrapU (k : Int) k rfl (by omega)
        have wK := wrapU ((k : Int) + 1) K (by omega) (by omega)
        have hK0 : ((K : Int) == 0) = false := by simp; omega
        have hK1 : ¬ K = 0 := by omega
        have tr : (x : Int).tmod (K : Int) = (r : Int) := by
          rw [Int.tmod_eq_emod_of_nonneg (by omega), hr, hK]; simp
        have wr' := wrapI (r : Int) r rfl (by omega)
        have wc := wrapI ((x : Int) * (r : Int)) c (by rw [hce]; simp) (by omega)
        clear hr hK hc hce hcl hcell cg
        go_wp2
        refine wp_region_all (fun _ => False) [.c ?_, .c ?_, .c ?_, .c ?_, .c ?_, .c ?_, .c ?_, .c ?_, .c ?_, .c ?_, .c ?_, .c ?_, .c ?_, .c ?_, .c ?_, .c ?_] (by kernel_rfl) (by kernel_rfl) rfl ?last ?walk
        case last => repeat (first | exact Lasts.nil | refine Lasts.c ?_ | refine Lasts.b (fun v w w' hf h => Reads.keep h hf) ?_)
        case walk =>
          repeat (refine wpAll_take rfl rfl (fun x hx => ?_) ?_; (focus (go_simp; with_reducible rfl)); simp only [Act.put, List.setIfInBounds_toArray, List.set_cons_zero, List.set_cons_succ])
          refine wpAll_nil (fun wx' hfx _ => ?_)
          replace hfx := (Fr.refl wr (fun _ => False)).drew.none hfx
          obtain ⟨vA, wA, hrunA, hoA2, hfA, hmA, -⟩ := app_ints (wx'.alloc (.cells #[.int .i64 (c : Int)] 3)) u7 (.slice (some ⟨wx'.heap.size, 0, none⟩) 1 1) _ [c] ((HoA.out.frame hfx (fun _ _ h => h)).alloc _) (holds_lit wx' 3 [.int .i64 (c : Int)] (by simp)) (by rw [List.length_map, List.length_take]; simp; omega)
          have hoB2 : OwnN wA u8 ((xs.take i).map fun x => mk k x * F) := ((HoB.out.frame hfx (fun _ _ h => h)).alloc (.cells #[.int .i64 (c : Int)] 3)).frame hfA (fun j hj h => (HA.out j h).2 hj)
          have hsz1 := hfx.size
          have hsz2 := hfA.size
          have hltB := HoB.out.lt
          have hszx : (wx'.alloc (.cells #[.int .i64 (c : Int)] 3)).heap.size = wx'.heap.size + 1 := by simp
          obtain ⟨q, hq⟩ : ∃ q, q = c * F := ⟨_, rfl⟩
          have hqe : (c : Int) * (F : Int) = (q : Int) := by rw [hq]; simp
          have hq2 : q ≤ 4278124800 := by rw [hq]; exact Nat.mul_le_mul hmk hF256
          obtain ⟨vB, wB, hrunB, hoB3, hfB, hmB, -⟩ := app_ints (wA.alloc (.cells #[.int .i64 (q : Int)] 3)) u8 (.slice (some ⟨wA.heap.size, 0, none⟩) 1 1) _ [q] (hoB2.alloc _) (holds_lit wA 3 [.int .i64 (q : Int)] (by simp)) (by rw [List.length_map, List.length_take]; simp; omega)
          have hszA : (wA.alloc (.cells #[.int .i64 (q : Int)] 3)).heap.size = wA.heap.size + 1 := by simp
          have hAne : ∀ j, vA.ownBlock = some j → w.heap.size ≤ j ∧ u8.ownBlock ≠ some j ∧ j < wA.heap.size := fun j hj => by
            have hl := hoA2.lt j hj
            have hw := hf.size
            rcases hmA j hj with h | h
            · exact ⟨(HA.out j h).1, (HA.out j h).2, hl⟩
            · exact ⟨by omega, fun h2 => by have := hltB j h2; omega, hl⟩
          have HoA3 : Hid (OwnN wB vA ((xs.take i).map (mk k) ++ [c])) := (hoA2.alloc (.cells #[.int .i64 (q : Int)] 3)).frame hfB (fun j hj h => (hAne j hj).2.1 h)
          have HoB3 : Hid (OwnN wB vB ((xs.take i).map (fun x => mk k x * F) ++ [q])) := hoB3
          have Hfo : Hid (Fr w wB (fun _ => False)) := (((hf.none hfx).alloc _).newer hfA (fun j hj => (HA.out j hj).1) |>.alloc _).newer hfB (fun j hj => HB.out j hj)
          have HA3 : Hid (∀ j, vA.ownBlock = some j → w.heap.size ≤ j ∧ vB.ownBlock ≠ some j) := fun j hj => ⟨(hAne j hj).1, fun h2 => by
            rcases hmB j h2 with h | h
            · exact (hAne j hj).2.1 h
            · have := (hAne j hj).2.2; omega⟩
          have HB3 : Hid (∀ j, vB.ownBlock = some j → w.heap.size ≤ j) := fun j hj => by
            have hw := hf.size
            rcases hmB j hj with h | h
            · exact HB.out j h
            · omega
          have Hq : Hid _ := hq
          clear hq hoA2 hoB2 hoB3 hmA hmB hAne hltB hfA hfB hszx hszA hsz1 hsz2
          go_wp2_with (at_builtin; first | refine wpList_append_run rfl (.tmp 37) (.tmp 39) 22 rfl rfl rfl hrunA ?_ | refine wpList_append_run rfl (.tmp 41) (.tmp 47) 22 rfl rfl rfl hrunB ?_)
          go_roundg (len0 - (i + 1))
          case rel => exact ⟨i + 1, rfl, by omega, by go_num, by rw [HsA.out]; exact HoA3.out, by rw [HsB.out, ← Hq.out]; exact HoB3.out, Hfo.out, HA3.out, HB3.out⟩
          case measure => rw [Hg.out]; omega
      · have hti : xs.take i = xs := List.take_of_length_le (by rw [Hxl.out]; omega)
        have hrA := HoA.out.reads
        have hrB := HoB.out.reads
        rw [hti] at hrA hrB
        have hlA : (xs.map (mk k)).length = len0 := by rw [List.length_map, Hxl.out]
        have hlB : (xs.map fun x => mk k x * F).length = len0 := by rw [List.length_map, Hxl.out]
        have hbA : ∀ c ∈ xs.map (mk k), c ≤ 1099511627776 := fun c hc => by
          obtain ⟨x, hx, rfl⟩ := List.mem_map.1 hc
          have := mk_le k x (by omega) (Hxs.out x hx)
          omega
        have hbB : ∀ c ∈ xs.map (fun x => mk k x * F), c ≤ 1099511627776 := fun c hc => by
          obtain ⟨x, hx, rfl⟩ := List.mem_map.1 hc
          have h1 := mk_le k x (by omega) (Hxs.out x hx)
          have h2 : mk k x * F ≤ 16711425 * 256 := Nat.mul_le_mul h1 hF256
          show mk k x * F ≤ _
          omega
        have hsc : ∀ L, pmLens (xs.map fun x => mk k x * F) L = pmLens (xs.map (mk k)) L := fun L => by
          rw [← pm_scale (xs.map (mk k)) F (by omega) L, List.map_map]; rfl
        generalize xs.map (mk k) = A at hrA hlA hbA hsc
        generalize (xs.map fun x => mk k x * F) = B at hrB hlB hbB hsc
        obtain ⟨aA, cA, rfl, -, -⟩ := id hrA
        obtain ⟨aB, cB, rfl, -, -⟩ := id hrB
        rw [length_row, hlA] at hrA ⊢
        rw [length_row, hlB] at hrB ⊢
        have hsmall : ∀ (C : List Nat) (L : Nat), C.length = len0 → (pmLens C L).length ≤ 1000 := fun C L hC => by
          unfold pmLens
          split
          · simp
          · simp; omega
        have HLA : Hid (∀ x (L : Nat), 1 ≤ L → L ≤ 15 → ReadsZ x (.slice aA len0 cA) (zs A) → Calls Try.prog 12 #[.slice aA len0 cA, .int .i64 (L : Int)] x fun e w' => ∃ sv, e = .returned sv ∧ Reads .i64 w' sv (pmLens A L) ∧ Fr x w' (fun _ => False)) := fun x L h1 h2 hx => by
          have := M.lens _ _ (L : Int) x hx (by rw [zs_length, hlA]; omega) (zs_in64 A hbA) (by omega) (by omega)
          rwa [zs_clamp A hbA, show clampM (L : Int) = L by unfold clampM; omega] at this
        have HLB : Hid (∀ x (L : Nat), 1 ≤ L → L ≤ 15 → ReadsZ x (.slice aB len0 cB) (zs B) → Calls Try.prog 12 #[.slice aB len0 cB, .int .i64 (L : Int)] x fun e w' => ∃ sv, e = .returned sv ∧ Reads .i64 w' sv (pmLens A L) ∧ Fr x w' (fun _ => False)) := fun x L h1 h2 hx => by
          have := M.lens _ _ (L : Int) x hx (by rw [zs_length, hlB]; omega) (zs_in64 B hbB) (by omega) (by omega)
          rwa [zs_clamp B hbB, show clampM (L : Int) = L by unfold clampM; omega, hsc] at this
        have HzA : Hid (ReadsZ wr (.slice aA len0 cA) (zs A)) := hrA.z
        have HzB : Hid (ReadsZ wr (.slice aB len0 cB) (zs B)) := hrB.z
        have Hsm : Hid _ := hsmall A 15 hlA
        have Hsm9 : Hid _ := hsmall A 9 hlA
        clear hti hrA hrB hlA hlB hbA hbB hsc hsmall HoA HoB HA HB
        go_wp2_with fail
        refine (HLA.out wr 15 (by omega) (by omega) HzA.out).mono ?_
        rintro e w2 ⟨s2, rfl, hr2, hf2⟩
        obtain ⟨a2, l2, c2, rfl⟩ := hr2.form
        go_wp2_with fail
        refine (HLB.out w2 15 (by omega) (by omega) (HzB.out.keep hf2)).mono ?_
        rintro e w3 ⟨s3, rfl, hr3, hf3⟩
        obtain ⟨a3, l3, c3, rfl⟩ := hr3.form
        have hfw3 := hf2.none hf3
        go_wp2_with fail
        refine (ints_any _ _ _ _ w3 (hr2.keep hf3).z hr3.z (by rw [List.length_map]; have := Hsm.out; omega)).mono ?_
        rw [decide_eq_true rfl]
        rintro e w4 ⟨rfl, hf4⟩
        replace hf4 := hfw3.none hf4
        clear hr2 hr3 hf2 hf3 hfw3
        go_wp2_with fail
        refine (HLA.out w4 9 (by omega) (by omega) (HzA.out.keep hf4)).mono ?_
        rintro e w5 ⟨s5, rfl, hr5, hf5⟩
        obtain ⟨a5, l5, c5, rfl⟩ := hr5.form
        have hfw5 := hf4.none hf5
        go_wp2_with fail
        refine (HLB.out w5 9 (by omega) (by omega) (HzB.out.keep hfw5)).mono ?_
        rintro e w6 ⟨s6, rfl, hr6, hf6⟩
        obtain ⟨a6, l6, c6, rfl⟩ := hr6.form
        have hfw6 := hfw5.none hf6
        go_wp2_with fail
        refine (ints_any _ _ _ _ w6 (hr5.keep hf6).z hr6.z (by rw [List.length_map]; have := Hsm9.out; omega)).mono ?_
        rw [decide_eq_true rfl]
        rintro e w7 ⟨rfl, hf7⟩
        replace hf7 := hf.none (hfw6.none hf7)
        clear hr5 hr6 hf4 hf5 hf6 hfw5 hfw6
        go_wp2
        go_ret
        exact ⟨rfl, hf7.below (Nat.le_refl _) (fun k h => h.elim)⟩

end Go.Proofs.Ytjjanlpkhoeejaa.mergeScales

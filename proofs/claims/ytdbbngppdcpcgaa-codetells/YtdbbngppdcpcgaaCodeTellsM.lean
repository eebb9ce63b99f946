/-
  The walk of the law CodeTells, under the condition that the program's functions answer as their contracts say.
-/
import Derived.Test.YtdbbngppdcpcgaaRows
import Derived.Test.YtdbbngppdcpcgaaKHelp
import Derived.Deep.CutRange
namespace Go.Proofs.Ytdbbngppdcpcgaa.codeTells
open Go.ChangeShapes Go.WideShapes Go.ChangeAt Go.RowKit

theorem readsZ_isRow {w : World} {a : Option Addr} {len cap : Nat} {zs : List Int} (h : IsRow .i64 w a len cap zs) : ∃ rs : List Int, rs.length = len ∧ (∀ z ∈ rs, -9223372036854775808 ≤ z ∧ z ≤ 9223372036854775807) ∧ ReadsZ w (.slice a len cap) rs := by
  rcases h with ⟨rfl, rfl, rfl, rfl⟩ | ⟨x, rfl, hl, _, hz, hc, hw⟩
  · exact ⟨[], rfl, fun z hz => (by cases hz), ⟨Option.none, 0, rfl, Nat.le_refl _, fun h => by simp [zrow] at h⟩⟩
  · refine ⟨zs.take len, by simp; omega, fun z hz => ?_, ⟨some x, cap, by rw [zrow_length, List.length_take, Nat.min_eq_left (by omega)], by rw [zrow_length, List.length_take]; omega, fun hp => ?_⟩⟩
    · have := bounds_i64 (hw z (List.mem_of_mem_take hz))
      omega
    · rw [zrow_length, List.length_take] at hp
      obtain ⟨b, off, rfl⟩ := spot_none (hc 0 (by omega))
      refine ⟨b, off, rfl, fun j u hj => ?_⟩
      have hjl : j < len := by
        have := (List.getElem?_eq_some_iff.1 hj).1
        rw [zrow_length, List.length_take] at this
        omega
      have hcj := hc j (by omega)
      rw [add_none] at hcj
      rw [hcj]
      have hzj : j < zs.length := by omega
      simp only [zrow, List.getElem?_map, List.getElem?_take, hjl, if_true, List.getElem?_eq_getElem hzj, Option.map_some, Option.some.injEq] at hj
      rw [← hj, List.getD_eq_getElem?_getD, List.getElem?_eq_getElem hzj]
      rfl
theorem four_at {w : World} {b : Nat} {v0 v1 v2 v3 : Value} {t : TypeId} (h : w.heap[b]? = some (.cells #[v0, v1, v2, v3] t (0, 0))) (i : Nat) (hi : i < 4) : w.cell? ⟨b, i, none⟩ = some ([v0, v1, v2, v3][i]'hi) := by
  have e : (#[v0, v1, v2, v3] : Array Value)[i]? = some ([v0, v1, v2, v3][i]'hi) := by
    match i, hi with
    | 0, _ => rfl
    | 1, _ => rfl
    | 2, _ => rfl
    | 3, _ => rfl
  simp [World.cell?, h, e]
theorem codesZ_len (zs : List Int) : (codesZ zs).length ≤ zs.length := by
  unfold codesZ
  split
  · simp
  · simp
theorem zrow_zeros (n : Nat) : (madeCells #[Value.int .i64 0] n).toList = zrow (List.replicate n 0) := by
  rw [zeros_fnRow]
  apply List.ext_getElem?
  intro t
  simp only [row, fnRow, zrow, List.map_map, List.getElem?_map]
  by_cases ht : t < n
  · simp [ht]
  · simp [ht]
/-- Four lists in a list. -/
def Four (w : World) (v : Value) (z0 z1 z2 z3 : List Int) : Prop := ∃ g v0 v1 v2 v3, v = .slice (some ⟨g, 0, none⟩) 4 4 ∧ w.cell? ⟨g, 0, none⟩ = some v0 ∧ w.cell? ⟨g, 1, none⟩ = some v1 ∧ w.cell? ⟨g, 2, none⟩ = some v2 ∧ w.cell? ⟨g, 3, none⟩ = some v3 ∧ ReadsZ w v0 z0 ∧ ReadsZ w v1 z1 ∧ ReadsZ w v2 z2 ∧ ReadsZ w v3 z3
theorem Four.keep {w w' : World} {v : Value} {z0 z1 z2 z3 : List Int} (h : Four w v z0 z1 z2 z3) (f : Fr w w' (fun _ => False)) : Four w' v z0 z1 z2 z3 := by
  obtain ⟨g, v0, v1, v2, v3, e, c0, c1, c2, c3, r0, r1, r2, r3⟩ := h
  have hg : g < w.heap.size := World.block_lt_of_cell? _ _ c0
  have k : ∀ (j : Nat) (u : Value), w.cell? ⟨g, j, none⟩ = some u → w'.cell? ⟨g, j, none⟩ = some u := fun j u hu => by
    rw [World.cell?_of_block (w := w) (f.block g hg (fun h => h))]
    exact hu
  exact ⟨g, v0, v1, v2, v3, e, k _ _ c0, k _ _ c1, k _ _ c2, k _ _ c3, r0.keep f, r1.keep f, r2.keep f, r3.keep f⟩
def and3 (z : Int) : Nat := (BitVec.ofInt 64 z &&& 3#64).toNat
theorem and3_le (z : Int) : and3 z ≤ 3 := by
  unfold and3
  rw [BitVec.toNat_and]
  exact Nat.and_le_right
theorem and3_is (z : Int) : bits .and .i64 z 3 = ((and3 z : Nat) : Int) := by
  have h := and3_le z
  show IntKind.i64.wrap ((BitVec.ofInt 64 z &&& BitVec.ofInt 64 3).toNat : Int) = _
  rw [show BitVec.ofInt 64 3 = 3#64 by decide]
  exact IntWalk.i64_in _ (by unfold and3 at h; omega)

set_option maxRecDepth 4000 in
set_option maxHeartbeats 800000 in
theorem walkM (M : KC) (a0 : Option Addr) (len0 cap0 : Nat) (z0 : List Int) (a1 : Option Addr) (len1 cap1 : Nat) (z1 : List Int) (a2 : Int) (a3 : Int) (w : World) (w0 : IsRow .i64 w a0 len0 cap0 z0) (w1 : IsRow .u16 w a1 len1 cap1 z1) (w2 : (Lit.int .u8 a2).wf = true) (w3 : (Lit.int .u8 a3).wf = true) :
    Calls Try.prog 3 #[.slice a0 len0 cap0, .slice a1 len1 cap1, .int .u8 a2, .int .u8 a3] w fun e w' => e = .returned (.bool true) ∧ Below w.heap.size w w' := by
  obtain ⟨xs, hxl, hxx, hrd, -⟩ := reads_isRow ku16 (by decide) w1
  have hxs : ∀ x ∈ xs, x < 65536 := fun x hx => by
    obtain ⟨j, hj⟩ := List.getElem?_of_mem hx
    have := hxx j
    rwa [List.getD_eq_getElem?_getD, hj] at this
  obtain ⟨rs, hrl, hr64, hrz⟩ := readsZ_isRow w0
  obtain ⟨hb1, hb1'⟩ := bounds_u8 w2
  obtain ⟨hb2, hb2'⟩ := bounds_u8 w3
  obtain ⟨at_, rfl⟩ := Int.eq_ofNat_of_zero_le hb1
  obtain ⟨by_, rfl⟩ := Int.eq_ofNat_of_zero_le hb2
  have Hrd : Hid (Reads .u16 w (.slice a1 len1 cap1) xs) := hrd
  have Hrz : Hid (ReadsZ w (.slice a0 len0 cap0) rs) := hrz
  have Hxs : Hid _ := hxs
  have Hxl : Hid _ := hxl
  have Hrl : Hid _ := hrl
  clear w0 w1 w2 w3 hrd hrz hxs hxx hb1 hb2 hxl hrl hr64
  go_enter Try.func3, Try.ntmps3
  go_wp2_with fail
  refine (known_any M w).mono ?_
  rintro e w1 ⟨rfl, hf1⟩
  by_cases hbig : 40 < len0
  · have hd : decide ((40 : Int) < (len0 : Int)) = true := decide_eq_true (by omega)
    go_wp2
    all_goals (go_ret; exact ⟨rfl, hf1.below (Nat.le_refl _) (fun k h => h.elim)⟩)
  · by_cases hbig2 : 40 < len1
    · have hd : decide ((40 : Int) < (len0 : Int)) = false := decide_eq_false (by omega)
      have hd2 : decide ((40 : Int) < (len1 : Int)) = true := decide_eq_true (by omega)
      go_wp2
      all_goals (go_ret; exact ⟨rfl, hf1.below (Nat.le_refl _) (fun k h => h.elim)⟩)
    · have hd : decide ((40 : Int) < (len0 : Int)) = false := decide_eq_false (by omega)
      have hd2 : decide ((40 : Int) < (len1 : Int)) = false := decide_eq_false (by omega)
      have Hrz1 : Hid (ReadsZ w1 (.slice a0 len0 cap0) rs) := Hrz.out.keep hf1
      go_wp2_with fail
      go_loopg [9, 10] len0 (fun g S I wi => ∃ i : Nat, g = len0 - i ∧ i ≤ len0 ∧ I = .int .i64 (i : Int) ∧ OwnN wi S ((rs.take i).map and3) ∧ Fr w1 wi (fun _ => False) ∧ (∀ k, S.ownBlock = some k → w1.heap.size ≤ k))
      case atStart => exact ⟨0, rfl, by omega, rfl, OwnN.nil _, Fr.refl _ _, fun k hk => by simp [Value.ownBlock] at hk⟩
      case round =>
        obtain ⟨i, hg, hi, rfl, ho, hfi, hnw⟩ := hrel
        have Hg : Hid _ := hg
        have Ho : Hid (OwnN wr u9 ((rs.take i).map and3)) := ho
        have Hnw : Hid _ := hnw
        clear hg ho hnw
        by_cases hlt : i < len0
        · obtain ⟨x, hx⟩ : ∃ x, rs[i]? = some x := ⟨_, List.getElem?_eq_getElem (by rw [Hrl.out]; exact hlt)⟩
          obtain ⟨b, off, cp, e, hb0, kx⟩ := ReadsZ.get (Hrz1.out.keep hfi) i x hx
          simp only [Value.slice.injEq] at e
          obtain ⟨rfl, -, rfl⟩ := e
          have cx := kx _ (Fr.refl _ _)
          have Hst : Hid ((rs.take (i + 1)).map and3 = (rs.take i).map and3 ++ [and3 x]) := by show _ = _; rw [takeZ_step hx, List.map_append]; rfl
          have ha : bits .and .i64 x 3 = ((and3 x : Nat) : Int) := and3_is x
          have hi1 : (i : Int) < (len0 : Int) := by omega
          obtain ⟨y, hy⟩ : ∃ y, y = and3 x := ⟨_, rfl⟩
          rw [← hy] at ha Hst
          obtain ⟨v5, w5, hrun5, ho5, hf5, hm5, -⟩ := app_ints (wr.alloc (.cells #[.int .i64 (y : Int)] 3)) u9 (.slice (some ⟨wr.heap.size, 0, none⟩) 1 1) _ [y] (Ho.out.alloc _) (holds_lit wr 3 [.int .i64 (y : Int)] (by simp)) (by rw [List.length_map, List.length_take]; simp; omega)
          rw [← Hst.out] at ho5
          have Ho5 : Hid (OwnN w5 v5 ((rs.take (i + 1)).map and3)) := ho5
          have hf6 := (hfi.alloc (.cells #[.int .i64 (y : Int)] 3)).newer hf5 (fun j hj => Hnw.out j hj)
          have Hn5 : Hid (∀ k, v5.ownBlock = some k → _) := fun k hk => by
            rcases hm5 k hk with h | h
            · exact Hnw.out k h
            · have := (hfi.alloc (.cells #[.int .i64 (y : Int)] 3)).size; exact Nat.le_trans this h
          clear kx hx hy ho5 hf5 hm5 hb0
          go_wp2_with (at_builtin; refine wpList_append_run rfl (.tmp 31) (.tmp 37) 22 rfl rfl rfl hrun5 ?_)
          go_roundg (len0 - (i + 1))
          case rel => exact ⟨i + 1, rfl, by omega, by go_num, Ho5.out, hf6, Hn5.out⟩
          case measure => rw [Hg.out]; omega
        · have hie : i = len0 := by omega
          have hd1 : ¬ (i : Int) < (len0 : Int) := by omega
          have htl : rs.take i = rs := List.take_of_length_le (by rw [Hrl.out]; omega)
          have Hrs : Hid (ReadsZ wr u9 ((rs.map and3).map fun (n : Nat) => (n : Int))) := by have := Ho.out; rw [htl] at this; exact this.reads.z
          have Hrz2 : Hid (ReadsZ wr (.slice a0 len0 cap0) rs) := Hrz1.out.keep hfi
          have hf2 := hf1.none hfi
          obtain ⟨as_, cs_, hse, -⟩ := Hrs.out.form
          rw [List.length_map, List.length_map, Hrl.out] at hse
          subst hse
          clear htl Ho Hnw hfi hf1
          go_wp2 -- FOUR
          obtain ⟨n4, hn4⟩ : ∃ n, n = at_ + 30 := ⟨_, rfl⟩
          have hnb : n4 ≤ 285 := by omega
          have wa : IntKind.i64.wrap (at_ : Int) = (at_ : Int) := IntWalk.i64_in _ (by omega)
          have wn : IntKind.i64.wrap (n4 : Int) = (n4 : Int) := IntWalk.i64_in _ (by omega)
          have hn5 : (at_ : Int) + 30 = (n4 : Int) := by omega
          obtain ⟨i0, hi0, hz0, hz1, hz2⟩ := info_parts infoIntC
          have Hl : Hid (∀ x, Fr wr.drew x (fun _ => False) → Calls Try.prog 9 #[.slice a1 len1 cap1, .int .u8 (at_ : Int), .int .u8 (by_ : Int)] x fun e w' => ∃ sv, e = .returned sv ∧ ReadsZ w' sv (lawLens xs at_ by_) ∧ Fr x w' (fun _ => False)) := fun x hx =>
            (lawLens_any _ xs at_ by_ x (Hrd.out.keep (hf2.none ((Fr.refl wr (fun _ => False)).drew.none hx))) Hxs.out (by omega) (by omega) (by rw [Hxl.out]; omega)).mono fun _ _ ⟨sv, h1, h2, h3, _⟩ => ⟨sv, h1, h2, h3⟩
          have Hlen : Hid ((lawLens xs at_ by_).length ≤ 1000) := by
            show _ ≤ _
            have hb := lawBase_len xs (by rw [Hxl.out]; omega)
            unfold lawLens
            split
            · rw [List.length_set, List.length_map, hb, Hxl.out]; omega
            · rw [List.length_map, hb, Hxl.out]; omega
          generalize lawLens xs at_ by_ = L3 at Hl Hlen
          clear hn4
          refine wp_region_all (fun _ => False) [.c ?_, .c ?_, .c ?_, .c ?_, .c ?_, .b (fun v w => ReadsZ w v L3), .c ?_, .c ?_, .c ?_, .b (fun v w => ReadsZ w v (List.replicate n4 0)), .b (fun v w => Four w v rs ((rs.map and3).map fun (n : Nat) => (n : Int)) L3 (List.replicate n4 0)), .c (.int .i64 4), .c ?_] (by kernel_rfl) (by kernel_rfl) rfl ?last ?walk
          case last => repeat (first | exact Lasts.nil | refine Lasts.c ?_ | refine Lasts.b (fun v w w' hf h => Four.keep h hf) ?_ | refine Lasts.b (fun v w w' hf h => ReadsZ.keep h hf) ?_)
          case walk =>
            repeat (refine wpAll_take rfl rfl (fun x hx => ?_) ?_; (focus (go_simp; with_reducible rfl)); simp only [Act.put, List.setIfInBounds_toArray, List.set_cons_zero, List.set_cons_succ])
            refine wpAll_make rfl rfl (fun x hx hR K hK => ?_) (fun V1 => ?_)
            · go_simp
              refine (Hl.out x hx).mono ?_
              rintro e w' ⟨sv, rfl, h2, h3⟩
              exact hK _ _ h3 h2
            simp only [Act.put, List.setIfInBounds_toArray, List.set_cons_zero, List.set_cons_succ]
            repeat (refine wpAll_take rfl rfl (fun x hx => ?_) ?_; (focus (go_simp; with_reducible rfl)); simp only [Act.put, List.setIfInBounds_toArray, List.set_cons_zero, List.set_cons_succ])
            refine wpAll_make rfl rfl (fun x hx hR K hK => ?_) (fun V2 => ?_)
            · obtain ⟨wz, hrunz, hoz, hgz⟩ := run_make_full (P := Try.prog) (w := x) 0 22 3 i0 (.int .i64 0) 1 Try.underlying22 hi0 hz0 hz1 .i64 .i64 n4 (by rw [hz2]; omega) (by unfold maxLen; omega) (Nat.zero_le _)
              rw [Nat.mul_one, show (Value.int IntKind.i64 0).cells = #[Value.int .i64 0] from rfl, zrow_zeros] at hoz
              go_simp
              exact hK _ _ ((Fr.refl x _).grown hgz (fun k hk => by cases hk)) (holds_own hoz)
            simp only [Act.put, List.setIfInBounds_toArray, List.set_cons_zero, List.set_cons_succ]
            refine wpAll_make rfl rfl (fun x hx hR K hK => ?_) (fun V3 => ?_)
            · have h1 : ReadsZ x V1 L3 := hR 5 44 (by kernel_rfl) rfl
              have h2 : ReadsZ x V2 (List.replicate n4 0) := hR 9 48 (by kernel_rfl) rfl
              obtain ⟨av1, cv1, e1, -⟩ := h1.form
              obtain ⟨av2, cv2, e2, -⟩ := h2.form
              rw [List.length_replicate] at e2
              have h3 : ReadsZ x (.slice a0 len0 cap0) rs := Hrz2.out.keep ((Fr.refl wr (fun _ => False)).drew.none hx)
              have h4 := Hrs.out.keep ((Fr.refl wr (fun _ => False)).drew.none hx)
              subst e1 e2
              go_simp
              refine hK _ _ ((Fr.refl x _).alloc _) ?_
              have ha := (Fr.refl x (fun _ => False)).alloc (.cells #[.slice a0 len0 cap0, .slice as_ len0 cs_, .slice av1 L3.length cv1, .slice av2 n4 cv2] 22)
              have hb := heap_alloc_new x (.cells #[.slice a0 len0 cap0, .slice as_ len0 cs_, .slice av1 L3.length cv1, .slice av2 n4 cv2] 22)
              refine ⟨x.heap.size, _, _, _, _, rfl, ?_, ?_, ?_, ?_, h3.keep ha, h4.keep ha, h1.keep ha, h2.keep ha⟩
              · exact four_at hb 0 (by decide)
              · exact four_at hb 1 (by decide)
              · exact four_at hb 2 (by decide)
              · exact four_at hb 3 (by decide)
            simp only [Act.put, List.setIfInBounds_toArray, List.set_cons_zero, List.set_cons_succ]
            refine wpAll_call rfl rfl (fun x hx hR K hK => ?_) ?_
            · have h1 : Four x V3 rs ((rs.map and3).map fun (n : Nat) => (n : Int)) L3 (List.replicate n4 0) := hR 10 49 (by kernel_rfl) rfl
              obtain ⟨g, -, -, -, -, e, -⟩ := h1
              subst e
              go_simp
              exact hK _ (Fr.refl _ _)
            simp only [Act.put, List.setIfInBounds_toArray, List.set_cons_zero, List.set_cons_succ]
            repeat (refine wpAll_take rfl rfl (fun x hx => ?_) ?_; (focus (go_simp; with_reducible rfl)); simp only [Act.put, List.setIfInBounds_toArray, List.set_cons_zero, List.set_cons_succ])
            refine wpAll_nil (fun wx hfx hR => ?_)
            have hF : Four wx V3 rs ((rs.map and3).map fun (n : Nat) => (n : Int)) L3 (List.replicate n4 0) := hR 10 49 rfl
            clear hR
            replace hfx : Fr wr wx (fun _ => False) := (Fr.refl wr (fun _ => False)).drew.none hfx
            replace hfx := hf2.none hfx
            have HF : Hid _ := hF
            obtain ⟨gF, -, -, -, -, eF, -⟩ := hF
            subst eF
            clear hf2 Hrs Hrz2 wa wn hn5 hi0 hz0 hz1 hz2 Hl
            have Hx : Hid (∀ i, i < 4 → ∃ v zs, zs.length ≤ 1000 ∧ ReadsZ wx v zs ∧ ∀ z, Fr wx z (fun _ => False) → z.cell? ⟨gF, i, none⟩ = some v) := fun i hi => by
              obtain ⟨g, v0, v1, v2, v3, e, c0, c1, c2, c3, r0, r1, r2, r3⟩ := HF.out
              simp only [Value.slice.injEq, Option.some.injEq, Addr.mk.injEq, and_true] at e
              obtain ⟨rfl, -⟩ := e
              have hg : gF < wx.heap.size := World.block_lt_of_cell? _ _ c0
              have k : ∀ (j : Nat) (u : Value), wx.cell? ⟨gF, j, none⟩ = some u → ∀ z, Fr wx z (fun _ => False) → z.cell? ⟨gF, j, none⟩ = some u := fun j u hu z f => by
                rw [World.cell?_of_block (w := wx) (f.block gF hg (fun h => h))]
                exact hu
              match i, hi with
              | 0, _ => exact ⟨v0, _, by rw [Hrl.out]; omega, r0, k _ _ c0⟩
              | 1, _ => exact ⟨v1, _, by rw [List.length_map, List.length_map, Hrl.out]; omega, r1, k _ _ c1⟩
              | 2, _ => exact ⟨v2, _, Hlen.out, r2, k _ _ c2⟩
              | 3, _ => exact ⟨v3, _, by rw [List.length_replicate]; omega, r3, k _ _ c3⟩
            clear HF Hlen hnb
            go_wp2
            go_loopg [51, 12, 13, 14] 4 (fun g I _ _ _ wi => ∃ i : Nat, g = 4 - i ∧ i ≤ 4 ∧ I = .int .i64 (i : Int) ∧ Fr wx wi (fun _ => False))
            case atStart => exact ⟨0, rfl, by omega, rfl, Fr.refl _ _⟩
            case round =>
              obtain ⟨i, hg, hi, rfl, hfi⟩ := hrel
              have Hg : Hid _ := hg
              clear hg
              by_cases hlt : i < 4
              · obtain ⟨v, zs, hzl, hrv, kv⟩ := Hx.out i hlt
                have cv := kv _ hfi
                obtain ⟨av, cav, hve, -⟩ := hrv.form
                obtain ⟨m, hm⟩ : ∃ m, m = zs.length := ⟨_, rfl⟩
                rw [← hm] at hve
                subst hve
                have Hrv : Hid (ReadsZ wx (.slice av m cav) zs) := hrv
                have Hm : Hid _ := hm
                have hi1 : (i : Int) < 4 := by omega
                have Hzl : Hid _ := hzl
                clear kv hrv hm hzl
                cases hR : rightB zs with
                | false =>
                  go_wp2_with fail
                  refine (M.newN _ zs _ (Hrv.out.keep hfi) Hzl.out hR).mono ?_
                  rintro e w4 ⟨rfl, hf4⟩
                  replace hf4 := hfi.none hf4
                  clear hfi
                  go_wp2_with fail
                  refine (M.right _ zs _ (Hrv.out.keep hf4) Hzl.out).mono ?_
                  rw [hR]
                  rintro e w5 ⟨rfl, hf5⟩
                  replace hf5 := hf4.none hf5
                  clear hf4
                  go_wp2_with fail
                  refine (refRight_any _ zs _ (Hrv.out.keep hf5)).mono ?_
                  rw [hR]
                  rintro e w6 ⟨rfl, hf6⟩
                  replace hf6 := hf5.none hf6
                  clear hf5
                  go_wp2_with fail
                  refine (refRight_any _ zs _ (Hrv.out.keep hf6)).mono ?_
                  rw [hR]
                  rintro e w7 ⟨rfl, hf7⟩
                  replace hf7 := hf6.none hf7
                  clear hf6
                  go_wp2_with fail
                  refine (M.codes _ zs _ (Hrv.out.keep hf7) Hzl.out).mono ?_
                  rintro e w8 ⟨sv8, rfl, hr8, hf8⟩
                  replace hf8 := hf7.none hf8
                  obtain ⟨a8, l8, c8, rfl⟩ := hr8.form
                  clear hf7
                  go_wp2_with fail
                  refine (refCodes_any _ zs _ (Hrv.out.keep hf8)).mono ?_
                  rintro e w9 ⟨sv9, rfl, hr9, hf9, -⟩
                  replace hr8 := hr8.keep hf9
                  replace hf9 := hf8.none hf9
                  obtain ⟨a9, l9, c9, rfl⟩ := hr9.form
                  clear hf8
                  go_wp2_with fail
                  refine (ints_any _ _ _ _ _ hr8.z hr9.z (by rw [List.length_map]; exact Nat.le_trans (codesZ_len zs) (by have := Hzl.out; omega))).mono ?_
                  rw [decide_eq_true rfl]
                  rintro e w10 ⟨rfl, hf10⟩
                  replace hf10 := hf9.none hf10
                  clear hf9 hr8 hr9
                  go_wp2_with fail
                  go_roundg (4 - (i + 1))
                  case rel => exact ⟨i + 1, rfl, by omega, by go_num, hf10⟩
                  case measure => rw [Hg.out]; omega
                | true =>
                  go_wp2_with fail
                  refine (M.newY _ zs _ (Hrv.out.keep hfi) Hzl.out hR).mono ?_
                  rintro e w4 ⟨p, F, rfl, -, hf4, -⟩
                  replace hf4 := hfi.none hf4
                  clear hfi
                  go_wp2_with fail
                  refine (M.right _ zs _ (Hrv.out.keep hf4) Hzl.out).mono ?_
                  rw [hR]
                  rintro e w5 ⟨rfl, hf5⟩
                  replace hf5 := hf4.none hf5
                  clear hf4
                  go_wp2_with fail
                  refine (refRight_any _ zs _ (Hrv.out.keep hf5)).mono ?_
                  rw [hR]
                  rintro e w6 ⟨rfl, hf6⟩
                  replace hf6 := hf5.none hf6
                  clear hf5
                  go_wp2_with fail
                  refine (refRight_any _ zs _ (Hrv.out.keep hf6)).mono ?_
                  rw [hR]
                  rintro e w7 ⟨rfl, hf7⟩
                  replace hf7 := hf6.none hf7
                  clear hf6
                  go_wp2_with fail
                  refine (M.codes _ zs _ (Hrv.out.keep hf7) Hzl.out).mono ?_
                  rintro e w8 ⟨sv8, rfl, hr8, hf8⟩
                  replace hf8 := hf7.none hf8
                  obtain ⟨a8, l8, c8, rfl⟩ := hr8.form
                  clear hf7
                  go_wp2_with fail
                  refine (refCodes_any _ zs _ (Hrv.out.keep hf8)).mono ?_
                  rintro e w9 ⟨sv9, rfl, hr9, hf9, -⟩
                  replace hr8 := hr8.keep hf9
                  replace hf9 := hf8.none hf9
                  obtain ⟨a9, l9, c9, rfl⟩ := hr9.form
                  clear hf8
                  go_wp2_with fail
                  refine (ints_any _ _ _ _ _ hr8.z hr9.z (by rw [List.length_map]; exact Nat.le_trans (codesZ_len zs) (by have := Hzl.out; omega))).mono ?_
                  rw [decide_eq_true rfl]
                  rintro e w10 ⟨rfl, hf10⟩
                  replace hf10 := hf9.none hf10
                  clear hf9 hr8 hr9
                  go_wp2_with fail
                  go_roundg (4 - (i + 1))
                  case rel => exact ⟨i + 1, rfl, by omega, by go_num, hf10⟩
                  case measure => rw [Hg.out]; omega
              · have hi1 : ¬ (i : Int) < 4 := by omega
                obtain rfl : i = 4 := by omega
                have hfo := hfx.none hfi
                go_wp2
                go_ret
                exact ⟨rfl, hfo.below (Nat.le_refl _) (fun k h => h.elim)⟩

end Go.Proofs.Ytdbbngppdcpcgaa.codeTells

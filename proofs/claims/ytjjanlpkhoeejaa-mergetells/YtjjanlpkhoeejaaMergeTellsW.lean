/-
  The walk of the law MergeTells: called with whatever arguments, it returns true and touches nothing that was there. No condition.
-/
import Derived.Test.YtjjanlpkhoeejaaRows
import Derived.Test.YtjjanlpkhoeejaaMLens
import Derived.Test.YtjjanlpkhoeejaaRLens
import Derived.Test.YtjjanlpkhoeejaaMHelp
import Derived.Test.YtjjanlpkhoeejaaRCounts
import Derived.Deep.CutRange
namespace Go.Proofs.Ytjjanlpkhoeejaa.mergeTells
open Go.ChangeShapes Go.WideShapes Go.ChangeAt Go.RowKit

theorem readsZ_isRow {w : World} {a : Option Addr} {len cap : Nat} {zs : List Int} (h : IsRow .i64 w a len cap zs) : ∃ rs : List Int, rs.length = len ∧ In64 rs ∧ ReadsZ w (.slice a len cap) rs := by
  rcases h with ⟨rfl, rfl, rfl, rfl⟩ | ⟨x, rfl, hl, _, hz, hc, hw⟩
  · exact ⟨[], rfl, fun z hz => (by cases hz), ⟨Option.none, 0, rfl, Nat.le_refl _, fun h => by simp [zrow] at h⟩⟩
  · refine ⟨zs.take len, by simp; omega, fun z hz => ?_, ⟨some x, cap, by rw [zrow_length, List.length_take, Nat.min_eq_left (by omega)], by rw [zrow_length, List.length_take]; omega, fun hp => ?_⟩⟩
    · have := bounds_i64 (hw z (List.mem_of_mem_take hz))
      omega
    · rw [zrow_length, List.length_take] at hp
      obtain ⟨b, off, rfl⟩ := spot_none (hc 0 (by omega))
      refine ⟨b, off, rfl, fun j u hj => ?_⟩
      have hjl : j < len := by
        have := (List.getElem?_eq_some_iff.1 hj).1
        rw [zrow_length, List.length_take] at this
        omega
      have hcj := hc j (by omega)
      rw [add_none] at hcj
      rw [hcj]
      have hzj : j < zs.length := by omega
      simp only [zrow, List.getElem?_map, List.getElem?_take, hjl, if_true, List.getElem?_eq_getElem hzj, Option.map_some, Option.some.injEq] at hj
      rw [← hj, List.getD_eq_getElem?_getD, List.getElem?_eq_getElem hzj]
      rfl

def and63 (z : Int) : Nat := (BitVec.ofInt 64 z &&& 63#64).toNat
theorem and63_le (z : Int) : and63 z ≤ 63 := by
  unfold and63
  rw [BitVec.toNat_and]
  exact Nat.and_le_right
theorem and63_is (z : Int) : bits .and .i64 z 63 = ((and63 z : Nat) : Int) := by
  have h := and63_le z
  show IntKind.i64.wrap ((BitVec.ofInt 64 z &&& BitVec.ofInt 64 63).toNat : Int) = _
  rw [show BitVec.ofInt 64 63 = 63#64 by decide]
  exact IntWalk.i64_in _ (by unfold and63 at h; omega)

theorem pm_len_le (cs : List Nat) (L : Nat) : (pmLens cs L).length ≤ 1000000000000 := by
  unfold pmLens
  split
  · simp
  · rename_i h
    simp
    omega

set_option maxRecDepth 4000 in
set_option maxHeartbeats 800000 in
theorem walk (a0 : Option Addr) (len0 cap0 : Nat) (z0 : List Int) (a1 : Int) (a2 : Option Addr) (len2 cap2 : Nat) (z2 : List Int) (a3 : Int) (w : World) (w0 : IsRow .i64 w a0 len0 cap0 z0) (w1 : (Lit.int .i64 a1).wf = true) (w2 : IsRow .u16 w a2 len2 cap2 z2) (w3 : (Lit.int .u8 a3).wf = true) :
    Calls Try.prog 3 #[.slice a0 len0 cap0, .int .i64 a1, .slice a2 len2 cap2, .int .u8 a3] w fun e w' => e = .returned (.bool true) ∧ Below w.heap.size w w' := by
  obtain ⟨xs, hxl, hxx, hrd, -⟩ := reads_isRow small_u16 (by decide) w2
  have hxs : ∀ x ∈ xs, x < 65536 := fun x hx => by
    obtain ⟨j, hj⟩ := List.getElem?_of_mem hx
    have := hxx j
    rwa [List.getD_eq_getElem?_getD, hj] at this
  obtain ⟨rs, hrl, hr64, hrz⟩ := readsZ_isRow w0
  obtain ⟨hb1, hb1'⟩ := bounds_u8 w3
  have hmo := bounds_i64 w1
  obtain ⟨k, rfl⟩ := Int.eq_ofNat_of_zero_le hb1
  have Hrd : Hid (Reads .u16 w (.slice a2 len2 cap2) xs) := hrd
  have Hrz : Hid (ReadsZ w (.slice a0 len0 cap0) rs) := hrz
  have Hxs : Hid _ := hxs
  have Hxl : Hid _ := hxl
  have Hrl : Hid _ := hrl
  have Hr64 : Hid _ := hr64
  clear w0 w1 w2 w3 hrd hrz hxs hxx hb1 hxl hrl hr64
  go_enter Try.func3, Try.ntmps3
  go_wp2_with fail
  refine (known_any mc w).mono ?_
  rintro e w1 ⟨rfl, hf1⟩
  by_cases hbig : 40 < len0
  · have hd : decide ((40 : Int) < (len0 : Int)) = true := decide_eq_true (by omega)
    go_wp2
    all_goals (go_ret; exact ⟨rfl, hf1.below (Nat.le_refl _) (fun k h => h.elim)⟩)
  · by_cases hbig2 : 40 < len2
    · have hd : decide ((40 : Int) < (len0 : Int)) = false := decide_eq_false (by omega)
      have hd2 : decide ((40 : Int) < (len2 : Int)) = true := decide_eq_true (by omega)
      go_wp2
      all_goals (go_ret; exact ⟨rfl, hf1.below (Nat.le_refl _) (fun k h => h.elim)⟩)
    · have hd : decide ((40 : Int) < (len0 : Int)) = false := decide_eq_false (by omega)
      have hd2 : decide ((40 : Int) < (len2 : Int)) = false := decide_eq_false (by omega)
      go_wp2_with fail
      refine (counts_any _ xs k w1 (Hrd.out.keep hf1) Hxs.out (by omega) (by rw [Hxl.out]; omega)).mono ?_
      rintro e w2 ⟨sc, rfl, hoc, hf2, -⟩
      replace hf2 := hf1.none hf2
      have hcl : (xs.map (madeOf k)).length = len2 := by rw [List.length_map, Hxl.out]
      have hcb : ∀ c ∈ xs.map (madeOf k), c ≤ 1099511627776 := fun c hc => by
        obtain ⟨x, hx, rfl⟩ := List.mem_map.1 hc
        have := madeOf_le k x (Hxs.out x hx)
        omega
      generalize xs.map (madeOf k) = cs at hoc hcl hcb
      have hrc := hoc.reads
      obtain ⟨ac, cc, rfl, hcc, -⟩ := id hrc
      rw [length_row, hcl] at hrc hcc ⊢
      have Hcl : Hid _ := hcl
      have Hcb : Hid _ := hcb
      have Hrc : Hid (ReadsZ w2 (.slice ac len2 cc) (zs cs)) := hrc.z
      have Hc64 : Hid _ := zs_in64 cs hcb
      clear hoc hcl hcb hrc hf1
      obtain ⟨r17, h17⟩ : ∃ r, r = k % 17 := ⟨_, rfl⟩
      have Hm64 : Hid (∀ z ∈ [a1, (r17 : Int) - 1, 15, 5], -9223372036854775808 ≤ z ∧ z ≤ 9223372036854775807) := fun z hz => by
        simp at hz
        rcases hz with rfl | rfl | rfl | rfl <;> omega
      have t17 : (k : Int).tmod 17 = (r17 : Int) := by rw [Int.tmod_eq_emod_of_nonneg (by omega)]; omega
      have w17 := wrapI (r17 : Int) r17 rfl (by omega)
      have w18 : IntKind.i64.wrap ((r17 : Int) - 1) = (r17 : Int) - 1 := IntWalk.i64_in _ (by omega)
      clear h17
      go_wp2_with fail
      have hms : ReadsZ (w2.alloc (.cells #[.int .i64 a1, .int .i64 ((r17 : Int) - 1), .int .i64 15, .int .i64 5] 3)) (.slice (some ⟨w2.heap.size, 0, none⟩) 4 4) [a1, (r17 : Int) - 1, 15, 5] := zlit w2 [a1, (r17 : Int) - 1, 15, 5] _ _ rfl rfl (by simp)
      have Hms : Hid _ := hms
      have hf3 : Fr w (w2.alloc (.cells #[.int .i64 a1, .int .i64 ((r17 : Int) - 1), .int .i64 15, .int .i64 5] 3)) (fun _ => False) := hf2.alloc _
      have Hrc3 : Hid (ReadsZ (w2.alloc (.cells #[.int .i64 a1, .int .i64 ((r17 : Int) - 1), .int .i64 15, .int .i64 5] 3)) (.slice ac len2 cc) (zs cs)) := Hrc.out.keep ((Fr.refl w2 _).alloc _)
      generalize (w2.alloc (.cells #[.int .i64 a1, .int .i64 ((r17 : Int) - 1), .int .i64 15, .int .i64 5] 3)) = w3 at Hms hf3 Hrc3 ⊢
      generalize [a1, (r17 : Int) - 1, 15, 5] = ms at Hms Hm64
      have Hrz3 : Hid (ReadsZ w3 (.slice a0 len0 cap0) rs) := Hrz.out.keep hf3
      clear hms t17 w17 w18 hf2
      go_loopg [34, 11] 4 (fun g I _ wi => ∃ i : Nat, g = 4 - i ∧ i ≤ 4 ∧ I = .int .i64 (i : Int) ∧ Fr w3 wi (fun _ => False))
      case atStart => exact ⟨0, rfl, by omega, rfl, Fr.refl _ _⟩
      case round =>
        obtain ⟨i, hg, hi, rfl, hfi⟩ := hrel
        have Hg : Hid _ := hg
        clear hg
        by_cases hlt : i < 4
        · have hml : ms.length = 4 := by
            obtain ⟨_, _, e, _⟩ := ReadsZ.form Hms.out
            simp only [Value.slice.injEq] at e
            exact e.2.1.symm
          obtain ⟨m, hm⟩ : ∃ m, ms[i]? = some m := ⟨_, List.getElem?_eq_getElem (by omega)⟩
          obtain ⟨b, off, cp, e, hb0, kx⟩ := ReadsZ.get Hms.out i m hm
          simp only [Value.slice.injEq, Option.some.injEq, Addr.mk.injEq, and_true] at e
          obtain ⟨⟨rfl, rfl⟩, -, rfl⟩ := e
          have cx := kx _ hfi
          rw [Nat.zero_add] at cx
          obtain ⟨hm1, hm2⟩ := Hm64.out m (List.mem_of_getElem? hm)
          have hi1 : (i : Int) < 4 := by omega
          clear kx hm hb0
          go_wp2_with fail
          refine (mc.lens _ (zs cs) m _ (Hrc3.out.keep hfi) (by rw [zs_length, Hcl.out]; omega) Hc64.out hm1 hm2).mono ?_
          rintro e w4 ⟨sv4, rfl, hr4, hf4⟩
          replace hf4 := hfi.none hf4
          obtain ⟨a4, l4, c4, rfl⟩ := hr4.form
          go_wp2_with fail
          refine (refLens_any _ (zs cs) m _ (Hrc3.out.keep hf4) hm1 hm2).mono ?_
          rintro e w5 ⟨sv5, rfl, hr5, hf5⟩
          replace hr4 := hr4.keep hf5
          replace hf5 := hf4.none hf5
          obtain ⟨a5, l5, c5, rfl⟩ := hr5.form
          clear hf4
          go_wp2_with fail
          refine (ints_any _ _ _ _ _ hr4.z hr5.z (by rw [List.length_map]; exact pm_len_le _ _)).mono ?_
          rw [decide_eq_true rfl]
          rintro e w6 ⟨rfl, hf6⟩
          replace hf6 := hf5.none hf6
          clear hf5 hr4 hr5
          go_wp2_with fail
          refine (mc.lens _ rs m _ (Hrz3.out.keep hf6) (by rw [Hrl.out]; omega) Hr64.out hm1 hm2).mono ?_
          rintro e w7 ⟨sv7, rfl, hr7, hf7⟩
          replace hf7 := hf6.none hf7
          obtain ⟨a7, l7, c7, rfl⟩ := hr7.form
          clear hf6
          go_wp2_with fail
          refine (refLens_any _ rs m _ (Hrz3.out.keep hf7) hm1 hm2).mono ?_
          rintro e w8 ⟨sv8, rfl, hr8, hf8⟩
          replace hr7 := hr7.keep hf8
          replace hf8 := hf7.none hf8
          obtain ⟨a8, l8, c8, rfl⟩ := hr8.form
          clear hf7
          go_wp2_with fail
          refine (ints_any _ _ _ _ _ hr7.z hr8.z (by rw [List.length_map]; exact pm_len_le _ _)).mono ?_
          rw [decide_eq_true rfl]
          rintro e w9 ⟨rfl, hf9⟩
          replace hf9 := hf8.none hf9
          clear hf8 hr7 hr8
          go_wp2_with fail
          go_roundg (4 - (i + 1))
          case rel => exact ⟨i + 1, rfl, by omega, by go_num, hf9⟩
          case measure => rw [Hg.out]; omega
        · have hi1 : ¬ (i : Int) < 4 := by omega
          obtain rfl : i = 4 := by omega
          go_wp2_with fail
          have Hrz4 : Hid (ReadsZ wr (.slice a0 len0 cap0) rs) := Hrz3.out.keep hfi
          have Hrc4 : Hid (ReadsZ wr (.slice ac len2 cc) (zs cs)) := Hrc3.out.keep hfi
          have hf4 := hf3.none hfi
          have HL : Hid (w.heap.size ≤ wr.heap.size) := hf4.size
          clear hfi hi1 hi hf3 hlt
          go_loopg [12, 13] len0 (fun g S I wi => ∃ i : Nat, g = len0 - i ∧ i ≤ len0 ∧ I = .int .i64 (i : Int) ∧ OwnN wi S ((rs.take i).map and63) ∧ Fr wr wi (fun _ => False) ∧ (∀ k, S.ownBlock = some k → wr.heap.size ≤ k))
          case atStart => exact ⟨0, rfl, by omega, rfl, OwnN.nil _, Fr.refl _ _, fun k hk => by simp [Value.ownBlock] at hk⟩
          case round =>
            obtain ⟨i, hg, hi, rfl, ho, hfi, hnw⟩ := hrel
            have Hg : Hid _ := hg
            have Ho : Hid (OwnN wr u12 ((rs.take i).map and63)) := ho
            have Hnw : Hid _ := hnw
            clear hg ho hnw
            by_cases hlt : i < len0
            · obtain ⟨x, hx⟩ : ∃ x, rs[i]? = some x := ⟨_, List.getElem?_eq_getElem (by rw [Hrl.out]; exact hlt)⟩
              obtain ⟨b, off, cp, e, hb0, kx⟩ := ReadsZ.get (Hrz4.out.keep hfi) i x hx
              simp only [Value.slice.injEq] at e
              obtain ⟨rfl, -, rfl⟩ := e
              have cx := kx _ (Fr.refl _ _)
              have hst : (rs.take (i + 1)).map and63 = (rs.take i).map and63 ++ [and63 x] := by rw [takeZ_step hx, List.map_append]; rfl
              have Hst : Hid _ := hst
              have ha : bits .and .i64 x 63 = ((and63 x : Nat) : Int) := and63_is x
              have hi1 : (i : Int) < (len0 : Int) := by omega
              obtain ⟨y, hy⟩ : ∃ y, y = and63 x := ⟨_, rfl⟩
              rw [← hy] at ha Hst
              obtain ⟨v5, w5, hrun5, ho5, hf5, hm5, -⟩ := app_ints (wr.alloc (.cells #[.int .i64 (y : Int)] 3)) u12 (.slice (some ⟨wr.heap.size, 0, none⟩) 1 1) _ [y] (Ho.out.alloc _) (holds_lit wr 3 [.int .i64 (y : Int)] (by simp)) (by rw [List.length_map, List.length_take]; simp; omega)
              rw [← Hst.out] at ho5
              have Ho5 : Hid (OwnN w5 v5 ((rs.take (i + 1)).map and63)) := ho5
              have hf6 := (hfi.alloc (.cells #[.int .i64 (y : Int)] 3)).newer hf5 (fun j hj => Hnw.out j hj)
              have Hn5 : Hid (∀ k, v5.ownBlock = some k → _) := fun k hk => by
                rcases hm5 k hk with h | h
                · exact Hnw.out k h
                · have := (hfi.alloc (.cells #[.int .i64 (y : Int)] 3)).size; exact Nat.le_trans this h
              clear kx hx hst hy ho5 hf5 hm5 hb0
              go_wp2_with (at_builtin; refine wpList_append_run rfl (.tmp 63) (.tmp 69) 22 rfl rfl rfl hrun5 ?_)
              go_roundg (len0 - (i + 1))
              case rel => exact ⟨i + 1, rfl, by omega, by go_num, Ho5.out, hf6, Hn5.out⟩
              case measure => rw [Hg.out]; omega
            · have hie : i = len0 := by omega
              have hd1 : ¬ (i : Int) < (len0 : Int) := by omega
              have htl : rs.take i = rs := List.take_of_length_le (by rw [Hrl.out]; omega)
              have Ho2 : Hid (OwnN wr u12 (rs.map and63)) := by have := Ho.out; rw [htl] at this; exact this
              have hrs := Ho2.out.reads
              have hf5 := hf4.none hfi
              have Hrz5 : Hid (ReadsZ wr (.slice a0 len0 cap0) rs) := Hrz4.out.keep hfi
              have Hrc5 : Hid (ReadsZ wr (.slice ac len2 cc) (zs cs)) := Hrc4.out.keep hfi
              obtain ⟨as_, ls_, cs_, rfl⟩ := hrs.form
              have Hrs : Hid (Reads .i64 wr (.slice as_ ls_ cs_) (rs.map and63)) := hrs
              have Hs63 : Hid (∀ l ∈ rs.map and63, l ≤ 63) := fun l hl => by
                obtain ⟨z, _, rfl⟩ := List.mem_map.1 hl
                exact and63_le z
              have hsl : (rs.map and63).length = len0 := by rw [List.length_map, Hrl.out]
              have Hsl : Hid _ := hsl
              clear htl hrs Ho Ho2 hfi hf4 hsl
              subst hie
              go_wp2_with fail
              refine (mc.kraft _ rs _ Hrz5.out (by rw [Hrl.out]; omega) Hr64.out).mono ?_
              rintro e w6 ⟨rfl, hf6⟩
              go_wp2_with fail
              refine (refKraft_any _ rs _ (Hrz5.out.keep hf6) (by rw [Hrl.out]; omega)).mono ?_
              rintro e w7 ⟨rfl, rfl⟩
              have Hrs6 : Hid (Reads .i64 w7 (.slice as_ ls_ cs_) (rs.map and63)) := Hrs.out.keep hf6
              have Hrc6 : Hid (ReadsZ w7 (.slice ac len2 cc) (zs cs)) := Hrc5.out.keep hf6
              replace hf6 := hf5.none hf6
              go_wp2_with fail
              have Hi64 : Hid (In64 ((rs.map and63).map fun (b : Nat) => (b : Int))) := fun z hz => by
                obtain ⟨b, hb, rfl⟩ := List.mem_map.1 hz
                have := Hs63.out b hb
                omega
              refine (mc.kraft _ _ _ Hrs6.out.z (by rw [List.length_map, Hsl.out]; omega) Hi64.out).mono ?_
              rintro e w8 ⟨rfl, hf8⟩
              have Hrs8 : Hid (Reads .i64 w8 (.slice as_ ls_ cs_) (rs.map and63)) := Hrs6.out.keep hf8
              have Hrc8 : Hid (ReadsZ w8 (.slice ac len2 cc) (zs cs)) := Hrc6.out.keep hf8
              replace hf8 := hf6.none hf8
              go_wp2_with fail
              refine (refKraft_any _ _ _ Hrs8.out.z (by rw [List.length_map, Hsl.out]; omega)).mono ?_
              rintro e w9 ⟨rfl, rfl⟩
              go_wp2_with fail
              refine (mc.cost _ _ _ _ _ Hrc8.out Hrs8.out (by rw [zs_length, Hcl.out]; omega) Hc64.out Hs63.out).mono ?_
              rintro e w10 ⟨rfl, hf10⟩
              have Hrs9 : Hid (Reads .i64 w10 (.slice as_ ls_ cs_) (rs.map and63)) := Hrs8.out.keep hf10
              have Hrc9 : Hid (ReadsZ w10 (.slice ac len2 cc) (zs cs)) := Hrc8.out.keep hf10
              replace hf10 := hf8.none hf10
              go_wp2_with fail
              refine (refCost_any _ _ _ _ _ Hrc9.out Hrs9.out (by rw [zs_length, Hcl.out]; omega) Hs63.out).mono ?_
              rintro e w11 ⟨rfl, hf11⟩
              replace hf11 := hf10.none hf11
              go_wp2_with fail
              go_ret
              exact ⟨rfl, hf11.below (Nat.le_refl _) (fun k h => h.elim)⟩

end Go.Proofs.Ytjjanlpkhoeejaa.mergeTells

/-
  The walk of the law VarintTells: called with whatever arguments, it returns true and touches nothing that was there. No condition.
-/
import Derived.Test.YtimegheijfnkaaaKnown
import Derived.Test.YtimegheijfnkaaaRefPut
import Derived.Test.YtimegheijfnkaaaRefTake
import Derived.Test.YtimegheijfnkaaaLex
namespace Go.Proofs.Ytimegheijfnkaaa.varintTells
open Go.ChangeShapes Go.WideShapes Go.ChangeAt Go.RowKit

theorem _root_.Go.Proofs.Ytimegheijfnkaaa.Reads.form {k : IntKind} {w : World} {v : Value} {bs : List Nat} (h : Reads k w v bs) : ∃ a l c, v = .slice a l c := by
  obtain ⟨a, c, h, _⟩ := h
  exact ⟨_, _, _, h⟩

set_option maxRecDepth 4000 in
set_option maxHeartbeats 1600000 in
theorem walk (a0 : Option Addr) (len0 cap0 : Nat) (z0 : List Int) (a1 : Option Addr) (len1 cap1 : Nat) (z1 : List Int) (a2 : Int) (a3 : Int) (a4 : Int) (a5 : Int) (w : World) (w0 : IsRow .u64 w a0 len0 cap0 z0) (w1 : IsRow .u8 w a1 len1 cap1 z1) (w2 : (Lit.int .u8 a2).wf = true) (w3 : (Lit.int .u64 a3).wf = true) (w4 : (Lit.int .u8 a4).wf = true) (w5 : (Lit.int .u8 a5).wf = true) :
    Calls Try.prog 3 #[.slice a0 len0 cap0, .slice a1 len1 cap1, .int .u8 a2, .int .u64 a3, .int .u8 a4, .int .u8 a5] w fun e w' => e = .returned (.bool true) ∧ Below w.heap.size w w' := by
  obtain ⟨ls, hll, hls, hrl, -⟩ := reads_isRow small_u64 (by decide) w0
  obtain ⟨rs, hrsl, hrs, hrr, -⟩ := reads_isRow small_u8 (by decide) w1
  obtain ⟨hb2, hb2'⟩ := bounds_u8 w2
  obtain ⟨hb3, hb3'⟩ := bounds_u64 w3
  obtain ⟨hb4, hb4'⟩ := bounds_u8 w4
  obtain ⟨hb5, hb5'⟩ := bounds_u8 w5
  obtain ⟨k, rfl⟩ := Int.eq_ofNat_of_zero_le hb2
  obtain ⟨m, rfl⟩ := Int.eq_ofNat_of_zero_le hb3
  obtain ⟨t, rfl⟩ := Int.eq_ofNat_of_zero_le hb4
  obtain ⟨c, rfl⟩ := Int.eq_ofNat_of_zero_le hb5
  have hm : m < 18446744073709551616 := by omega
  have hk : k < 256 := by omega
  have hc : c < 256 := by omega
  clear hb2 hb3 hb4 hb5 w0 w1 w2 w3 w4 w5 hb3'
  have Hrl : Hid (Reads .u64 w (.slice a0 len0 cap0) ls) := hrl
  have Hll : Hid _ := hll
  have Hls : Hid (∀ u ∈ ls, u < 18446744073709551616) := fun u hu => by
    obtain ⟨j, hj, rfl⟩ := List.getElem_of_mem hu
    have := hls j
    rwa [List.getD_eq_getElem?_getD, List.getElem?_eq_getElem hj] at this
  have Hrr : Hid (Reads .u8 w (.slice a1 len1 cap1) rs) := hrr
  have Hrsl : Hid _ := hrsl
  have Hrs : Hid (∀ u ∈ rs, u < 256) := fun u hu => by
    obtain ⟨j, hj, rfl⟩ := List.getElem_of_mem hu
    have := hrs j
    rwa [List.getD_eq_getElem?_getD, List.getElem?_eq_getElem hj] at this
  obtain ⟨X, hX⟩ : ∃ X, edgeV m k = X := ⟨_, rfl⟩
  have hX2 := edgeV_lt m k hm
  rw [hX] at hX2
  have HX : Hid _ := hX
  clear hll hls hrl hrsl hrs hrr hX
  go_enter Try.func3, Try.ntmps3
  go_wp2_with fail
  refine (known_any w).mono ?_
  rintro e wa ⟨rfl, hf1⟩
  by_cases hlen : 12 < len0
  · go_wp2
    go_ret
    exact ⟨rfl, hf1.below (Nat.le_refl _) (fun _ h => h.elim)⟩
  have hd12 : decide (12 < (len0 : Int)) = false := by simp; omega
  by_cases hlen1 : 40 < len1
  · go_wp2
    go_ret
    exact ⟨rfl, hf1.below (Nat.le_refl _) (fun _ h => h.elim)⟩
  have hd40 : decide (40 < (len1 : Int)) = false := by simp; omega
  go_wp2_with fail
  refine (refPut_any _ ls wa (Hrl.out.keep hf1) Hls.out (by rw [Hll.out]; omega)).mono ?_
  rintro e wb ⟨sb, rfl, hob, hfb, -⟩
  have hf2 := hf1.none hfb
  have hrb := hob.reads
  have Hob : Hid (Own wb sb (encs ls)) := hob
  clear hf1 hfb hob
  go_wp2
  have hcb : ∀ x, Fr wb.drew x (fun _ => False) → (convert 23 9 sb).run Try.prog x = .ok (.string (strOf (encs ls))) x := fun x hx => conv_reads (Reads.keep (w := wb.drew) hrb hx)
  refine wp_region_lex (fun _ => False) [1] [0, 3, 4, 1, 2, 5] (by kernel_rfl) (by kernel_rfl) rfl (by kernel_rfl) ?_
  repeat (refine wpLex_take (v := ?_) rfl rfl rfl (fun x hx => ?_) ?_; rotate_left; (focus (go_simp; with_reducible rfl)); simp only [Act.put, List.setIfInBounds_toArray, List.set_cons_zero, List.set_cons_succ])
  clear hcb
  refine wpLex_step rfl rfl rfl (fun K hK => ?_)
  go_simp
  refine (puts_any _ ls _ (Hrl.out.keep hf2.drew) Hls.out (by rw [Hll.out]; omega)).mono ?_
  rintro e wc ⟨sc, rfl, hoc, hfc, -⟩
  have hrc := hoc.reads
  have hcc : ∀ x, Fr wc x (fun _ => False) → (convert 23 9 sc).run Try.prog x = .ok (.string (strOf (encs ls))) x := fun x hx => conv_reads (hrc.keep hx)
  refine hK _ _ hfc ?_
  clear hK K
  repeat (refine wpLex_take (v := ?_) rfl rfl rfl (fun x hx => ?_) ?_; rotate_left; (focus (go_simp; with_reducible rfl)); simp only [Act.put, List.setIfInBounds_toArray, List.set_cons_zero, List.set_cons_succ])
  refine wpLex_nil ?_
  have hf3 := hf2.drew.none hfc
  have hrb3 := Reads.keep (w := wb.drew) hrb hfc
  clear hcc hf2 hfc hrb hoc hrc
  go_wp2_with fail
  refine (edge_any m k wc hm hk).mono ?_
  rw [HX.out]
  rintro e wd ⟨rfl, hfd⟩
  have hf4 := hf3.none hfd
  have hrb4 := hrb3.keep hfd
  clear hf3 hfd hrb3
  go_wp2_with fail
  have hfx := (Fr.refl wd (fun _ => False)).alloc (.cells #[.int .u64 (X : Int)] 24)
  refine (refPut_any _ [X] _ (holds_lit wd 24 [.int .u64 (X : Int)] (by simp)) (by simpa using hX2) (by simp)).mono ?_
  rintro e we ⟨se, rfl, hoe, hfe, hne⟩
  have hee : encs [X] = enc X := by simp [encs]
  rw [hee] at hoe
  have hf5 := (hf4.none hfx).none hfe
  have hrb5 := (hrb4.keep hfx).keep hfe
  clear hf4 hfx hfe hrb4 hee hne
  have hL1 := enc_pos X
  have hL2 := enc_le X hX2
  obtain ⟨L, hL⟩ : ∃ L, L = (enc X).length := ⟨_, rfl⟩
  obtain ⟨sd, wf, hrund, hod, hfd, hmd, -⟩ := app_bytes we (.slice none 0 0) se [] (enc X) (Own.nil _) hoe.reads (by simp; omega)
  have hfd' : Fr we wf (fun _ => False) := hfd.mono (fun _ _ h => by simp [Value.ownBlock] at h)
  have hnd : ∀ k, sd.ownBlock = some k → we.heap.size ≤ k := fun k hk => by
    rcases hmd k hk with h | h
    · simp [Value.ownBlock] at h
    · exact h
  rw [List.nil_append] at hod
  have hre := hoe.reads
  obtain ⟨g, cap, rfl, cur, hg⟩ := own_form hod hL1
  have fg : ∀ j, wf.frozen? ⟨g, j, none⟩ = false := fun j => World.ownsRow.frozenAt hod j
  obtain ⟨J, hJ⟩ : ∃ J, J = t % L := ⟨_, rfl⟩
  rw [← hL] at hL1 hL2
  have htm : (t : Int) % (L : Int) = (J : Int) := by rw [hJ]; simp
  have hJL : J < L := by rw [hJ]; exact Nat.mod_lt _ hL1
  have cg : wf.cell? ⟨g, J, none⟩ = some (.int .u8 (((enc X).getD J 0 : Nat) : Int)) := by
    rw [World.ownsRow.cellAt hod J (by rw [← hL]; omega), row_get .u8 _ J (by rw [← hL]; exact hJL)]
  obtain ⟨ho3, hg3⟩ := World.ownsRow.stored hod J (.int .u8 (c : Int))
  rw [← row_set] at ho3
  obtain ⟨D, hD⟩ : ∃ D, D = (enc X).set J c := ⟨_, rfl⟩
  have hDl : D.length = L := by rw [hD, List.length_set, hL]
  have hDb : ∀ x ∈ D, x < 256 := by
    intro x hx
    rw [hD] at hx
    rcases List.mem_or_eq_of_mem_set hx with h | h
    · exact enc_bytes X x h
    · omega
  rw [← hD, ← hL, ← hDl] at ho3
  have hfg : Fr we (wf.setCell ⟨g, J, none⟩ (.int .u8 (c : Int))) (fun _ => False) := hfd'.setCell ⟨g, J, none⟩ (fun h => by have := hnd g rfl; simp at h; omega) _
  obtain ⟨wg, hwg⟩ : ∃ wg, wg = wf.setCell ⟨g, J, none⟩ (.int .u8 (c : Int)) := ⟨_, rfl⟩
  rw [← hwg] at ho3 hfg
  have hog : Own wg (.slice (some ⟨g, 0, none⟩) D.length cap) D := ho3
  rw [hDl] at hog
  have hrr := Hrr.out.keep hf5
  obtain ⟨vA, wA, hrunA, hoA, hfA, hmA, hrdA⟩ := app_bytes wg _ _ D rs hog (hrr.keep hfg) (by rw [hDl, Hrsl.out]; omega)
  have hfeA : Fr we wA (fun _ => False) := hfg.newer hfA (fun k hk => by have := hnd k hk; exact this)
  obtain ⟨vB, wB, hrunB, hoB, hfB, hmB, -⟩ := app_bytes (wA.alloc (.cells #[.int .u8 255, .int .u8 255, .int .u8 255, .int .u8 255, .int .u8 255, .int .u8 255, .int .u8 255, .int .u8 255, .int .u8 255, .int .u8 (c : Int)] 5)) _ _ [255, 255, 255, 255, 255, 255, 255, 255, 255, c] rs
    (own_lit wA 5 [.int .u8 255, .int .u8 255, .int .u8 255, .int .u8 255, .int .u8 255, .int .u8 255, .int .u8 255, .int .u8 255, .int .u8 255, .int .u8 (c : Int)] (by simp)) ((hrr.keep hfeA).keep ((Fr.refl wA (fun _ => False)).alloc _)) (by rw [Hrsl.out]; simp; omega)
  have hfAB : Fr wA wB (fun _ => False) := ((Fr.refl wA (fun _ => False)).alloc _).newer hfB (fun k hk => by simp [Value.ownBlock] at hk; omega)
  obtain ⟨vC, wC, hrunC, hoC, hfC, hmC, -⟩ := app_bytes (wB.alloc (.cells #[.int .u8 128, .int .u8 128, .int .u8 (c : Int)] 5)) _ _ [128, 128, c] rs
    (own_lit wB 5 [.int .u8 128, .int .u8 128, .int .u8 (c : Int)] (by simp)) (((hrr.keep hfeA).keep hfAB).keep ((Fr.refl wB (fun _ => False)).alloc _)) (by rw [Hrsl.out]; simp; omega)
  have hfBC : Fr wB wC (fun _ => False) := ((Fr.refl wB (fun _ => False)).alloc _).newer hfC (fun k hk => by simp [Value.ownBlock] at hk; omega)
  have hfAC := hfAB.none hfBC
  have hfeC := hfeA.none hfAC
  have hfC' := hf5.none hfeC
  obtain ⟨aE, capE, rfl, hlcE, -⟩ := id hre
  rw [length_row, ← hL] at hrund hre hlcE ⊢
  rw [hwg] at hrunA
  have hall : ∀ p ∈ [(Value.slice a1 len1 cap1, rs), (sb, encs ls), (.slice aE L capE, enc X), (.slice (some ⟨g, 0, none⟩) L cap, D), (vA, D ++ rs), (vB, [255, 255, 255, 255, 255, 255, 255, 255, 255, c] ++ rs), (vC, [128, 128, c] ++ rs)],
      Reads .u8 wC p.1 p.2 ∧ (∀ x ∈ p.2, x < 256) ∧ p.2.length ≤ 1000 := by
    intro p hp
    simp only [List.mem_cons, List.not_mem_nil, or_false] at hp
    have hcl : ∀ x ∈ rs, x < 256 := Hrs.out
    have hrl : rs.length ≤ 40 := by rw [Hrsl.out]; omega
    rcases hp with rfl | rfl | rfl | rfl | rfl | rfl | rfl
    · exact ⟨hrr.keep hfeC, hcl, by show rs.length ≤ 1000; omega⟩
    · refine ⟨hrb5.keep hfeC, encs_bytes ls, ?_⟩
      have := encs_le ls Hls.out
      rw [Hll.out] at this
      show (encs ls).length ≤ 1000
      omega
    · exact ⟨hre.keep hfeC, enc_bytes X, by show (enc X).length ≤ 1000; omega⟩
    · exact ⟨hrdA.keep hfAC, hDb, by show D.length ≤ 1000; omega⟩
    · refine ⟨hoA.reads.keep hfAC, fun x hx => ?_, by show (D ++ rs).length ≤ 1000; rw [List.length_append]; omega⟩
      rcases List.mem_append.1 hx with h | h
      · exact hDb x h
      · exact hcl x h
    · refine ⟨hoB.reads.keep hfBC, fun x hx => ?_, by show ([255, 255, 255, 255, 255, 255, 255, 255, 255, c] ++ rs).length ≤ 1000; rw [List.length_append]; simp; omega⟩
      rcases List.mem_append.1 hx with h | h
      · simp at h; omega
      · exact hcl x h
    · refine ⟨hoC.reads, fun x hx => ?_, by show ([128, 128, c] ++ rs).length ≤ 1000; rw [List.length_append]; simp; omega⟩
      rcases List.mem_append.1 hx with h | h
      · simp at h; omega
      · exact hcl x h
  obtain ⟨aS, lS, capS, rfl⟩ := (hall (sb, encs ls) (by simp)).1.form
  obtain ⟨aA, lA, capA, rfl⟩ := (hall (vA, D ++ rs) (by simp)).1.form
  obtain ⟨aB, lB, capB, rfl⟩ := (hall (vB, [255, 255, 255, 255, 255, 255, 255, 255, 255, c] ++ rs) (by simp)).1.form
  obtain ⟨aC, lC, capC, rfl⟩ := (hall (vC, [128, 128, c] ++ rs) (by simp)).1.form
  have hlit := holds_lit wC 23 [Value.slice a1 len1 cap1, .slice aS lS capS, .slice aE L capE, .slice (some ⟨g, 0, none⟩) L cap, .slice aA lA capA, .slice aB lB capB, .slice aC lC capC] (by simp)
  have hcells : ∀ i, i < 7 → ∃ V bs, (wC.alloc (.cells #[Value.slice a1 len1 cap1, .slice aS lS capS, .slice aE L capE, .slice (some ⟨g, 0, none⟩) L cap, .slice aA lA capA, .slice aB lB capB, .slice aC lC capC] 23)).cell? ⟨wC.heap.size, i, none⟩ = some V ∧ Reads .u8 wC V bs ∧ (∀ x ∈ bs, x < 256) ∧ bs.length ≤ 1000 := by
    intro i hi
    obtain ⟨ao, cp, e, -, hcc⟩ := hlit
    obtain ⟨b, off, rfl, hcell⟩ := hcc (by simp)
    simp only [Value.slice.injEq, Option.some.injEq, Addr.mk.injEq, and_true] at e
    obtain ⟨⟨rfl, rfl⟩, -⟩ := e
    simp only [Nat.zero_add] at hcell
    match i, hi with
    | 0, _ => obtain ⟨a, b, c⟩ := hall _ (List.mem_cons_self ..); exact ⟨_, _, hcell 0 _ rfl, a, b, c⟩
    | 1, _ => obtain ⟨a, b, c⟩ := hall (.slice aS lS capS, encs ls) (by simp); exact ⟨_, _, hcell 1 _ rfl, a, b, c⟩
    | 2, _ => obtain ⟨a, b, c⟩ := hall (.slice aE L capE, enc X) (by simp); exact ⟨_, _, hcell 2 _ rfl, a, b, c⟩
    | 3, _ => obtain ⟨a, b, c⟩ := hall (.slice (some ⟨g, 0, none⟩) L cap, D) (by simp); exact ⟨_, _, hcell 3 _ rfl, a, b, c⟩
    | 4, _ => obtain ⟨a, b, c⟩ := hall (.slice aA lA capA, D ++ rs) (by simp); exact ⟨_, _, hcell 4 _ rfl, a, b, c⟩
    | 5, _ => obtain ⟨a, b, c⟩ := hall (.slice aB lB capB, [255, 255, 255, 255, 255, 255, 255, 255, 255, c] ++ rs) (by simp); exact ⟨_, _, hcell 5 _ rfl, a, b, c⟩
    | 6, _ => obtain ⟨a, b, c⟩ := hall (.slice aC lC capC, [128, 128, c] ++ rs) (by simp); exact ⟨_, _, hcell 6 _ rfl, a, b, c⟩
  have hfS := hfC'.alloc (.cells #[Value.slice a1 len1 cap1, .slice aS lS capS, .slice aE L capE, .slice (some ⟨g, 0, none⟩) L cap, .slice aA lA capA, .slice aB lB capB, .slice aC lC capC] 23)
  have hfCS := (Fr.refl wC (fun _ => False)).alloc (.cells #[Value.slice a1 len1 cap1, .slice aS lS capS, .slice aE L capE, .slice (some ⟨g, 0, none⟩) L cap, .slice aA lA capA, .slice aB lB capB, .slice aC lC capC] 23)
  have Hcells : Hid _ := hcells
  have fgJ := fg J
  clear hcells hlit hall hfC' hfeC hfAC hfBC hfC hfB hfA hfAB hfeA hoA hoB hoC hmA hmB hmC hrdA hog hrr hwg hfg ho3 hDb hDl hD hg3 hJ hg hre hnd hfd' hmd hod hfd hoe hrb5 hf5 fg hL
  go_wp2_with (at_builtin; first | refine wpList_append_run rfl (.const (.slice none 0 0)) (.tmp 49) 23 rfl rfl rfl hrund ?_ | refine wpList_append_run rfl (.tmp 63) (.tmp 64) 23 rfl rfl rfl hrunA ?_ | refine wpList_append_run rfl (.tmp 67) (.tmp 68) 23 rfl rfl rfl hrunB ?_ | refine wpList_append_run rfl (.tmp 71) (.tmp 72) 23 rfl rfl rfl hrunC ?_)
  clear hrund hrunA hrunB hrunC cg fgJ
  generalize wC.alloc (.cells #[Value.slice a1 len1 cap1, .slice aS lS capS, .slice aE L capE, .slice (some ⟨g, 0, none⟩) L cap, .slice aA lA capA, .slice aB lB capB, .slice aC lC capC] 23) = wS at *
  generalize wC.heap.size = B at *
  have Hc7 : Hid (∀ wr, Fr wS wr (fun _ => False) → ∀ i, i < 7 → ∃ V bs, wr.cell? ⟨B, i, none⟩ = some V ∧ Reads .u8 wr V bs ∧ (∀ x ∈ bs, x < 256) ∧ bs.length ≤ 1000) := by
    intro wr hfr i hi
    obtain ⟨V, bs, h1, h2, h3, h4⟩ := Hcells.out i hi
    refine ⟨V, bs, ?_, (h2.keep hfCS).keep hfr, h3, h4⟩
    rw [World.cell?_of_block (w := wS) (hfr.block _ (World.block_lt_of_cell? _ _ h1) (fun h => h))]
    exact h1
  clear Hcells hfCS
  go_loopg [76] 7 (fun gh I wr => ∃ i : Nat, i ≤ 7 ∧ gh = 7 - i ∧ I = .int .i64 (i : Int) ∧ Fr wS wr (fun _ => False))
  case atStart => exact ⟨0, by omega, by omega, rfl, Fr.refl _ _⟩
  case round =>
    obtain ⟨i, hi, hgk, rfl, hfr⟩ := hrel
    have Hgk : Hid _ := hgk
    clear hgk
    by_cases hlt : i < 7
    · obtain ⟨V, bs, cV, hrV, hbV, hlV⟩ := Hc7.out wr hfr i hlt
      obtain ⟨aV, lV, capV, rfl⟩ := hrV.form
      have HbV : Hid _ := hbV
      have HrV : Hid (Reads .u8 wr (.slice aV lV capV) bs) := hrV
      clear hbV hrV
      go_wp2_with fail
      refine (edge_any m k wr hm hk).mono ?_
      rw [HX.out]
      rintro e wx ⟨rfl, hfx⟩
      have hl4 := holds_lit wx 24 [.int .u64 (m : Int), .int .u64 (X : Int), .int .u64 127, .int .u64 18446744073709551615] (by simp)
      have hfx4 := (hfr.none hfx).alloc (.cells #[.int .u64 (m : Int), .int .u64 (X : Int), .int .u64 127, .int .u64 18446744073709551615] 24)
      have hrx : Reads .u8 (wx.alloc (.cells #[.int .u64 (m : Int), .int .u64 (X : Int), .int .u64 127, .int .u64 18446744073709551615] 24)) (.slice aV lV capV) bs := (HrV.out.keep hfx).keep ((Fr.refl wx (fun _ => False)).alloc _)
      have H4 : Hid (∀ j, j < 4 → ∃ M : Nat, (wx.alloc (.cells #[.int .u64 (m : Int), .int .u64 (X : Int), .int .u64 127, .int .u64 18446744073709551615] 24)).cell? ⟨wx.heap.size, j, none⟩ = some (.int .u64 (M : Int)) ∧ M < 18446744073709551616) := by
        intro j hj
        obtain ⟨ao, cp, e, -, hcc⟩ := hl4
        obtain ⟨b, off, rfl, hcell⟩ := hcc (by simp)
        simp only [Value.slice.injEq, Option.some.injEq, Addr.mk.injEq, and_true] at e
        obtain ⟨⟨rfl, rfl⟩, -⟩ := e
        simp only [Nat.zero_add] at hcell
        match j, hj with
        | 0, _ => exact ⟨m, hcell 0 _ rfl, hm⟩
        | 1, _ => exact ⟨X, hcell 1 _ rfl, hX2⟩
        | 2, _ => exact ⟨127, hcell 2 _ rfl, by omega⟩
        | 3, _ => exact ⟨18446744073709551615, hcell 3 _ rfl, by omega⟩
      clear hl4 hfr hfx cV HrV
      go_wp2_with fail
      generalize wx.alloc (.cells #[.int .u64 (m : Int), .int .u64 (X : Int), .int .u64 127, .int .u64 18446744073709551615] 24) = wy at *
      generalize wx.heap.size = B4 at *
      have Hrx : Hid _ := hrx
      clear hrx
      go_loopg [86] 4 (fun gh J wi => ∃ j : Nat, j ≤ 4 ∧ gh = 4 - j ∧ J = .int .i64 (j : Int) ∧ wi = wy)
      case atStart => exact ⟨0, by omega, by omega, rfl, rfl⟩
      case round =>
        obtain ⟨j, hj, hgj, rfl, rfl⟩ := hrel
        have Hgj : Hid _ := hgj
        clear hgj
        by_cases hjl : j < 4
        · obtain ⟨M, cM, hM⟩ := H4.out j hjl
          go_wp2_with fail
          refine (take_any _ bs M _ Hrx.out HbV.out (by omega) hM).mono ?_
          rintro e w' ⟨rfl, rfl⟩
          go_wp2_with fail
          refine (refTake_any _ bs M _ Hrx.out HbV.out (by omega) hM).mono ?_
          rintro e w' ⟨rfl, rfl⟩
          generalize took bs M = T
          go_wp2
          go_roundg (4 - (j + 1))
          case rel => exact ⟨j + 1, by omega, rfl, by go_num, rfl⟩
          case measure => rw [Hgj.out]; omega
        · go_wp2
          go_roundg (7 - (i + 1))
          case rel => exact ⟨i + 1, by omega, rfl, by go_num, hfx4⟩
          case measure => rw [Hgk.out]; omega
    · have hfe := hfS.none hfr
      clear hfr
      go_wp2_with fail
      refine (edge_any m k wr hm hk).mono ?_
      rw [HX.out]
      rintro e w1 ⟨rfl, h1⟩
      go_wp2_with fail
      refine (size_any X w1 hX2).mono ?_
      rintro e w1' ⟨rfl, rfl⟩
      go_wp2_with fail
      refine (edge_any m k _ hm hk).mono ?_
      rw [HX.out]
      rintro e w2 ⟨rfl, h2⟩
      go_wp2_with fail
      refine (refSize_any X w2 hX2).mono ?_
      rintro e w3 ⟨rfl, h3⟩
      have hfz := ((hfe.none h1).none h2).none h3
      generalize (enc X).length = Lx
      clear h1 h2 h3
      go_wp2
      go_ret
      exact ⟨rfl, hfz.below (Nat.le_refl _) (fun _ h => h.elim)⟩

end Go.Proofs.Ytimegheijfnkaaa.varintTells

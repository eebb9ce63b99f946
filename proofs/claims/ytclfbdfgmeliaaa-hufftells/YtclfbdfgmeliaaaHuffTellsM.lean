/-
  The walk of the law HuffTells, under the condition that the program's functions answer as their contracts say.
-/
import Derived.Test.YtclfbdfgmeliaaaRows
import Derived.Test.YtclfbdfgmeliaaaJ8
import Derived.Test.YtclfbdfgmeliaaaJ5
import Derived.Test.YtclfbdfgmeliaaaJ2
import Derived.Laws.BitsAllLaws
namespace Go.Proofs.Ytclfbdfgmeliaaa.huffTells
open Go.ChangeShapes Go.WideShapes Go.ChangeAt Go.RowKit

theorem set_lt {P : List Nat} (h : ∀ x ∈ P, x < 256) (i y : Nat) (hy : y < 256) : ∀ x ∈ P.set i y, x < 256 := fun x hx => by
  rcases List.mem_or_eq_of_mem_set hx with h1 | h1
  · exact h x h1
  · rw [h1]; exact hy
/-- A slice that both Reads can be asked at. -/
def Good (w : World) (v : Value) : Prop := ∃ a l c bs, v = .slice a l c ∧ Reads .u8 w v bs ∧ (∀ x ∈ bs, x < 256) ∧ bs.length ≤ 50000
theorem Good.keep {w w' : World} {v : Value} (h : Good w v) (f : Fr w w' (fun _ => False)) : Good w' v := by
  obtain ⟨a, l, c, bs, e, hr, hb, hl⟩ := h
  exact ⟨a, l, c, bs, e, hr.keep f, hb, hl⟩
theorem good_of {w : World} {v : Value} {bs : List Nat} (h : Reads .u8 w v bs) (hb : ∀ x ∈ bs, x < 256) (hl : bs.length ≤ 50000) : Good w v := by
  obtain ⟨a, l, c, e⟩ := h.form
  exact ⟨a, l, c, bs, e, h, hb, hl⟩

set_option maxRecDepth 4000 in
set_option maxHeartbeats 6400000 in
theorem walkM (M : HC) (a0 : Option Addr) (len0 cap0 : Nat) (z0 : List Int) (a1 : Option Addr) (len1 cap1 : Nat) (z1 : List Int) (a2 : Int) (a3 : Int) (a4 : Int) (a5 : Int) (w : World) (w0 : IsRow .u8 w a0 len0 cap0 z0) (w1 : IsRow .u8 w a1 len1 cap1 z1) (w2 : (Lit.int .u8 a2).wf = true) (w3 : (Lit.int .u8 a3).wf = true) (w4 : (Lit.int .u16 a4).wf = true) (w5 : (Lit.int .u8 a5).wf = true) :
    Calls Try.prog 3 #[.slice a0 len0 cap0, .slice a1 len1 cap1, .int .u8 a2, .int .u8 a3, .int .u16 a4, .int .u8 a5] w fun e w' => e = .returned (.bool true) ∧ Below w.heap.size w w' := by
  obtain ⟨rs, hrl, hrx, hrr, -⟩ := reads_isRow hu8 (by decide) w0
  obtain ⟨ls, hll, hlx, hrls, -⟩ := reads_isRow hu8 (by decide) w1
  obtain ⟨k, rfl⟩ : ∃ k : Nat, a2 = (k : Int) := ⟨a2.toNat, by have := hu8 a2 w2; omega⟩
  obtain ⟨how, rfl⟩ : ∃ k : Nat, a3 = (k : Int) := ⟨a3.toNat, by have := hu8 a3 w3; omega⟩
  obtain ⟨at_, rfl⟩ : ∃ k : Nat, a4 = (k : Int) := ⟨a4.toNat, by have := hu16 a4 w4; omega⟩
  obtain ⟨c, rfl⟩ : ∃ k : Nat, a5 = (k : Int) := ⟨a5.toNat, by have := hu8 a5 w5; omega⟩
  have hk := (hu8 _ w2).2
  have hh := (hu8 _ w3).2
  have ha := (hu16 _ w4).2
  have hc := (hu8 _ w5).2
  have Hrr : Hid (Reads .u8 w (.slice a0 len0 cap0) rs) := hrr
  have Hrls : Hid (Reads .u8 w (.slice a1 len1 cap1) ls) := hrls
  have Hrx : Hid (∀ x ∈ rs, x < 256) := mem_of_getD hrx
  have Hlx : Hid (∀ x ∈ ls, x < 256) := mem_of_getD hlx
  have Hrl : Hid (rs.length = len0) := by first | exact hrl | exact hrl.symm
  have Hll : Hid (ls.length = len1) := by first | exact hll | exact hll.symm
  have hkb : k < 256 := by omega
  have hhb : how < 256 := by omega
  have hab : at_ < 65536 := by omega
  have hcb : c < 256 := by omega
  clear w0 w1 w2 w3 w4 w5 hrr hrls hrx hlx hrl hll hk hh ha hc
  go_enter Try.func3, Try.ntmps3
  go_wp2_with fail
  refine (known_any M w).mono ?_
  rintro e w1 ⟨rfl, hf1⟩
  by_cases hbig : 60 < len0
  · have hd : decide ((60 : Int) < (len0 : Int)) = true := decide_eq_true (by omega)
    have hd2 : decide (60 < len0) = true := decide_eq_true hbig
    go_wp2
    go_ret
    exact ⟨rfl, below_of hf1⟩
  · have hd : decide ((60 : Int) < (len0 : Int)) = false := decide_eq_false (by omega)
    have hd2 : decide (60 < len0) = false := decide_eq_false hbig
    by_cases hbig2 : 40 < len1
    · have he : decide ((40 : Int) < (len1 : Int)) = true := decide_eq_true (by omega)
      have he2 : decide (40 < len1) = true := decide_eq_true hbig2
      go_wp2
      go_ret
      exact ⟨rfl, below_of hf1⟩
    · have he : decide ((40 : Int) < (len1 : Int)) = false := decide_eq_false (by omega)
      have he2 : decide (40 < len1) = false := decide_eq_false hbig2
      go_wp2_with fail
      refine (text_any _ ls k w1 (Hrls.out.keep hf1) Hlx.out hkb (by rw [Hll.out]; omega)).mono ?_
      rintro e w2 ⟨sb, rfl, hob, hf2, -⟩
      have Hf2 : Hid (Fr w w2 (fun _ => False)) := hf1.none hf2
      have hTl := text_len ls k
      rw [Hll.out] at hTl
      have hTb := text_lt ls k Hlx.out
      obtain ⟨T, hT⟩ : ∃ T, T = textOf ls k := ⟨_, rfl⟩
      rw [← hT] at hob hTl hTb
      have Hrb2 : Hid (Reads .u8 w2 sb T) := hob.reads
      have HTb : Hid (∀ x ∈ T, x < 256) := hTb
      have hT320 : T.length ≤ 320 := by omega
      clear hf1 hf2 hob hTl hTb hT
      go_wp2_with fail
      refine (refHPut_any _ T w2 Hrb2.out HTb.out (by omega)).mono ?_
      rintro e w3 ⟨sp, rfl, hop, hf3, -⟩
      have Hf3 : Hid (Fr w w3 (fun _ => False)) := Hf2.out.none hf3
      have Hrb3 : Hid (Reads .u8 w3 sb T) := Hrb2.out.keep hf3
      have Hrr3 : Hid (Reads .u8 w3 (.slice a0 len0 cap0) rs) := Hrr.out.keep Hf3.out
      have hpp := hput_pos T
      have hpl := hput_le T (by omega)
      have Hpb : Hid (∀ x ∈ hput T, x < 256) := hput_bytes T
      have hrp := hop.reads
      obtain ⟨ap, cp, hsp, hcp, -⟩ := id hrp
      rw [length_row] at hsp
      have hputT : ∀ x : World, Reads .u8 x sb T → _ := fun x hx => M.put sb T x hx HTb.out (by omega)
      obtain ⟨P, hP⟩ : ∃ P, P = hput T := ⟨_, rfl⟩
      simp only [← hP] at hrp hpp hpl Hpb hputT hsp
      obtain ⟨np, hnp⟩ : ∃ n, n = P.length := ⟨_, rfl⟩
      rw [← hnp] at hpp hpl hsp
      subst hsp
      have Hrp3 : Hid (Reads .u8 w3 (.slice ap np cp) P) := hrp
      have Hnp : Hid _ := hnp
      have HputT : Hid _ := hputT
      clear hf3 hop hrp hnp hputT hcp hP
      go_wp2_with fail
      refine wp_region_tree (fun _ => False) (.take 0 (.take 3 (.take 4 (.one 1 (.take 2 (.take 5 (.take 6 (.take 7 (.take 10 (.one 8 (.take 9 (.one 11 (.take 12 (.take 13 (.take 14 (.take 15 (.take 16 (.take 18 (.one 17 (.one 19 (.one 20 (.take 21 (.take 22 .nil))))))))))))))))))))))) (by kernel_rfl) (by kernel_rfl) (by decide) (by kernel_rfl) ?_
      have hcp3 : ∀ z, Fr w3.drew z (fun _ => False) → (convert 22 9 (.slice ap np cp)).run Try.prog z = .ok (.string (strOf P)) z := fun z hz => conv_reads ((Hrp3.out.keep (Fr.refl w3 _).drew).keep hz)
      repeat (refine wpT_take (v := ?_) rfl rfl (fun x hx => ?_) ?_; rotate_left; (focus (go_simp; with_reducible rfl)); simp only [Act.put, List.setIfInBounds_toArray, List.set_cons_zero, List.set_cons_succ])
      refine wpT_one rfl rfl (fun K hK => ?_)
      go_simp
      refine (HputT.out w3.drew (Hrb3.out.keep (Fr.refl w3 _).drew)).mono ?_
      rintro e w4 ⟨s4, rfl, hr4, hf4⟩
      refine hK _ _ hf4 ?_
      clear hK K hcp3
      have Hf34 : Hid (Fr w3 w4 (fun _ => False)) := (Fr.refl w3 (fun _ => False)).drew.none hf4
      have hcv4 : ∀ z, Fr w4 z (fun _ => False) → (convert 22 9 s4).run Try.prog z = .ok (.string (strOf P)) z := fun z hz => conv_reads (hr4.keep hz)
      generalize strOf P = SP at hcv4 ⊢
      repeat (refine wpT_take (v := ?_) rfl rfl (fun x hx => ?_) ?_; rotate_left; (focus (go_simp; with_reducible rfl)); simp only [Act.put, List.setIfInBounds_toArray, List.set_cons_zero, List.set_cons_succ])
      clear hcv4 hr4 hf4
      refine wpT_one rfl rfl (fun K hK => ?_)
      go_simp
      refine (M.put _ rs w4 (Hrr3.out.keep Hf34.out) Hrx.out (by rw [Hrl.out]; omega)).mono ?_
      rintro e w5 ⟨s5, rfl, hr5, hf5⟩
      refine hK _ _ hf5 ?_
      clear hK K
      have Hf35 : Hid (Fr w3 w5 (fun _ => False)) := Hf34.out.none hf5
      have hcv5 : ∀ z, Fr w5 z (fun _ => False) → (convert 22 9 s5).run Try.prog z = .ok (.string (strOf (hput rs))) z := fun z hz => conv_reads (hr5.keep hz)
      repeat (refine wpT_take (v := ?_) rfl rfl (fun x hx => ?_) ?_; rotate_left; (focus (go_simp; with_reducible rfl)); simp only [Act.put, List.setIfInBounds_toArray, List.set_cons_zero, List.set_cons_succ])
      clear hcv5 hr5 hf5
      refine wpT_one rfl rfl (fun K hK => ?_)
      go_simp
      refine (refHPut_any _ rs w5 (Hrr3.out.keep Hf35.out) Hrx.out (by rw [Hrl.out]; omega)).mono ?_
      rintro e w6 ⟨s6, rfl, ho6, hf6, -⟩
      refine hK _ _ hf6 ?_
      clear hK K
      have Hf36 : Hid (Fr w3 w6 (fun _ => False)) := Hf35.out.none hf6
      have hcv6 : ∀ z, Fr w6 z (fun _ => False) → (convert 22 9 s6).run Try.prog z = .ok (.string (strOf (hput rs))) z := fun z hz => conv_reads (ho6.reads.keep hz)
      generalize strOf (hput rs) = SR at hcv6 ⊢
      repeat (refine wpT_take (v := ?_) rfl rfl (fun x hx => ?_) ?_; rotate_left; (focus (go_simp; with_reducible rfl)); simp only [Act.put, List.setIfInBounds_toArray, List.set_cons_zero, List.set_cons_succ])
      clear hcv6 ho6 hf6
      refine wpT_one rfl rfl (fun K hK => ?_)
      go_simp
      refine (M.cnt _ T w6 (Hrb3.out.keep Hf36.out) HTb.out (by omega)).mono ?_
      rintro e w7 ⟨s7, rfl, hr7, hf7⟩
      refine hK _ _ hf7 ?_
      clear hK K
      have Hf37 : Hid (Fr w3 w7 (fun _ => False)) := Hf36.out.none hf7
      try simp only [Act.put, List.setIfInBounds_toArray, List.set_cons_zero, List.set_cons_succ]
      refine wpT_one rfl rfl (fun K hK => ?_)
      go_simp
      refine (refCounts_any _ T w7 (Hrb3.out.keep Hf37.out) HTb.out (by omega)).mono ?_
      rintro e w8 ⟨s8, rfl, hr8, hf8, -⟩
      refine hK _ _ hf8 ?_
      clear hK K
      have Hf38 : Hid (Fr w3 w8 (fun _ => False)) := Hf37.out.none hf8
      have hr78 : Reads .i64 w8 s7 (cntB T) := hr7.keep hf8
      try simp only [Act.put, List.setIfInBounds_toArray, List.set_cons_zero, List.set_cons_succ]
      refine wpT_one rfl rfl (fun K hK => ?_)
      go_simp
      refine (ints_any _ _ _ _ w8 hr78.z hr8.z (by rw [List.length_map, cntB_len]; decide)).mono ?_
      rw [decide_eq_true rfl]
      rintro e w9 ⟨rfl, hf9⟩
      refine hK _ _ hf9 ?_
      clear hK K hr7 hf7 hr8 hf8 hr78
      have Hf39 : Hid (Fr w3 w9 (fun _ => False)) := Hf38.out.none hf9
      repeat (refine wpT_take (v := ?_) rfl rfl (fun x hx => ?_) ?_; rotate_left; (focus (go_simp; with_reducible rfl)); simp only [Act.put, List.setIfInBounds_toArray, List.set_cons_zero, List.set_cons_succ])
      unfold wpT
      clear hf9 Hf38 Hf37 Hf36 Hf35 Hf34 HputT
      have Hf9 : Hid (Fr w w9 (fun _ => False)) := Hf3.out.none Hf39.out
      have Hrp9 : Hid (Reads .u8 w9 (.slice ap np cp) P) := Hrp3.out.keep Hf39.out
      have Hrr9 : Hid (Reads .u8 w9 (.slice a0 len0 cap0) rs) := Hrr3.out.keep Hf39.out
      obtain ⟨v10, w10, hrun10, ho10, hf10, hm10, -⟩ := app_bytes w9 (.slice none 0 0) (.slice ap np cp) [] P (Own.nil w9) Hrp9.out (by rw [← Hnp.out]; simp; omega)
      rw [List.nil_append] at ho10
      have hf10' : Fr w9 w10 (fun _ => False) := hf10.mono (fun k _ h => by simp [Value.ownBlock] at h)
      have hn10 : ∀ k, v10.ownBlock = some k → w9.heap.size ≤ k := fun k hk => by
        rcases hm10 k hk with h | h
        · simp [Value.ownBlock] at h
        · exact h
      have hoc := ho10
      unfold Own at hoc
      rw [← Hnp.out] at hoc
      obtain ⟨gd, cd, hvd, -⟩ := own_form hoc hpp
      subst hvd
      have hcd : np ≤ cd := by
        obtain ⟨a', c', e', hle, -⟩ := ho10.reads
        simp only [Value.slice.injEq] at e'
        rw [length_row, ← Hnp.out] at hle
        omega
      have hgd : w9.heap.size ≤ gd := hn10 gd rfl
      have Hgd : Hid (w9.heap.size ≤ gd) := hgd
      have Hoc : Hid (w10.ownsRow 0 5 1 (.slice (some ⟨gd, 0, none⟩) np cd) np (row .u8 P)) := hoc
      have HoD : Hid (Own w10 (.slice (some ⟨gd, 0, none⟩) np cd) P) := ho10
      have Hf10 : Hid (Fr w9 w10 (fun _ => False)) := hf10'
      have hn0 : ((np : Int) == 0) = false := by rw [beq_eq_false_iff_ne]; omega
      obtain ⟨i, hi⟩ : ∃ m, m = at_ % np := ⟨_, rfl⟩
      have hin : i < np := by rw [hi]; exact Nat.mod_lt _ hpp
      have r1 : (at_ : Int).tmod (np : Int) = (i : Int) := by rw [Int.tmod_eq_emod_of_nonneg (by omega), hi]; simp
      have r1b : (at_ : Int) % (np : Int) = (i : Int) := by rw [hi]; simp
      have wa : IntKind.i64.wrap (at_ : Int) = (at_ : Int) := IntWalk.i64_in _ (by omega)
      have hini : (i : Int) < (np : Int) := by omega
      obtain ⟨h4, hh4⟩ : ∃ m, m = how % 4 := ⟨_, rfl⟩
      have r2 : (how : Int).tmod 4 = (h4 : Int) := by rw [Int.tmod_eq_emod_of_nonneg (by omega)]; omega
      have r2b : (how : Int) % 4 = (h4 : Int) := by omega
      have hh4b : h4 < 4 := by omega
      have hfz := World.ownsRow.frozenAt hoc i
      obtain ⟨x, hx⟩ : ∃ x, x = P.getD i 0 := ⟨_, rfl⟩
      have hce : w10.cell? ⟨gd, i, none⟩ = some (.int .u8 (x : Int)) := by
        rw [World.ownsRow.cellAt hoc i (by omega), row_get .u8 P i (by rw [← Hnp.out]; exact hin), ← hx]
      have hx256 : x < 256 := by rw [hx]; exact getD_lt (by omega) Hpb.out i
      clear hi hh4 hx ho10 hf10 hf10' hm10 hn10 hoc hgd
      have Hset : Hid (∀ y : Nat, y < 256 → ∀ w11, w11 = w10.setCell ⟨gd, i, none⟩ (.int .u8 (y : Int)) → Good w11 (.slice (some ⟨gd, 0, none⟩) np cd) ∧ Fr w9 w11 (fun _ => False)) := fun y hy w11 e11 => by
        subst e11
        have h1 := (World.ownsRow.stored Hoc.out i (.int .u8 (y : Int))).1
        rw [← row_set] at h1
        refine ⟨good_of (bs := P.set i y) (holds_own h1) (set_lt Hpb.out i y hy) (by rw [List.length_set, ← Hnp.out]; omega), Hf10.out.setCell ⟨gd, i, none⟩ (fun h => ?_) _⟩
        have := Hgd.out
        simp at h
        omega
      have hcase : h4 = 0 ∨ h4 = 1 ∨ h4 = 2 ∨ h4 = 3 := by omega
      have HRR : Hid (∀ x : World, Fr w9 x (fun _ => False) → Good x (.slice a0 len0 cap0)) := fun x hx => good_of (Hrr9.out.keep hx) Hrx.out (by rw [Hrl.out]; omega)
      have HRP : Hid (∀ x : World, Fr w9 x (fun _ => False) → Good x (.slice ap np cp)) := fun x hx => good_of (Hrp9.out.keep hx) Hpb.out (by rw [← Hnp.out]; omega)
      rcases hcase with h40 | h40 | h40 | h40
      · have s0 : ((h4 : Int) == 0) = true := by simp [h40]
        obtain ⟨y, hy⟩ : ∃ y, y = x ^^^ c := ⟨_, rfl⟩
        have hyb : y < 256 := by rw [hy]; exact xor_lt x c hx256 hcb
        have hxor : bits .xor .u8 (x : Int) (c : Int) = (y : Int) := by rw [hy]; exact u8_xor_nat x c hx256 hcb
        obtain ⟨w11, e11⟩ : ∃ w11, w11 = w10.setCell ⟨gd, i, none⟩ (.int .u8 (y : Int)) := ⟨_, rfl⟩
        have HG := Hset.out y hyb w11 e11
        have HGd : Hid (Good w11 (.slice (some ⟨gd, 0, none⟩) np cd)) := HG.1
        have Hf11 : Hid (Fr w9 w11 (fun _ => False)) := HG.2
        have He11 : Hid _ := e11
        clear HG e11 h40 hy
        go_wp2_with (at_builtin; refine wpList_append_run rfl (.const (.slice none 0 0)) (.tmp 61) 22 rfl rfl rfl hrun10 ?_)
        clear hrun10 hce hfz
        try rw [← He11.out]
        obtain ⟨q, hq⟩ : ∃ q, q = w10.heap.size := ⟨_, rfl⟩
        have hqW : q = w11.heap.size := by first | exact hq | (rw [hq, He11.out]; simp)
        rw [← hq]
        have hf12 : Fr w11 (w11.alloc (.cells #[.slice a0 len0 cap0, .slice ap np cp, (.slice (some ⟨gd, 0, none⟩) np cd)] 22)) (fun _ => False) := (Fr.refl w11 _).alloc _
        have HC3 : Hid (∀ z, Fr (w11.alloc (.cells #[.slice a0 len0 cap0, .slice ap np cp, (.slice (some ⟨gd, 0, none⟩) np cd)] 22)) z (fun _ => False) → ∀ j, j < 3 → ∃ v, z.cell? ⟨q, j, none⟩ = some v ∧ Good z v) := fun z hz j hj => by
          have hb : z.heap[q]? = some (.cells #[.slice a0 len0 cap0, .slice ap np cp, (.slice (some ⟨gd, 0, none⟩) np cd)] 22 (0, 0)) := hz.kept (by rw [hqW]; exact heap_alloc_new _ _) (fun h => h)
          have hc3 : z.cell? ⟨q, j, none⟩ = (#[Value.slice a0 len0 cap0, .slice ap np cp, (.slice (some ⟨gd, 0, none⟩) np cd)])[j]? := by simp [World.cell?, hb]
          have hgood : Fr w9 z (fun _ => False) := (Hf11.out.none hf12).none hz
          have hj3 : j = 0 ∨ j = 1 ∨ j = 2 := by omega
          rcases hj3 with rfl | rfl | rfl
          · exact ⟨_, hc3, HRR.out z hgood⟩
          · exact ⟨_, hc3, HRP.out z hgood⟩
          · exact ⟨_, hc3, (HGd.out.keep hf12).keep hz⟩
        have Hf12 : Hid (Fr w (w11.alloc (.cells #[.slice a0 len0 cap0, .slice ap np cp, (.slice (some ⟨gd, 0, none⟩) np cd)] 22)) (fun _ => False)) := (Hf9.out.none Hf11.out).none hf12
        generalize w11.alloc (.cells #[.slice a0 len0 cap0, .slice ap np cp, (.slice (some ⟨gd, 0, none⟩) np cd)] 22) = w12 at HC3 Hf12 ⊢
        clear hf12 hq hqW HGd Hf11
        go_loopg [101] 3 (fun g I wr => ∃ j : Nat, g = 3 - j ∧ j ≤ 3 ∧ I = .int .i64 (j : Int) ∧ Fr w12 wr (fun _ => False))
        case atStart => exact ⟨0, rfl, by omega, rfl, Fr.refl _ _⟩
        case round =>
          obtain ⟨j, hg, hj, rfl, hf⟩ := hrel
          have Hg : Hid _ := hg
          have Hf : Hid (Fr w12 wr (fun _ => False)) := hf
          clear hg hf
          by_cases hlt : j < 3
          · have hj1 : (j : Int) < 3 := by omega
            obtain ⟨v, hcv, a, l, c', bs, rfl, hr, hb, hl⟩ := HC3.out wr Hf.out j hlt
            have Hr : Hid (Reads .u8 wr (.slice a l c') bs) := hr
            have Hb : Hid (∀ x ∈ bs, x < 256) := hb
            have Hl : Hid (bs.length ≤ 50000) := hl
            clear hr hb hl
            go_wp2_with fail
            refine (M.read _ bs wr Hr.out Hb.out (by have := Hl.out; omega)).mono ?_
            rintro e w13 ⟨hf13, ⟨hn, rfl⟩ | ⟨x, hx, s13, rfl, hr13⟩⟩
            · go_wp2_with fail
              refine (refHRead_any _ bs w13 (Hr.out.keep hf13) Hb.out (by have := Hl.out; omega)).mono ?_
              rintro e w14 ⟨hf14, ⟨-, rfl⟩ | ⟨x', hx', -⟩⟩
              · have hcn := conv_reads (Own.nil w14).reads
                have Hf14 : Hid (Fr w12 w14 (fun _ => False)) := (Hf.out.none hf13).none hf14
                generalize strOf [] = S at hcn
                clear hf13 hf14 hn hcv
                go_wp2_with fail
                go_roundg (3 - (j + 1))
                case rel => exact ⟨j + 1, rfl, by omega, by go_num, Hf14.out⟩
                case measure => rw [Hg.out]; omega
              · rw [hn] at hx'; cases hx'
            · go_wp2_with fail
              refine (refHRead_any _ bs w13 (Hr.out.keep hf13) Hb.out (by have := Hl.out; omega)).mono ?_
              rintro e w14 ⟨hf14, ⟨hn, -⟩ | ⟨x', hx', s14, rfl, ho14⟩⟩
              · rw [hx] at hn; cases hn
              · rw [hx] at hx'
                simp only [Option.some.injEq] at hx'
                subst hx'
                have hc1 := conv_reads (hr13.keep hf14)
                have hc2 := conv_reads ho14.reads
                have Hf14 : Hid (Fr w12 w14 (fun _ => False)) := (Hf.out.none hf13).none hf14
                generalize strOf x = S at hc1 hc2
                clear hf13 hf14 hx hcv hr13 ho14
                go_wp2_with fail
                go_roundg (3 - (j + 1))
                case rel => exact ⟨j + 1, rfl, by omega, by go_num, Hf14.out⟩
                case measure => rw [Hg.out]; omega
          · have hj1 : ¬ (j : Int) < 3 := by omega
            have Hfo : Hid (Fr w wr (fun _ => False)) := Hf12.out.none Hf.out
            go_wp2_with fail
            go_ret
            exact ⟨rfl, below_of Hfo.out⟩
      · have s0 : ((h4 : Int) == 0) = false := by rw [beq_eq_false_iff_ne]; omega
        have s1 : ((h4 : Int) == 1) = true := by simp [h40]
        have hi2 : (i : Int) ≤ (cd : Int) := by omega
        have hi3 : i ≤ cd := by omega
        have HGd : Hid (Good w10 (.slice (some ⟨gd, 0, none⟩) i cd)) := by
          have := Holds.take HoD.out.reads i (by omega) cd (by omega)
          rw [← row_take] at this
          exact good_of this (mem_take_lt Hpb.out) (by rw [List.length_take, ← Hnp.out]; omega)
        have Hf11 : Hid (Fr w9 w10 (fun _ => False)) := Hf10.out
        clear h40
        go_wp2_with (at_builtin; refine wpList_append_run rfl (.const (.slice none 0 0)) (.tmp 61) 22 rfl rfl rfl hrun10 ?_)
        clear hrun10 hce hfz
        try rw [← He11.out]
        obtain ⟨q, hq⟩ : ∃ q, q = w10.heap.size := ⟨_, rfl⟩
        have hqW : q = w10.heap.size := by first | exact hq | (rw [hq, He11.out]; simp)
        rw [← hq]
        have hf12 : Fr w10 (w10.alloc (.cells #[.slice a0 len0 cap0, .slice ap np cp, (.slice (some ⟨gd, 0, none⟩) i cd)] 22)) (fun _ => False) := (Fr.refl w10 _).alloc _
        have HC3 : Hid (∀ z, Fr (w10.alloc (.cells #[.slice a0 len0 cap0, .slice ap np cp, (.slice (some ⟨gd, 0, none⟩) i cd)] 22)) z (fun _ => False) → ∀ j, j < 3 → ∃ v, z.cell? ⟨q, j, none⟩ = some v ∧ Good z v) := fun z hz j hj => by
          have hb : z.heap[q]? = some (.cells #[.slice a0 len0 cap0, .slice ap np cp, (.slice (some ⟨gd, 0, none⟩) i cd)] 22 (0, 0)) := hz.kept (by rw [hqW]; exact heap_alloc_new _ _) (fun h => h)
          have hc3 : z.cell? ⟨q, j, none⟩ = (#[Value.slice a0 len0 cap0, .slice ap np cp, (.slice (some ⟨gd, 0, none⟩) i cd)])[j]? := by simp [World.cell?, hb]
          have hgood : Fr w9 z (fun _ => False) := (Hf11.out.none hf12).none hz
          have hj3 : j = 0 ∨ j = 1 ∨ j = 2 := by omega
          rcases hj3 with rfl | rfl | rfl
          · exact ⟨_, hc3, HRR.out z hgood⟩
          · exact ⟨_, hc3, HRP.out z hgood⟩
          · exact ⟨_, hc3, (HGd.out.keep hf12).keep hz⟩
        have Hf12 : Hid (Fr w (w10.alloc (.cells #[.slice a0 len0 cap0, .slice ap np cp, (.slice (some ⟨gd, 0, none⟩) i cd)] 22)) (fun _ => False)) := (Hf9.out.none Hf11.out).none hf12
        generalize w10.alloc (.cells #[.slice a0 len0 cap0, .slice ap np cp, (.slice (some ⟨gd, 0, none⟩) i cd)] 22) = w12 at HC3 Hf12 ⊢
        clear hf12 hq hqW HGd Hf11
        go_loopg [101] 3 (fun g I wr => ∃ j : Nat, g = 3 - j ∧ j ≤ 3 ∧ I = .int .i64 (j : Int) ∧ Fr w12 wr (fun _ => False))
        case atStart => exact ⟨0, rfl, by omega, rfl, Fr.refl _ _⟩
        case round =>
          obtain ⟨j, hg, hj, rfl, hf⟩ := hrel
          have Hg : Hid _ := hg
          have Hf : Hid (Fr w12 wr (fun _ => False)) := hf
          clear hg hf
          by_cases hlt : j < 3
          · have hj1 : (j : Int) < 3 := by omega
            obtain ⟨v, hcv, a, l, c', bs, rfl, hr, hb, hl⟩ := HC3.out wr Hf.out j hlt
            have Hr : Hid (Reads .u8 wr (.slice a l c') bs) := hr
            have Hb : Hid (∀ x ∈ bs, x < 256) := hb
            have Hl : Hid (bs.length ≤ 50000) := hl
            clear hr hb hl
            go_wp2_with fail
            refine (M.read _ bs wr Hr.out Hb.out (by have := Hl.out; omega)).mono ?_
            rintro e w13 ⟨hf13, ⟨hn, rfl⟩ | ⟨x, hx, s13, rfl, hr13⟩⟩
            · go_wp2_with fail
              refine (refHRead_any _ bs w13 (Hr.out.keep hf13) Hb.out (by have := Hl.out; omega)).mono ?_
              rintro e w14 ⟨hf14, ⟨-, rfl⟩ | ⟨x', hx', -⟩⟩
              · have hcn := conv_reads (Own.nil w14).reads
                have Hf14 : Hid (Fr w12 w14 (fun _ => False)) := (Hf.out.none hf13).none hf14
                generalize strOf [] = S at hcn
                clear hf13 hf14 hn hcv
                go_wp2_with fail
                go_roundg (3 - (j + 1))
                case rel => exact ⟨j + 1, rfl, by omega, by go_num, Hf14.out⟩
                case measure => rw [Hg.out]; omega
              · rw [hn] at hx'; cases hx'
            · go_wp2_with fail
              refine (refHRead_any _ bs w13 (Hr.out.keep hf13) Hb.out (by have := Hl.out; omega)).mono ?_
              rintro e w14 ⟨hf14, ⟨hn, -⟩ | ⟨x', hx', s14, rfl, ho14⟩⟩
              · rw [hx] at hn; cases hn
              · rw [hx] at hx'
                simp only [Option.some.injEq] at hx'
                subst hx'
                have hc1 := conv_reads (hr13.keep hf14)
                have hc2 := conv_reads ho14.reads
                have Hf14 : Hid (Fr w12 w14 (fun _ => False)) := (Hf.out.none hf13).none hf14
                generalize strOf x = S at hc1 hc2
                clear hf13 hf14 hx hcv hr13 ho14
                go_wp2_with fail
                go_roundg (3 - (j + 1))
                case rel => exact ⟨j + 1, rfl, by omega, by go_num, Hf14.out⟩
                case measure => rw [Hg.out]; omega
          · have hj1 : ¬ (j : Int) < 3 := by omega
            have Hfo : Hid (Fr w wr (fun _ => False)) := Hf12.out.none Hf.out
            go_wp2_with fail
            go_ret
            exact ⟨rfl, below_of Hfo.out⟩
      · have s0 : ((h4 : Int) == 0) = false := by rw [beq_eq_false_iff_ne]; omega
        have s1 : ((h4 : Int) == 1) = false := by rw [beq_eq_false_iff_ne]; omega
        have s2 : ((h4 : Int) == 2) = true := by simp [h40]
        obtain ⟨v11, w11, hrun11, ho11, hf11, hm11⟩ := app_byte w10 (.slice (some ⟨gd, 0, none⟩) np cd) P c (c : Int) rfl HoD.out (by rw [← Hnp.out]; omega)
        have HGd0 : Good w11 v11 := good_of ho11.reads (fun x hx => by rcases List.mem_append.1 hx with h | h; exact Hpb.out x h; simp at h; omega) (by rw [List.length_append, ← Hnp.out]; simp; omega)
        have Hf11 : Hid (Fr w9 w11 (fun _ => False)) := Hf10.out.newer hf11 (fun k hk => by simp [Value.ownBlock] at hk; rw [← hk]; exact Hgd.out)
        obtain ⟨a11, l11, c11, hv11⟩ := ho11.reads.form
        subst hv11
        have HGd : Hid (Good w11 (.slice a11 l11 c11)) := HGd0
        clear h40 ho11 hf11 hm11 HGd0
        go_wp2_with (at_builtin; first | refine wpList_append_run rfl (.const (.slice none 0 0)) (.tmp 61) 22 rfl rfl rfl hrun10 ?_ | refine wpList_append_run rfl (.tmp 92) (.tmp 94) 22 rfl rfl rfl hrun11 ?_)
        clear hrun11
        clear hrun10 hce hfz
        try rw [← He11.out]
        obtain ⟨q, hq⟩ : ∃ q, q = w11.heap.size := ⟨_, rfl⟩
        have hqW : q = w11.heap.size := by first | exact hq | (rw [hq, He11.out]; simp)
        rw [← hq]
        have hf12 : Fr w11 (w11.alloc (.cells #[.slice a0 len0 cap0, .slice ap np cp, (.slice a11 l11 c11)] 22)) (fun _ => False) := (Fr.refl w11 _).alloc _
        have HC3 : Hid (∀ z, Fr (w11.alloc (.cells #[.slice a0 len0 cap0, .slice ap np cp, (.slice a11 l11 c11)] 22)) z (fun _ => False) → ∀ j, j < 3 → ∃ v, z.cell? ⟨q, j, none⟩ = some v ∧ Good z v) := fun z hz j hj => by
          have hb : z.heap[q]? = some (.cells #[.slice a0 len0 cap0, .slice ap np cp, (.slice a11 l11 c11)] 22 (0, 0)) := hz.kept (by rw [hqW]; exact heap_alloc_new _ _) (fun h => h)
          have hc3 : z.cell? ⟨q, j, none⟩ = (#[Value.slice a0 len0 cap0, .slice ap np cp, (.slice a11 l11 c11)])[j]? := by simp [World.cell?, hb]
          have hgood : Fr w9 z (fun _ => False) := (Hf11.out.none hf12).none hz
          have hj3 : j = 0 ∨ j = 1 ∨ j = 2 := by omega
          rcases hj3 with rfl | rfl | rfl
          · exact ⟨_, hc3, HRR.out z hgood⟩
          · exact ⟨_, hc3, HRP.out z hgood⟩
          · exact ⟨_, hc3, (HGd.out.keep hf12).keep hz⟩
        have Hf12 : Hid (Fr w (w11.alloc (.cells #[.slice a0 len0 cap0, .slice ap np cp, (.slice a11 l11 c11)] 22)) (fun _ => False)) := (Hf9.out.none Hf11.out).none hf12
        generalize w11.alloc (.cells #[.slice a0 len0 cap0, .slice ap np cp, (.slice a11 l11 c11)] 22) = w12 at HC3 Hf12 ⊢
        clear hf12 hq hqW HGd Hf11
        go_loopg [101] 3 (fun g I wr => ∃ j : Nat, g = 3 - j ∧ j ≤ 3 ∧ I = .int .i64 (j : Int) ∧ Fr w12 wr (fun _ => False))
        case atStart => exact ⟨0, rfl, by omega, rfl, Fr.refl _ _⟩
        case round =>
          obtain ⟨j, hg, hj, rfl, hf⟩ := hrel
          have Hg : Hid _ := hg
          have Hf : Hid (Fr w12 wr (fun _ => False)) := hf
          clear hg hf
          by_cases hlt : j < 3
          · have hj1 : (j : Int) < 3 := by omega
            obtain ⟨v, hcv, a, l, c', bs, rfl, hr, hb, hl⟩ := HC3.out wr Hf.out j hlt
            have Hr : Hid (Reads .u8 wr (.slice a l c') bs) := hr
            have Hb : Hid (∀ x ∈ bs, x < 256) := hb
            have Hl : Hid (bs.length ≤ 50000) := hl
            clear hr hb hl
            go_wp2_with fail
            refine (M.read _ bs wr Hr.out Hb.out (by have := Hl.out; omega)).mono ?_
            rintro e w13 ⟨hf13, ⟨hn, rfl⟩ | ⟨x, hx, s13, rfl, hr13⟩⟩
            · go_wp2_with fail
              refine (refHRead_any _ bs w13 (Hr.out.keep hf13) Hb.out (by have := Hl.out; omega)).mono ?_
              rintro e w14 ⟨hf14, ⟨-, rfl⟩ | ⟨x', hx', -⟩⟩
              · have hcn := conv_reads (Own.nil w14).reads
                have Hf14 : Hid (Fr w12 w14 (fun _ => False)) := (Hf.out.none hf13).none hf14
                generalize strOf [] = S at hcn
                clear hf13 hf14 hn hcv
                go_wp2_with fail
                go_roundg (3 - (j + 1))
                case rel => exact ⟨j + 1, rfl, by omega, by go_num, Hf14.out⟩
                case measure => rw [Hg.out]; omega
              · rw [hn] at hx'; cases hx'
            · go_wp2_with fail
              refine (refHRead_any _ bs w13 (Hr.out.keep hf13) Hb.out (by have := Hl.out; omega)).mono ?_
              rintro e w14 ⟨hf14, ⟨hn, -⟩ | ⟨x', hx', s14, rfl, ho14⟩⟩
              · rw [hx] at hn; cases hn
              · rw [hx] at hx'
                simp only [Option.some.injEq] at hx'
                subst hx'
                have hc1 := conv_reads (hr13.keep hf14)
                have hc2 := conv_reads ho14.reads
                have Hf14 : Hid (Fr w12 w14 (fun _ => False)) := (Hf.out.none hf13).none hf14
                generalize strOf x = S at hc1 hc2
                clear hf13 hf14 hx hcv hr13 ho14
                go_wp2_with fail
                go_roundg (3 - (j + 1))
                case rel => exact ⟨j + 1, rfl, by omega, by go_num, Hf14.out⟩
                case measure => rw [Hg.out]; omega
          · have hj1 : ¬ (j : Int) < 3 := by omega
            have Hfo : Hid (Fr w wr (fun _ => False)) := Hf12.out.none Hf.out
            go_wp2_with fail
            go_ret
            exact ⟨rfl, below_of Hfo.out⟩
      · have s0 : ((h4 : Int) == 0) = false := by rw [beq_eq_false_iff_ne]; omega
        have s1 : ((h4 : Int) == 1) = false := by rw [beq_eq_false_iff_ne]; omega
        have s2 : ((h4 : Int) == 2) = false := by rw [beq_eq_false_iff_ne]; omega
        obtain ⟨y, hy⟩ : ∃ y, y = (x + 1) % 256 := ⟨_, rfl⟩
        have hyb : y < 256 := by omega
        have hinc : IntKind.u8.wrap ((x : Int) + 1) = (y : Int) := by rw [IntKind.wrap_u8]; omega
        obtain ⟨w11, e11⟩ : ∃ w11, w11 = w10.setCell ⟨gd, i, none⟩ (.int .u8 (y : Int)) := ⟨_, rfl⟩
        have HG := Hset.out y hyb w11 e11
        have HGd : Hid (Good w11 (.slice (some ⟨gd, 0, none⟩) np cd)) := HG.1
        have Hf11 : Hid (Fr w9 w11 (fun _ => False)) := HG.2
        have He11 : Hid _ := e11
        clear HG e11 h40 hy
        go_wp2_with (at_builtin; refine wpList_append_run rfl (.const (.slice none 0 0)) (.tmp 61) 22 rfl rfl rfl hrun10 ?_)
        clear hrun10 hce hfz
        try rw [← He11.out]
        obtain ⟨q, hq⟩ : ∃ q, q = w10.heap.size := ⟨_, rfl⟩
        have hqW : q = w11.heap.size := by first | exact hq | (rw [hq, He11.out]; simp)
        rw [← hq]
        have hf12 : Fr w11 (w11.alloc (.cells #[.slice a0 len0 cap0, .slice ap np cp, (.slice (some ⟨gd, 0, none⟩) np cd)] 22)) (fun _ => False) := (Fr.refl w11 _).alloc _
        have HC3 : Hid (∀ z, Fr (w11.alloc (.cells #[.slice a0 len0 cap0, .slice ap np cp, (.slice (some ⟨gd, 0, none⟩) np cd)] 22)) z (fun _ => False) → ∀ j, j < 3 → ∃ v, z.cell? ⟨q, j, none⟩ = some v ∧ Good z v) := fun z hz j hj => by
          have hb : z.heap[q]? = some (.cells #[.slice a0 len0 cap0, .slice ap np cp, (.slice (some ⟨gd, 0, none⟩) np cd)] 22 (0, 0)) := hz.kept (by rw [hqW]; exact heap_alloc_new _ _) (fun h => h)
          have hc3 : z.cell? ⟨q, j, none⟩ = (#[Value.slice a0 len0 cap0, .slice ap np cp, (.slice (some ⟨gd, 0, none⟩) np cd)])[j]? := by simp [World.cell?, hb]
          have hgood : Fr w9 z (fun _ => False) := (Hf11.out.none hf12).none hz
          have hj3 : j = 0 ∨ j = 1 ∨ j = 2 := by omega
          rcases hj3 with rfl | rfl | rfl
          · exact ⟨_, hc3, HRR.out z hgood⟩
          · exact ⟨_, hc3, HRP.out z hgood⟩
          · exact ⟨_, hc3, (HGd.out.keep hf12).keep hz⟩
        have Hf12 : Hid (Fr w (w11.alloc (.cells #[.slice a0 len0 cap0, .slice ap np cp, (.slice (some ⟨gd, 0, none⟩) np cd)] 22)) (fun _ => False)) := (Hf9.out.none Hf11.out).none hf12
        generalize w11.alloc (.cells #[.slice a0 len0 cap0, .slice ap np cp, (.slice (some ⟨gd, 0, none⟩) np cd)] 22) = w12 at HC3 Hf12 ⊢
        clear hf12 hq hqW HGd Hf11
        go_loopg [101] 3 (fun g I wr => ∃ j : Nat, g = 3 - j ∧ j ≤ 3 ∧ I = .int .i64 (j : Int) ∧ Fr w12 wr (fun _ => False))
        case atStart => exact ⟨0, rfl, by omega, rfl, Fr.refl _ _⟩
        case round =>
          obtain ⟨j, hg, hj, rfl, hf⟩ := hrel
          have Hg : Hid _ := hg
          have Hf : Hid (Fr w12 wr (fun _ => False)) := hf
          clear hg hf
          by_cases hlt : j < 3
          · have hj1 : (j : Int) < 3 := by omega
            obtain ⟨v, hcv, a, l, c', bs, rfl, hr, hb, hl⟩ := HC3.out wr Hf.out j hlt
            have Hr : Hid (Reads .u8 wr (.slice a l c') bs) := hr
            have Hb : Hid (∀ x ∈ bs, x < 256) := hb
            have Hl : Hid (bs.length ≤ 50000) := hl
            clear hr hb hl
            go_wp2_with fail
            refine (M.read _ bs wr Hr.out Hb.out (by have := Hl.out; omega)).mono ?_
            rintro e w13 ⟨hf13, ⟨hn, rfl⟩ | ⟨x, hx, s13, rfl, hr13⟩⟩
            · go_wp2_with fail
              refine (refHRead_any _ bs w13 (Hr.out.keep hf13) Hb.out (by have := Hl.out; omega)).mono ?_
              rintro e w14 ⟨hf14, ⟨-, rfl⟩ | ⟨x', hx', -⟩⟩
              · have hcn := conv_reads (Own.nil w14).reads
                have Hf14 : Hid (Fr w12 w14 (fun _ => False)) := (Hf.out.none hf13).none hf14
                generalize strOf [] = S at hcn
                clear hf13 hf14 hn hcv
                go_wp2_with fail
                go_roundg (3 - (j + 1))
                case rel => exact ⟨j + 1, rfl, by omega, by go_num, Hf14.out⟩
                case measure => rw [Hg.out]; omega
              · rw [hn] at hx'; cases hx'
            · go_wp2_with fail
              refine (refHRead_any _ bs w13 (Hr.out.keep hf13) Hb.out (by have := Hl.out; omega)).mono ?_
              rintro e w14 ⟨hf14, ⟨hn, -⟩ | ⟨x', hx', s14, rfl, ho14⟩⟩
              · rw [hx] at hn; cases hn
              · rw [hx] at hx'
                simp only [Option.some.injEq] at hx'
                subst hx'
                have hc1 := conv_reads (hr13.keep hf14)
                have hc2 := conv_reads ho14.reads
                have Hf14 : Hid (Fr w12 w14 (fun _ => False)) := (Hf.out.none hf13).none hf14
                generalize strOf x = S at hc1 hc2
                clear hf13 hf14 hx hcv hr13 ho14
                go_wp2_with fail
                go_roundg (3 - (j + 1))
                case rel => exact ⟨j + 1, rfl, by omega, by go_num, Hf14.out⟩
                case measure => rw [Hg.out]; omega
          · have hj1 : ¬ (j : Int) < 3 := by omega
            have Hfo : Hid (Fr w wr (fun _ => False)) := Hf12.out.none Hf.out
            go_wp2_with fail
            go_ret
            exact ⟨rfl, below_of Hfo.out⟩

end Go.Proofs.Ytclfbdfgmeliaaa.huffTells

/-
  The contract of merge's lists: the lists of package-merge.
-/
import Derived.Test.YtclfbdfgmeliaaaMMerged
import Derived.Test.YtclfbdfgmeliaaaFRow
namespace Go.Proofs.Ytclfbdfgmeliaaa
open Go.RowKit

theorem Try.info74 : (Try.prog.info? 74).map (fun i => (i.zero, i.size, i.bytes)) = some (some (.slice none 0 0), 1, 24) := by kernel_rfl

/-- The first so many lists, in a slice of slices. -/
def ItsA (wt : Nat → Nat) (cs : List Nat) (w : World) (vs : List Value) : Prop := ∀ i u, vs[i]? = some u → OwnL wt w u (lv wt cs i)
def OffA (v : Value) (vs : List Value) : Prop := ∀ u ∈ vs, ∀ k, u.ownBlock = some k → v.ownBlock ≠ some k
def OwnA (wt : Nat → Nat) (cs : List Nat) (w : World) (v : Value) (vs : List Value) : Prop := w.ownsRow 0 74 1 v vs.length vs ∧ ItsA wt cs w vs ∧ OffA v vs

theorem ItsA.keep {wt : Nat → Nat} {cs : List Nat} {w w' : World} {vs : List Value} (h : ItsA wt cs w vs) (f : Fr w w' (fun _ => False)) : ItsA wt cs w' vs := fun i u hu => OwnX.keep (h i u hu) f
theorem OwnA.keep {wt : Nat → Nat} {cs : List Nat} {w w' : World} {v : Value} {vs : List Value} (h : OwnA wt cs w v vs) (f : Fr w w' (fun _ => False)) : OwnA wt cs w' v vs := ⟨f.owns h.1 (fun _ _ h => h), h.2.1.keep f, h.2.2⟩
theorem OwnA.one {wt : Nat → Nat} {cs : List Nat} {w : World} {v : Value} {vs : List Value} (h : OwnA wt cs w v vs) : ∀ u ∈ vs, u.oneCell' = true := fun u hu => by
  obtain ⟨i, hi⟩ := List.mem_iff_getElem?.1 hu
  obtain ⟨a, c, e, -⟩ := RdX.form (h.2.1 i u hi).rd
  rw [e]; rfl

theorem app_a (w : World) (v u : Value) (vs us : List Value) (h : w.ownsRow 0 74 1 v vs.length vs) (hu : Holds w u us) (h1 : ∀ x ∈ us, x.oneCell' = true) (hb : vs.length + us.length ≤ 100000000000) :
    ∃ v' w', (Builtin.append_ #[79, 79] 79 #[v, u]).run Try.prog w = .ok v' w' ∧ w'.ownsRow 0 74 1 v' (vs ++ us).length (vs ++ us) ∧ Fr w w' (fun k => v.ownBlock = some k) ∧ Moved w v v' := by
  obtain ⟨i0, hi, hz0, hz1, hz2⟩ := info_parts Try.info74
  obtain ⟨v', w', h1, h2, h3, h4, -, -⟩ := run_append_holds (P := Try.prog) w 79 79 74 i0 (.slice none 0 0) 24 Try.underlying79 hi hz0 hz1 hz2 rfl (by decide) v _ _ h u _ hu h1 hb
  refine ⟨v', w', h1, ?_, h3, h4⟩
  rw [List.length_append]
  exact h2
theorem lv_some (wt : Nat → Nat) (cs : List Nat) (k : Nat) : cs.length ≤ (lv wt cs k).length := by
  cases k with
  | zero => rw [lv, coin_length]; exact Nat.le_refl _
  | succ k => rw [lv, mg_length, coin_length]; omega

set_option maxRecDepth 4000 in
set_option maxHeartbeats 800000 in
theorem lists_any (wt : Nat → Nat) (vc : Value) (cs : List Nat) (n : Nat) (w : World) (hc : OwnL wt w vc (coin cs)) (hc1 : 1 ≤ cs.length) (hcl : cs.length ≤ 256) (hwt : ∀ s, wt s ≤ 1099511627776) (hn1 : 1 ≤ n) (hn : n ≤ 15) :
    Calls Try.prog 37 #[vc, .int .i64 (n : Int)] w fun e w' => ∃ sv vs, e = .returned sv ∧ OwnA wt cs w' sv vs ∧ vs.length = n ∧ Fr w w' (fun _ => False) := by
  obtain ⟨ac, cc, rfl, hcc⟩ := RdX.form hc.rd
  rw [List.length_map, coin_length] at hcc hc
  rw [List.length_map, coin_length]
  have Hc : Hid (OwnL wt w (.slice ac cs.length cc) (coin cs)) := hc
  obtain ⟨nc, hnc⟩ : ∃ n, n = cs.length := ⟨_, rfl⟩
  rw [← hnc] at Hc hcc hcl hc1 ⊢
  have Hnc : Hid _ := hnc
  have Hwt : Hid _ := hwt
  clear hc hnc hwt
  go_enter Try.func37, Try.ntmps37
  go_wp2_with fail
  go_loopg [5] (n - 1) (fun g S wr => ∃ (vs : List Value) (m : Nat), g = n - m ∧ 1 ≤ m ∧ m ≤ n ∧ m = vs.length ∧ OwnA wt cs wr S vs ∧ Fr w wr (fun _ => False) ∧ (∀ k, S.ownBlock = some k → w.heap.size ≤ k))
  case atStart =>
    have hlc : ∀ k, (Value.slice ac nc cc).ownBlock = some k → k < w.heap.size := OwnX.lt Hc.out
    refine ⟨[.slice ac nc cc], 1, by omega, by omega, hn1, rfl, ⟨World.ownsRow_lit (e := 74) (size := 1) (base := 0) w #[.slice ac nc cc] 1 (Nat.zero_le _) (by unfold maxLen; omega) rfl, ?_, ?_⟩, (Fr.refl w _).alloc _, fun k hk => by simp [Value.ownBlock] at hk; omega⟩
    · intro i u hu
      match i, hu with
      | 0, hu =>
        simp at hu
        subst hu
        exact OwnX.keep Hc.out ((Fr.refl w _).alloc _)
      | i + 1, hu => simp at hu
    · intro u hu k hk h2
      simp at hu
      subst hu
      have := hlc k hk
      simp [Value.ownBlock] at h2
      omega
  case round =>
    obtain ⟨vs, m, hg, hm1, hm, hmv, ho, hf, hnew⟩ := hrel
    have Hg : Hid _ := hg
    have Ho : Hid (OwnA wt cs wr u5 vs) := ho
    have Hnew : Hid _ := hnew
    have Hmv : Hid _ := hmv
    clear hg hnew
    rcases ho.1.2 with ⟨rfl, h0⟩ | ⟨g, cap, cur, rfl, hrest⟩
    · omega
    rw [← hmv] at Ho Hnew ⊢
    clear hrest
    by_cases hlt : m < n
    · obtain ⟨k, hk⟩ : ∃ k, m = k + 1 := ⟨m - 1, by omega⟩
      obtain ⟨u, hu⟩ : ∃ u, vs[k]? = some u := ⟨_, List.getElem?_eq_getElem (by omega)⟩
      have hcell : wr.cell? ⟨g, k, none⟩ = some u := by
        have := World.ownsRow.cellAt (by have := Ho.out.1; rw [← hmv] at this; exact this) k (by omega)
        rw [this, hu]
      have hru := (Ho.out.2.1 k u hu).rd
      have Hru : Hid (RdL wt wr u (lv wt cs k)) := hru
      obtain ⟨au, cu, hue, -⟩ := RdX.form hru
      subst hue
      rw [List.length_map] at hcell Hru
      obtain ⟨nl, hnl⟩ : ∃ nl, nl = (lv wt cs k).length := ⟨_, rfl⟩
      rw [← hnl] at hcell Hru
      have hk1 : IntKind.i64.wrap ((m : Int) - 1) = (k : Int) := by rw [IntWalk.i64_in _ (by omega)]; omega
      have hi1 : (k : Int) < (m : Int) := by omega
      have hi2 : k < m := by omega
      have Hk : Hid _ := hk
      have Hnl : Hid _ := hnl
      clear hu hru hk hmv hnl
      have hlong : nl ≤ 512 := by have := lv_long wt cs k; rw [← Hnl.out, ← Hnc.out] at this; omega
      have hpow : 2 ^ k ≤ 16384 := Nat.le_trans (Nat.pow_le_pow_right (by omega) (by have := Hk.out; omega : k ≤ 14)) (by decide)
      have HW : Hid (∀ y ∈ lv wt cs k, W wt y ≤ 4611686018427387903) := fun y hy => Nat.le_trans (lv_W wt cs Hwt.out k y hy) (Nat.le_trans (Nat.mul_le_mul_right _ hpow) (by decide))
      clear hpow
      go_wp2_with fail
      refine (packages_any wt _ _ _ Hru.out (by rw [← Hnl.out]; omega) HW.out (fun y hy => (lv_in wt cs k y hy).1)).mono ?_
      rintro e w1 ⟨sv1, rfl, ho1, hf1⟩
      obtain ⟨a1, c1, rfl, -⟩ := RdX.form ho1.rd
      have Ho1 : Hid (OwnL wt w1 (.slice a1 ((pk (lv wt cs k)).map (itm wt)).length c1) (pk (lv wt cs k))) := ho1
      clear ho1 hcell
      rw [List.length_map, pk_length, ← Hnl.out] at Ho1 ⊢
      go_wp2_with fail
      refine (merged_any wt _ _ (coin cs) (pk (lv wt cs k)) _ (OwnX.keep Hc.out (hf.none hf1)).rd Ho1.out.rd (by rw [coin_length, ← Hnc.out]; omega) (by rw [pk_length, ← Hnl.out]; omega)).mono ?_
      rintro e w2 ⟨sv2, rfl, ho2, hf2⟩
      obtain ⟨a2, c2, rfl, -⟩ := RdX.form ho2.rd
      have ho2' : OwnL wt w2 (.slice a2 ((mg wt (coin cs) (pk (lv wt cs k))).map (itm wt)).length c2) (lv wt cs (k + 1)) := ho2
      rw [List.length_map] at ho2' ⊢
      generalize (mg wt (coin cs) (pk (lv wt cs k))).length = n2 at ho2' ⊢
      have hf12 := hf1.none hf2
      clear ho2
      have hfa : Fr wr (w2.alloc (.cells #[.slice a2 n2 c2] 74)) (fun _ => False) := hf12.alloc _
      have hoa := Ho.out.keep hfa
      have ho3 : OwnL wt (w2.alloc (.cells #[.slice a2 n2 c2] 74)) (.slice a2 n2 c2) (lv wt cs (k + 1)) := OwnX.keep ho2' ((Fr.refl w2 _).alloc _)
      obtain ⟨v5, w5, hrun5, ho5, hf5, hm5⟩ := app_a _ _ (.slice (some ⟨w2.heap.size, 0, none⟩) 1 1) vs [.slice a2 n2 c2] hoa.1 (holds_lit w2 74 [.slice a2 n2 c2] (by simp)) (by simp [Value.oneCell']) (by simp; have := Hmv.out; omega)
      have hap := own_apart hoa.1 ho3 (by decide)
      have Hro : Hid (OwnA wt cs w5 v5 (vs ++ [.slice a2 n2 c2])) := by
        refine ⟨ho5, fun i u hu => ?_, fun u hu j hj h2 => ?_⟩
        · rcases Nat.lt_or_ge i vs.length with hi | hi
          · rw [List.getElem?_append_left hi] at hu
            exact OwnX.frame (hoa.2.1 i u hu) hf5 (fun j hj h => hoa.2.2 u (List.mem_of_getElem? hu) j hj h)
          · rw [List.getElem?_append_right hi] at hu
            have hi0 : i = k + 1 := by
              have h3 := (List.getElem?_eq_some_iff.1 hu).1
              simp at h3
              have := Hmv.out
              have := Hk.out
              omega
            subst hi0
            rw [show k + 1 - vs.length = 0 by have := Hmv.out; have := Hk.out; omega] at hu
            simp at hu
            subst hu
            exact OwnX.frame ho3 hf5 (fun j hj h => hap j hj h)
        · have hold : j < (w2.alloc (.cells #[.slice a2 n2 c2] 74)).heap.size := by
            rcases List.mem_append.1 hu with h | h
            · obtain ⟨i, hi⟩ := List.mem_iff_getElem?.1 h
              exact OwnX.lt (hoa.2.1 i u hi) j hj
            · simp at h
              subst h
              exact ho3.lt j hj
          rcases hm5 j h2 with h | h
          · rcases List.mem_append.1 hu with h3 | h3
            · exact hoa.2.2 u h3 j hj h
            · simp at h3
              subst h3
              exact hap j hj h
          · omega
      have Hfo : Hid (Fr w w5 (fun _ => False)) := (hf.none hfa).newer hf5 (fun k hk => Hnew.out k hk)
      have Hnw : Hid (∀ k, v5.ownBlock = some k → w.heap.size ≤ k) := fun k hk => by
        rcases hm5 k hk with h | h
        · exact Hnew.out k h
        · have := (hf.none hfa).size; omega
      clear hfa hoa ho3 ho5 hf5 hm5 hap ho2' hf12 hf1 hf2
      go_wp2_with (at_builtin; refine wpList_append_run rfl (.tmp 12) (.tmp 22) 79 rfl rfl rfl hrun5 ?_)
      go_roundg (n - (m + 1))
      case rel => exact ⟨_, m + 1, rfl, by omega, by omega, by simp; exact Hmv.out, Hro.out, Hfo.out, Hnw.out⟩
      case measure => rw [Hg.out]; omega
    · have hmn : m = n := by omega
      clear hmv
      go_wp2_with fail
      go_ret
      exact ⟨_, vs, rfl, Ho.out, by rw [← Hmv.out]; exact hmn, hf⟩

end Go.Proofs.Ytclfbdfgmeliaaa

/-
  The library's sort in snap's rising.
-/
import Derived.Test.YthdlhdeaeaahoaaGSlice
import Derived.Test.YthdlhdeaeaahoaaEPLess
import Derived.Test.YthdlhdeaeaahoaaJ1
import Derived.Deep.CutRange
namespace Go.Proofs.Ythdlhdeaeaahoaa
open Go.RowKit Go.Sort Go.Lib

theorem eLess_swo : SWO eLess := by
  refine ⟨fun x => ?_, fun x y z h k => ?_, fun x y z h k => ?_⟩
  · unfold eLess; simp
  · unfold eLess at *
    simp only [decide_eq_true_eq] at *
    omega
  · unfold eLess at *
    simp only [decide_eq_false_iff_not] at *
    omega
theorem encE_len (x : Eg) : (encE x).length = 2 := rfl
theorem encE_one (x : Eg) : ∀ v ∈ encE x, v.oneCell' = true := by
  intro v hv
  simp [encE] at hv
  rcases hv with rfl | rfl <;> rfl
theorem slEg : ∃ i ie, SlT 33 48 2 i ie 25 5 :=
  slT_of (bytes := 8) rfl (by kernel_rfl) (by kernel_rfl) (by kernel_rfl) (fun _ => by kernel_rfl) (fun _ => by kernel_rfl)

/-- The sort's call in rising. -/
def riseC (b cap n box : Nat) (sb : Array Value) : SortC Eg := { enc := encE, k := 2, T := 48, lt := eLess, b := b, cap := cap, n := n, g := 48, lb := #[.pointer (some ⟨box, 0, none⟩)], sf := 63, sb := sb }

set_option maxRecDepth 4000 in
set_option maxHeartbeats 1600000 in
/-- rising's function of two places. -/
theorem riseLess_any (b cap n box : Nat) (d : List Eg) (i j : Nat) (x y : Eg) (w : World) (hb : w.cell? ⟨box, 0, none⟩ = some (.slice (some ⟨b, 0, none⟩) n cap)) (hd : RdE w (.slice (some ⟨b, 0, none⟩) n cap) d) (hdn : d.length = n) (hx : d[i]? = some x) (hy : d[j]? = some y) :
    Calls Try.prog 48 #[.int .i64 (i : Int), .int .i64 (j : Int), .pointer (some ⟨box, 0, none⟩)] w fun e w' => e = .returned (.bool (eLess x y)) ∧ Fr w w' (fun _ => False) := by
  have hin : i < n := by rw [← hdn]; exact (List.getElem?_eq_some_iff.1 hx).1
  have hjn : j < n := by rw [← hdn]; exact (List.getElem?_eq_some_iff.1 hy).1
  obtain ⟨bk, off, cp, e3, -, hca⟩ := hd.get i x hx
  obtain ⟨bk', off', cp', e4, -, hcb⟩ := hd.get j y hy
  rw [hdn] at e3 e4
  simp only [Value.slice.injEq, Option.some.injEq, Addr.mk.injEq] at e3 e4
  obtain ⟨⟨rfl, rfl, -⟩, -, rfl⟩ := e3
  obtain ⟨⟨rfl, rfl, -⟩, -, -⟩ := e4
  obtain ⟨f1, f2⟩ := x
  obtain ⟨g1, g2⟩ := y
  obtain ⟨B, hB⟩ : ∃ B, B = eLess (f1, f2) (g1, g2) := ⟨_, rfl⟩
  have hle := less_any (f1, f2) (g1, g2)
  rw [← hB] at hle ⊢
  unfold edgeV at hle
  dsimp only at hle
  have Fd : Hid (Fr w w.drew (fun _ => False)) := (Fr.refl w (fun _ => False)).drew
  have bx : ∀ z, Fr w.drew z (fun _ => False) → z.cell? ⟨box, 0, none⟩ = some (.slice (some ⟨b, 0, none⟩) n cap) := fun z hz => by
    have hbl := World.block_lt_of_cell? _ _ hb
    exact (World.cell?_of_block (w := w) ((Fd.out.none hz).block box hbl (fun h => h))).trans hb
  have a0 : ∀ z, Fr w.drew z (fun _ => False) → z.cell? ⟨b, i * 2, none⟩ = some (.int .u32 (f1 : Int)) := fun z hz => by have h1 := (hca z (Fd.out.none hz)).1; simp only [Nat.zero_add] at h1; exact h1
  have a1 : ∀ z, Fr w.drew z (fun _ => False) → z.cell? ⟨b, i * 2 + 1, none⟩ = some (.int .u32 (f2 : Int)) := fun z hz => by have h1 := (hca z (Fd.out.none hz)).2; simp only [Nat.zero_add] at h1; exact h1
  have b0 : ∀ z, Fr w.drew z (fun _ => False) → z.cell? ⟨b, j * 2, none⟩ = some (.int .u32 (g1 : Int)) := fun z hz => by have h1 := (hcb z (Fd.out.none hz)).1; simp only [Nat.zero_add] at h1; exact h1
  have b1 : ∀ z, Fr w.drew z (fun _ => False) → z.cell? ⟨b, j * 2 + 1, none⟩ = some (.int .u32 (g2 : Int)) := fun z hz => by have h1 := (hcb z (Fd.out.none hz)).2; simp only [Nat.zero_add] at h1; exact h1
  have hi1 : (i : Int) < (n : Int) := by omega
  have hj1 : (j : Int) < (n : Int) := by omega
  have hi0 : (0 : Int) ≤ (i : Int) := by omega
  have hj0 : (0 : Int) ≤ (j : Int) := by omega
  clear hca hcb hd hx hy hb hB
  go_enter Try.func48, Try.ntmps48
  go_upto_region 1 with fail
  refine wp_region_tree (fun _ => False) (.take 0 (.take 1 (.take 2 (.take 3 (.take 4 (.take 5 (.take 6 (.take 7 (.one 8 (.take 9 .nil)))))))))) (by kernel_rfl) (by kernel_rfl) (by decide) (by kernel_rfl) ?_
  iterate 8 (refine wpT_take (v := ?_) rfl rfl (fun x hx => ?_) ?_; rotate_left; (focus (go_simp; with_reducible rfl)); simp only [Act.put, List.setIfInBounds_toArray, List.set_cons_zero, List.set_cons_succ])
  refine wpT_one rfl rfl (fun K hK => ?_)
  go_simp
  refine (hle _).mono ?_
  rintro r x3 ⟨rfl, g⟩
  refine hK _ _ g ?_
  have G3 : Hid (Fr w x3 (fun _ => False)) := Fd.out.none g
  clear hK K bx a0 a1 b0 b1 hle g
  repeat (refine wpT_take (v := ?_) rfl rfl (fun x hx => ?_) ?_; rotate_left; (focus (go_simp; with_reducible rfl)); simp only [Act.put, List.setIfInBounds_toArray, List.set_cons_zero, List.set_cons_succ])
  unfold wpT
  go_wp2_with fail
  go_ret
  exact ⟨rfl, G3.out⟩

/-- The library's sort in rising. -/
theorem riseSort_any (v : Value) (L : List Eg) (box : Nat) (w : World) (h : OwnE w v L) (hb : w.cell? ⟨box, 0, none⟩ = some v) (hbo : v.ownBlock ≠ some box) (hl : L.length ≤ 1000000) :
    Calls Try.prog 47 #[.iface 33 v, .func (.func 48) #[] #[.pointer (some ⟨box, 0, none⟩)]] w fun e w' => e = .returned (.tuple #[]) ∧ (∃ L' : List Eg, L'.Perm L ∧ L'.Pairwise (fun a b => eLess b a = false) ∧ OwnE w' v L') ∧ Fr w w' (fun j => v.ownBlock = some j) := by
  obtain ⟨i0, ie, hT⟩ := slEg
  by_cases h2 : 2 ≤ L.length
  · obtain ⟨b, cap, rfl⟩ : ∃ b cap, v = .slice (some ⟨b, 0, none⟩) L.length cap := by
      rcases h.2 with ⟨rfl, h0⟩ | ⟨b, cap, cur, rfl, -⟩
      · omega
      · exact ⟨b, cap, rfl⟩
    have hbb : box ≠ b := fun e => hbo (by rw [e]; rfl)
    obtain ⟨sb, hsb⟩ : ∃ sb, sb = #[.slice (some ⟨b, 0, none⟩) L.length cap, typeHandle Try.prog 48] := ⟨_, rfl⟩
    have hown : (riseC b cap L.length box sb).own w L.toArray := ⟨by simp [riseC], h⟩
    have hG := gSlice_any (riseC b cap L.length box sb) hT encE_len (show 0 < 2 by decide) encE_one eLess_swo (by show L.length ≤ _; omega) hsb (fun args W => run_callFunc_extern Try.func63 (by kernel_rfl) (by kernel_rfl) (by kernel_rfl) (e := Extern.ReflectliteSwapper.swap true) (by kernel_rfl) args W)
      (enters_of Try.func48 (by kernel_rfl) rfl) w L.toArray hown h2
      (fun R hp => Any.sort_Slice_of_pdq sortSl 33 48 i0 ie hT.hi hT.hd hT.hpk hT.hie 25 hT.hke _ L.length cap (by omega) 63 (by rw [hT.k9 _ h2]; kernel_rfl) (.func 48) #[] #[.pointer (some ⟨box, 0, none⟩)] w R hp) (fun z d hz i j hi hj => by
        have hds : d.size = L.length := hz.1.1
        have hrd : RdE z (.slice (some ⟨b, 0, none⟩) L.length cap) d.toList := by
          have h3 : OwnE z (.slice (some ⟨b, 0, none⟩) L.length cap) d.toList := by
            unfold OwnE
            rw [show d.toList.length = L.length by simpa using hds]
            exact hz.1.2
          exact h3.rd
        have hi' : i < d.size := by rw [hds]; exact hi
        have hj' : j < d.size := by rw [hds]; exact hj
        have hbl := World.block_lt_of_cell? _ _ hb
        have hbz : z.cell? ⟨box, 0, none⟩ = some (.slice (some ⟨b, 0, none⟩) L.length cap) := (World.cell?_of_block (w := w) (hz.2.block box hbl hbb)).trans hb
        exact riseLess_any b cap L.length box d.toList i j d[i]! d[j]! z hbz hrd (by simpa using hds) (by rw [getElem!_pos d i hi', Array.getElem?_toList, Array.getElem?_eq_getElem hi']) (by rw [getElem!_pos d j hj', Array.getElem?_toList, Array.getElem?_eq_getElem hj']))
    refine Calls.mono hG ?_
    rintro e w' ⟨rfl, d', hp, hs, ho, hf⟩
    have hsz : d'.size = L.length := ho.1
    have hlen : d'.toList.length = L.length := by simpa using hsz
    refine ⟨rfl, ⟨d'.toList, by simpa using hp, hs, ?_⟩, hf.mono (fun j _ hj => by rw [hj]; rfl)⟩
    unfold OwnE
    rw [hlen]
    exact ho.2
  · obtain ⟨a, c, rfl, -⟩ := h.rd.form
    have hG := Any.sort_Slice_tiny (P := Try.prog) sortSl 33 48 i0 ie hT.hi hT.hd hT.hpk hT.hie 25 hT.hke a L.length c (by omega) (if L.length = 0 then 59 else 60) (by
      rw [hT.k1 _ h2]
      rcases Nat.eq_zero_or_pos L.length with h0 | h0
      · rw [h0]; kernel_rfl
      · obtain h1 : L.length = 1 := by omega
        rw [h1]; kernel_rfl) (.func 48) #[] #[.pointer (some ⟨box, 0, none⟩)] w
    refine Calls.mono hG ?_
    clear hG
    rintro e w' ⟨rfl, os, rfl⟩
    refine ⟨rfl, ⟨L, .refl _, ?_, h.frame (fr_grow w os (fun _ => False)) (fun _ _ h => h)⟩, fr_grow w os _⟩
    match L, h2 with
    | [], _ => exact List.Pairwise.nil
    | [x], _ => exact List.pairwise_singleton _ _
    | _ :: _ :: _, h2 => exact absurd (by simp) h2

end Go.Proofs.Ythdlhdeaeaahoaa

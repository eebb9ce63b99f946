/-
  The contract of life's Back: its events by the library's sort.
-/
import Derived.Test.YtnffjafddbbjaaaGreatDoorJ4
import Derived.Test.YtnffjafddbbjaaaGreatDoorGSlice
namespace Go.Proofs.YtnffjafddbbjaaaGreatDoor
open Go.RowKit Go.Sort Go.Lib

/-- An order that parts what isn't alike is one that the library's sort takes. -/
theorem swo_of {α : Type} {lt : α → α → Bool} (h1 : ∀ x, lt x x = false) (h2 : ∀ x y z, lt x y = true → lt y z = true → lt x z = true) (h3 : ∀ x y z, lt x y = false → lt y z = false → lt x z = false) : SWO lt := ⟨h1, h2, h3⟩
theorem eLess_ntrans {a b c : Eg} (h : eLess a b = false) (k : eLess b c = false) : eLess a c = false := by
  unfold eLess at *
  simp only [decide_eq_false_iff_not] at *
  omega
theorem eBef_swo : SWO eBef := by
  refine swo_of (fun x => ?_) (fun x y z => eBef_trans) (fun x y z h k => ?_)
  · rw [Bool.eq_false_iff]
    intro h
    rw [eBef_asymm h] at h
    cases h
  · rw [Bool.eq_false_iff] at *
    intro hx
    rw [Ne, eBef_iff] at h k
    rw [eBef_iff] at hx
    rcases hx with hx | ⟨hx, hy⟩
    · omega
    · by_cases h1 : x.1 = y.1
      · have h4 : eLess x.2.1 y.2.1 = false := by
          cases h5 : eLess x.2.1 y.2.1 with
          | false => rfl
          | true => exact absurd (.inr ⟨h1, h5⟩) h
        have h6 : eLess y.2.1 z.2.1 = false := by
          cases h5 : eLess y.2.1 z.2.1 with
          | false => rfl
          | true => exact absurd (.inr ⟨by omega, h5⟩) k
        rw [eLess_ntrans h4 h6] at hy
        cases hy
      · omega

theorem encV_len (x : Ev) : (encV x).length = 4 := rfl
theorem encV_one (x : Ev) : ∀ v ∈ encV x, v.oneCell' = true := by
  intro v hv
  simp [encV] at hv
  rcases hv with rfl | rfl | rfl | rfl <;> rfl

theorem slEv : ∃ i ie, SlT 23 60 4 i ie 25 9 :=
  slT_of (bytes := 24) rfl (by kernel_rfl) (by kernel_rfl) (by kernel_rfl) (fun _ => by kernel_rfl) (fun _ => by kernel_rfl)

/-- The sort's call in Back. -/
def backC (b cap n box : Nat) (sb : Array Value) : SortC Ev := { enc := encV, k := 4, T := 60, lt := eBef, b := b, cap := cap, n := n, g := 70, lb := #[.pointer (some ⟨box, 0, none⟩)], sf := 109, sb := sb }

set_option maxRecDepth 4000 in
set_option maxHeartbeats 800000 in
/-- Back's function of two places. -/
theorem backLess_any (b cap n box : Nat) (d : List Ev) (i j : Nat) (x y : Ev) (w : World) (hb : w.cell? ⟨box, 0, none⟩ = some (.slice (some ⟨b, 0, none⟩) n cap)) (hd : RdV w (.slice (some ⟨b, 0, none⟩) n cap) d) (hdn : d.length = n) (hx : d[i]? = some x) (hy : d[j]? = some y) :
    Calls Tryz.prog 70 #[.int .i64 (i : Int), .int .i64 (j : Int), .pointer (some ⟨box, 0, none⟩)] w fun e w' => e = .returned (.bool (eBef x y)) ∧ Fr w w' (fun _ => False) := by
  have hin : i < n := by rw [← hdn]; exact (List.getElem?_eq_some_iff.1 hx).1
  have hjn : j < n := by rw [← hdn]; exact (List.getElem?_eq_some_iff.1 hy).1
  obtain ⟨bk, off, cp, e3, -, hca⟩ := hd.get i x hx
  obtain ⟨bk', off', cp', e4, -, hcb⟩ := hd.get j y hy
  rw [hdn] at e3 e4
  simp only [Value.slice.injEq, Option.some.injEq, Addr.mk.injEq] at e3 e4
  obtain ⟨⟨rfl, rfl, -⟩, -, rfl⟩ := e3
  obtain ⟨⟨rfl, rfl, -⟩, -, -⟩ := e4
  obtain ⟨s, ⟨f1, f2⟩, ax⟩ := x
  obtain ⟨t, ⟨g1, g2⟩, ay⟩ := y
  obtain ⟨B, hB⟩ : ∃ B, B = eBef (s, (f1, f2), ax) (t, (g1, g2), ay) := ⟨_, rfl⟩
  have HB : Hid (eBefore s t (f1, f2) (g1, g2) = B) := by show _ = _; rw [hB]; rfl
  rw [← hB]
  have hbe := before_any s t (f1, f2) (g1, g2) ax ay
  rw [HB.out] at hbe
  unfold eventV at hbe
  dsimp only at hbe
  have box_ : ∀ z, Fr w.drew z (fun _ => False) → z.cell? ⟨box, 0, none⟩ = some (.slice (some ⟨b, 0, none⟩) n cap) := fun z hz => by
    have hbl := World.block_lt_of_cell? _ _ hb
    exact (World.cell?_of_block (w := w) (((Fr.refl w (fun _ => False)).drew.none hz).block box hbl (fun h => h))).trans hb
  have hfa : ∀ z, Fr w.drew z (fun _ => False) → Fr w z (fun k => k ≠ b) := fun z hz => ((Fr.refl w (fun _ => False)).drew.none hz).mono (fun _ _ h => h.elim)
  have a0 : ∀ z, Fr w.drew z (fun _ => False) → z.cell? ⟨b, i * 4, none⟩ = some (.int .i64 s) := fun z hz => by have := (hca z (hfa z hz)).1; rwa [Nat.zero_add] at this
  have a1 : ∀ z, Fr w.drew z (fun _ => False) → z.cell? ⟨b, i * 4 + 1, none⟩ = some (.int .u32 (f1 : Int)) := fun z hz => by have := (hca z (hfa z hz)).2.1; rwa [Nat.zero_add] at this
  have a2 : ∀ z, Fr w.drew z (fun _ => False) → z.cell? ⟨b, i * 4 + 2, none⟩ = some (.int .u32 (f2 : Int)) := fun z hz => by have := (hca z (hfa z hz)).2.2.1; rwa [Nat.zero_add] at this
  have a3 : ∀ z, Fr w.drew z (fun _ => False) → z.cell? ⟨b, i * 4 + 3, none⟩ = some (.bool ax) := fun z hz => by have := (hca z (hfa z hz)).2.2.2; rwa [Nat.zero_add] at this
  have b0 : ∀ z, Fr w.drew z (fun _ => False) → z.cell? ⟨b, j * 4, none⟩ = some (.int .i64 t) := fun z hz => by have := (hcb z (hfa z hz)).1; rwa [Nat.zero_add] at this
  have b1 : ∀ z, Fr w.drew z (fun _ => False) → z.cell? ⟨b, j * 4 + 1, none⟩ = some (.int .u32 (g1 : Int)) := fun z hz => by have := (hcb z (hfa z hz)).2.1; rwa [Nat.zero_add] at this
  have b2 : ∀ z, Fr w.drew z (fun _ => False) → z.cell? ⟨b, j * 4 + 2, none⟩ = some (.int .u32 (g2 : Int)) := fun z hz => by have := (hcb z (hfa z hz)).2.2.1; rwa [Nat.zero_add] at this
  have b3 : ∀ z, Fr w.drew z (fun _ => False) → z.cell? ⟨b, j * 4 + 3, none⟩ = some (.bool ay) := fun z hz => by have := (hcb z (hfa z hz)).2.2.2; rwa [Nat.zero_add] at this
  have hi1 : (i : Int) < (n : Int) := by omega
  have hj1 : (j : Int) < (n : Int) := by omega
  have hi0 : (0 : Int) ≤ (i : Int) := by omega
  have hj0 : (0 : Int) ≤ (j : Int) := by omega
  clear hca hcb hfa hd hx hy hb hB HB
  go_enter Tryz.func70, Tryz.ntmps70
  go_upto_region 1 with fail
  refine wp_region_tree (fun _ => False) (.take 0 (.take 1 (.take 2 (.take 3 (.take 4 (.take 5 (.take 6 (.take 7 (.one 8 (.take 9 .nil)))))))))) (by kernel_rfl) (by kernel_rfl) (by decide) (by kernel_rfl) ?_
  repeat (refine wpT_take (v := ?_) rfl rfl (fun x hx => ?_) ?_; rotate_left; (focus (go_simp; with_reducible rfl)); simp only [Act.put, List.setIfInBounds_toArray, List.set_cons_zero, List.set_cons_succ])
  refine wpT_one rfl rfl (fun K hK => ?_)
  go_simp
  refine (hbe _).mono ?_
  rintro r x3 ⟨rfl, g⟩
  refine hK _ _ g ?_
  have G3 : Hid (Fr w x3 (fun _ => False)) := (Fr.refl w (fun _ => False)).drew.none g
  clear hK K a0 a1 a2 a3 b0 b1 b2 b3 box_ hbe g
  repeat (refine wpT_take (v := ?_) rfl rfl (fun x hx => ?_) ?_; rotate_left; (focus (go_simp; with_reducible rfl)); simp only [Act.put, List.setIfInBounds_toArray, List.set_cons_zero, List.set_cons_succ])
  unfold wpT
  go_wp2_with fail
  go_ret
  exact ⟨rfl, G3.out⟩

/-- The library's sort in Back. -/
theorem backSort_any (v : Value) (evs : List Ev) (box : Nat) (w : World) (h : OwnV w v evs) (hb : w.cell? ⟨box, 0, none⟩ = some v) (hbo : v.ownBlock ≠ some box) (hl : evs.length ≤ 1000000) :
    Calls Tryz.prog 55 #[.iface 23 v, .func (.func 70) #[] #[.pointer (some ⟨box, 0, none⟩)]] w fun e w' => e = .returned (.tuple #[]) ∧ (∃ evs' : List Ev, evs'.Perm evs ∧ evs'.Pairwise (fun a b => eBef b a = false) ∧ OwnV w' v evs') ∧ Fr w w' (fun j => v.ownBlock = some j) := by
  obtain ⟨i0, ie, hT⟩ := slEv
  by_cases h2 : 2 ≤ evs.length
  · obtain ⟨b, cap, rfl⟩ : ∃ b cap, v = .slice (some ⟨b, 0, none⟩) evs.length cap := by
      rcases h.2 with ⟨rfl, h0⟩ | ⟨b, cap, cur, rfl, -⟩
      · omega
      · exact ⟨b, cap, rfl⟩
    have hbb : box ≠ b := fun e => hbo (by rw [e]; rfl)
    obtain ⟨sb, hsb⟩ : ∃ sb, sb = #[.slice (some ⟨b, 0, none⟩) evs.length cap, typeHandle Tryz.prog 60] := ⟨_, rfl⟩
    have hown : (backC b cap evs.length box sb).own w evs.toArray := ⟨by simp [backC], h⟩
    have hG := gSlice_any (backC b cap evs.length box sb) hT encV_len (show 0 < 4 by decide) encV_one eBef_swo (by show evs.length ≤ _; omega) hsb (fun args W => run_callFunc_extern Tryz.func109 (by kernel_rfl) (by kernel_rfl) (by kernel_rfl) (e := Extern.ReflectliteSwapper.swap false) (by kernel_rfl) args W)
      (enters_of Tryz.func70 (by kernel_rfl) rfl) w evs.toArray hown h2
      (fun R hp => Any.sort_Slice_of_pdq sortSl 23 60 i0 ie hT.hi hT.hd hT.hpk hT.hie 25 hT.hke _ evs.length cap (by omega) 109 (by rw [hT.k9 _ h2]; kernel_rfl) (.func 70) #[] #[.pointer (some ⟨box, 0, none⟩)] w R hp) (fun z d hz i j hi hj => by
        have hds : d.size = evs.length := hz.1.1
        have hrd : RdV z (.slice (some ⟨b, 0, none⟩) evs.length cap) d.toList := by
          have h3 : OwnV z (.slice (some ⟨b, 0, none⟩) evs.length cap) d.toList := by
            unfold OwnV
            rw [show d.toList.length = evs.length by simpa using hds]
            exact hz.1.2
          exact h3.rd
        have hi' : i < d.size := by rw [hds]; exact hi
        have hj' : j < d.size := by rw [hds]; exact hj
        have hbl := World.block_lt_of_cell? _ _ hb
        have hbz : z.cell? ⟨box, 0, none⟩ = some (.slice (some ⟨b, 0, none⟩) evs.length cap) := (World.cell?_of_block (w := w) (hz.2.block box hbl hbb)).trans hb
        exact backLess_any b cap evs.length box d.toList i j d[i]! d[j]! z hbz hrd (by simpa using hds) (by rw [getElem!_pos d i hi', Array.getElem?_toList, Array.getElem?_eq_getElem hi']) (by rw [getElem!_pos d j hj', Array.getElem?_toList, Array.getElem?_eq_getElem hj']))
    refine Calls.mono hG ?_
    rintro e w' ⟨rfl, d', hp, hs, ho, hf⟩
    have hsz : d'.size = evs.length := ho.1
    have hlen : d'.toList.length = evs.length := by simpa using hsz
    refine ⟨rfl, ⟨d'.toList, by simpa using hp, hs, ?_⟩, hf.mono (fun j _ hj => by rw [hj]; rfl)⟩
    unfold OwnV
    rw [hlen]
    exact ho.2
  · obtain ⟨a, c, rfl, -⟩ := h.rd.form
    have hG := Any.sort_Slice_tiny (P := Tryz.prog) sortSl 23 60 i0 ie hT.hi hT.hd hT.hpk hT.hie 25 hT.hke a evs.length c (by omega) (if evs.length = 0 then 101 else 102) (by
      rw [hT.k1 _ h2]
      rcases Nat.eq_zero_or_pos evs.length with h0 | h0
      · rw [h0]; kernel_rfl
      · obtain h1 : evs.length = 1 := by omega
        rw [h1]; kernel_rfl) (.func 70) #[] #[.pointer (some ⟨box, 0, none⟩)] w
    refine Calls.mono hG ?_
    clear hG
    rintro e w' ⟨rfl, os, rfl⟩
    refine ⟨rfl, ⟨evs, .refl _, ?_, h.frame (fr_grow w os (fun _ => False)) (fun _ _ h => h)⟩, fr_grow w os _⟩
    match evs, h2 with
    | [], _ => exact List.Pairwise.nil
    | [x], _ => exact List.pairwise_singleton _ _
    | _ :: _ :: _, h2 => exact absurd (by simp) h2

end Go.Proofs.YtnffjafddbbjaaaGreatDoor

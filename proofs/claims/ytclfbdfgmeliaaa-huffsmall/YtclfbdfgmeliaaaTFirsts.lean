/-
  The contracts of code's firsts and places.
-/
import Derived.Test.YtclfbdfgmeliaaaTTally
import Derived.StillTailTactics
namespace Go.Proofs.Ytclfbdfgmeliaaa
open Go.RowKit

set_option maxRecDepth 4000 in
set_option maxHeartbeats 800000 in
theorem firstsC_any (f : Nat → Nat) (w : World) (hf : ∀ n, n < 16 → f n ≤ 256) :
    Calls Try.prog 56 #[arr 16 f] w fun e w' => e = .returned (arr 16 (firstF f)) ∧ Fr w w' (fun _ => False) := by
  unfold arr
  have Hsm : Hid _ := hf
  clear hf
  go_enter Try.func56, Try.ntmps56
  go_wp2_with fail
  rw [z16]
  have Hf0 : Hid (Fr w (((w.alloc (.cells (row .i64 (fnRow 16 f)).toArray 102)).alloc (.cells Z16 102)).alloc (.cells Z16 102)) (fun _ => False)) := (((Fr.refl w _).alloc _).alloc _).alloc _
  have Hb0 : Hid (Blk (((w.alloc (.cells (row .i64 (fnRow 16 f)).toArray 102)).alloc (.cells Z16 102)).alloc (.cells Z16 102)) w.heap.size 102 16 f) := blk_alloc _ (blk_alloc _ (heap_alloc_new w _))
  have Hb1 : Hid (Blk (((w.alloc (.cells (row .i64 (fnRow 16 f)).toArray 102)).alloc (.cells Z16 102)).alloc (.cells Z16 102)) (w.heap.size + 1) 102 16 (fun _ => 0)) := by
    have := heap_alloc_new (w.alloc (.cells (row .i64 (fnRow 16 f)).toArray 102)) (.cells Z16 102)
    rw [show (w.alloc (.cells (row .i64 (fnRow 16 f)).toArray 102)).heap.size = w.heap.size + 1 by simp] at this
    exact blk_alloc _ this
  have Hb2 : Hid (Blk (((w.alloc (.cells (row .i64 (fnRow 16 f)).toArray 102)).alloc (.cells Z16 102)).alloc (.cells Z16 102)) (w.heap.size + 2) 102 16 (fun _ => 0)) := by
    have := heap_alloc_new ((w.alloc (.cells (row .i64 (fnRow 16 f)).toArray 102)).alloc (.cells Z16 102)) (.cells Z16 102)
    rw [show ((w.alloc (.cells (row .i64 (fnRow 16 f)).toArray 102)).alloc (.cells Z16 102)).heap.size = w.heap.size + 2 by simp] at this
    exact this
  generalize ((w.alloc (.cells (row .i64 (fnRow 16 f)).toArray 102)).alloc (.cells Z16 102)).alloc (.cells Z16 102) = w2 at *
  obtain ⟨b0, hb0⟩ : ∃ b, b = w.heap.size := ⟨_, rfl⟩
  obtain ⟨b1, hb1⟩ : ∃ b, b = w.heap.size + 1 := ⟨_, rfl⟩
  obtain ⟨b2, hb2⟩ : ∃ b, b = w.heap.size + 2 := ⟨_, rfl⟩
  rw [← hb0] at Hb0
  rw [← hb1] at Hb1
  rw [← hb2] at Hb2
  rw [← hb2, ← hb1, ← hb0]
  have Hw1 : Hid (w.heap.size ≤ b1) := by show _ ≤ _; omega
  have Hw2 : Hid (w.heap.size ≤ b2) := by show _ ≤ _; omega
  have Hne0 : Hid (b0 ≠ b2) := by show _ ≠ _; omega
  have Hne1 : Hid (b1 ≠ b2) := by show _ ≠ _; omega
  clear hb0 hb1 hb2
  go_loopg [4] 15 (fun g I wr => ∃ i : Nat, g = 16 - i ∧ 1 ≤ i ∧ i ≤ 16 ∧ I = .int .i64 (i : Int) ∧ Blk wr b0 102 16 f ∧ Blk wr b1 102 16 (fun _ => 0) ∧ Blk wr b2 102 16 (fun j => if j < i then firstF f j else 0) ∧ Fr w wr (fun _ => False))
  case atStart => exact ⟨1, rfl, by omega, by omega, rfl, Hb0.out, Hb1.out, Hb2.out.congr (fun j _ => by
    by_cases hj : j < 1
    · obtain rfl : j = 0 := by omega
      rfl
    · rw [if_neg hj]), Hf0.out⟩
  case round =>
    obtain ⟨i, hg, hi1, hi, rfl, hb0, hb1, hb2, hf⟩ := hrel
    have Hg : Hid _ := hg
    have Hc0 : Hid (Blk wr b0 102 16 f) := hb0
    have Hc1 : Hid (Blk wr b1 102 16 (fun _ => 0)) := hb1
    have Hc2 : Hid (Blk wr b2 102 16 (fun j => if j < i then firstF f j else 0)) := hb2
    have Hf : Hid _ := hf
    clear hg hb0 hb1 hb2 hf
    by_cases hlt : i < 16
    · have hi2 : (i : Int) < 16 := by omega
      obtain ⟨j, hj⟩ : ∃ j, i = j + 1 := ⟨i - 1, by omega⟩
      have hsub : IntKind.i64.wrap ((i : Int) - 1) = (j : Int) := by rw [IntWalk.i64_in _ (by omega)]; omega
      have c0 := Hc0.out.cell j (by omega)
      have c2 := Hc2.out.cell j (by omega)
      rw [if_pos (by omega)] at c2
      have hfr : Hid (∀ o, wr.frozen? ⟨b2, o, none⟩ = false) := Hc2.out.free
      have f2 := hfr.out i
      have c3 := Hc2.out.cell i hlt
      rw [if_neg (by omega)] at c3
      have hj16 : (j : Int) < 16 := by omega
      have hbx := firstF_small f Hsm.out j (by omega)
      have hby := Hsm.out j (by omega)
      have Hstep : Hid (firstF f i = (firstF f j + f j) * 2) := by show _ = _; rw [hj]; rfl
      have Hset : Hid (∀ x, Blk (wr.drew.setCell ⟨b2, i, none⟩ (.int .i64 ((x : Nat) : Int))) b2 102 16 (upd (fun j => if j < i then firstF f j else 0) i x)) := fun x => Blk.set (w := wr.drew) Hc2.out i x
      have Hoth : Hid (∀ v, Fr wr (wr.drew.setCell ⟨b2, i, none⟩ v) (fun k => k = b2)) := fun v => Fr.setCell (S := fun k => k = b2) (Fr.refl wr _).drew ⟨b2, i, none⟩ (fun _ => rfl) v
      have Hj : Hid _ := hj
      generalize firstF f j = x at c2 hbx Hstep
      generalize f j = y at c0 hby Hstep
      have hw2 : IntKind.i64.wrap (((x : Int) + (y : Int)) * 2) = (((x + y) * 2 : Nat) : Int) := by rw [IntWalk.i64_in _ (by omega)]; omega
      clear hj hfr
      go_wp2
      go_still_tail 12, (by kernel_rfl)
      go_wp2
      go_roundg (16 - (i + 1))
      case rel =>
        have hoth := Hoth.out (.int .i64 (((x + y) * 2 : Nat) : Int))
        exact ⟨i + 1, rfl, by omega, by omega, by go_num, Hc0.out.frame hoth Hne0.out, Hc1.out.frame hoth Hne1.out, (Hset.out ((x + y) * 2)).congr (fun k _ => by
          unfold upd
          by_cases hk : k = i
          · rw [if_pos hk, if_pos (by omega), hk, Hstep.out]
          · rw [if_neg hk]; dsimp only
            by_cases hk2 : k < i
            · rw [if_pos hk2, if_pos (by omega)]
            · rw [if_neg hk2, if_neg (by omega)]), Hf.out.newer hoth (fun k hk => by rw [hk]; exact Hw2.out)⟩
      case measure => rw [Hg.out]; omega
    · obtain rfl : i = 16 := by omega
      have Hfin : Hid (Blk wr b2 102 16 (firstF f)) := Hc2.out.congr fun j hj => by rw [if_pos hj]
      have Hrg : Hid (wr.rangeAt b2 0 (row .i64 (fnRow 16 (firstF f)))) := Hfin.out.range 0 16 _ (by omega) (fun j _ => by rw [Nat.zero_add])
      have Hth : Hid (wr.there b1 0 (row .i64 (fnRow 16 (firstF f))).toArray.size) := by
        have := Hc1.out.there 0 16 (by omega)
        rw [List.size_toArray, frow_len]
        exact this
      have Hsz : Hid ((Try.prog.info? 102).map (·.size) = some (row .i64 (fnRow 16 (firstF f))).length) := by rw [frow_len]; exact sizeLen
      have Hb2 : Hid (Blk (wr.setCells b1 0 (row .i64 (fnRow 16 (firstF f)))) b1 102 16 (firstF f)) := (Hc1.out.setRow 0 16 (firstF f)).congr fun j hj => by rw [if_pos (by omega)]; rfl
      have Hf2 : Hid (Fr w (wr.setCells b1 0 (row .i64 (fnRow 16 (firstF f)))) (fun _ => False)) := Fr.setCells b1 (fun h => by have := Hw1.out; omega) _ _ Hf.out
      go_wp2_with (first | refine wpList_load_mid rfl 102 _ rfl b2 0 rfl (row .i64 (fnRow 16 (firstF f))) _ Hrg.out Try.underlying102 rfl Hsz.out ?_ | refine wpList_store_mid rfl 102 _ _ rfl b1 0 (row .i64 (fnRow 16 (firstF f))).toArray rfl rfl Hth.out Hsz.out (frow_one _ _) ?_)
      refine bodyPost_ret (results_cell rfl rfl (Hb2.out.load 0 (firstF f) (by omega) (fun j _ => by rw [Nat.zero_add]))) rfl ?_
      exact ⟨rfl, Hf2.out⟩

set_option maxRecDepth 4000 in
set_option maxHeartbeats 800000 in
theorem placesC_any (f : Nat → Nat) (w : World) (hf : ∀ n, n < 16 → f n ≤ 256) :
    Calls Try.prog 58 #[arr 16 f] w fun e w' => e = .returned (arr 16 (placeF f)) ∧ Fr w w' (fun _ => False) := by
  unfold arr
  have Hsm : Hid _ := hf
  clear hf
  go_enter Try.func58, Try.ntmps58
  go_wp2_with fail
  rw [z16]
  have Hf0 : Hid (Fr w (((w.alloc (.cells (row .i64 (fnRow 16 f)).toArray 102)).alloc (.cells Z16 102)).alloc (.cells Z16 102)) (fun _ => False)) := (((Fr.refl w _).alloc _).alloc _).alloc _
  have Hb0 : Hid (Blk (((w.alloc (.cells (row .i64 (fnRow 16 f)).toArray 102)).alloc (.cells Z16 102)).alloc (.cells Z16 102)) w.heap.size 102 16 f) := blk_alloc _ (blk_alloc _ (heap_alloc_new w _))
  have Hb1 : Hid (Blk (((w.alloc (.cells (row .i64 (fnRow 16 f)).toArray 102)).alloc (.cells Z16 102)).alloc (.cells Z16 102)) (w.heap.size + 1) 102 16 (fun _ => 0)) := by
    have := heap_alloc_new (w.alloc (.cells (row .i64 (fnRow 16 f)).toArray 102)) (.cells Z16 102)
    rw [show (w.alloc (.cells (row .i64 (fnRow 16 f)).toArray 102)).heap.size = w.heap.size + 1 by simp] at this
    exact blk_alloc _ this
  have Hb2 : Hid (Blk (((w.alloc (.cells (row .i64 (fnRow 16 f)).toArray 102)).alloc (.cells Z16 102)).alloc (.cells Z16 102)) (w.heap.size + 2) 102 16 (fun _ => 0)) := by
    have := heap_alloc_new ((w.alloc (.cells (row .i64 (fnRow 16 f)).toArray 102)).alloc (.cells Z16 102)) (.cells Z16 102)
    rw [show ((w.alloc (.cells (row .i64 (fnRow 16 f)).toArray 102)).alloc (.cells Z16 102)).heap.size = w.heap.size + 2 by simp] at this
    exact this
  generalize ((w.alloc (.cells (row .i64 (fnRow 16 f)).toArray 102)).alloc (.cells Z16 102)).alloc (.cells Z16 102) = w2 at *
  obtain ⟨b0, hb0⟩ : ∃ b, b = w.heap.size := ⟨_, rfl⟩
  obtain ⟨b1, hb1⟩ : ∃ b, b = w.heap.size + 1 := ⟨_, rfl⟩
  obtain ⟨b2, hb2⟩ : ∃ b, b = w.heap.size + 2 := ⟨_, rfl⟩
  rw [← hb0] at Hb0
  rw [← hb1] at Hb1
  rw [← hb2] at Hb2
  rw [← hb2, ← hb1, ← hb0]
  have Hw1 : Hid (w.heap.size ≤ b1) := by show _ ≤ _; omega
  have Hw2 : Hid (w.heap.size ≤ b2) := by show _ ≤ _; omega
  have Hne0 : Hid (b0 ≠ b2) := by show _ ≠ _; omega
  have Hne1 : Hid (b1 ≠ b2) := by show _ ≠ _; omega
  clear hb0 hb1 hb2
  go_loopg [4] 15 (fun g I wr => ∃ i : Nat, g = 16 - i ∧ 1 ≤ i ∧ i ≤ 16 ∧ I = .int .i64 (i : Int) ∧ Blk wr b0 102 16 f ∧ Blk wr b1 102 16 (fun _ => 0) ∧ Blk wr b2 102 16 (fun j => if j < i then placeF f j else 0) ∧ Fr w wr (fun _ => False))
  case atStart => exact ⟨1, rfl, by omega, by omega, rfl, Hb0.out, Hb1.out, Hb2.out.congr (fun j _ => by
    by_cases hj : j < 1
    · obtain rfl : j = 0 := by omega
      rfl
    · rw [if_neg hj]), Hf0.out⟩
  case round =>
    obtain ⟨i, hg, hi1, hi, rfl, hb0, hb1, hb2, hf⟩ := hrel
    have Hg : Hid _ := hg
    have Hc0 : Hid (Blk wr b0 102 16 f) := hb0
    have Hc1 : Hid (Blk wr b1 102 16 (fun _ => 0)) := hb1
    have Hc2 : Hid (Blk wr b2 102 16 (fun j => if j < i then placeF f j else 0)) := hb2
    have Hf : Hid _ := hf
    clear hg hb0 hb1 hb2 hf
    by_cases hlt : i < 16
    · have hi2 : (i : Int) < 16 := by omega
      obtain ⟨j, hj⟩ : ∃ j, i = j + 1 := ⟨i - 1, by omega⟩
      have hsub : IntKind.i64.wrap ((i : Int) - 1) = (j : Int) := by rw [IntWalk.i64_in _ (by omega)]; omega
      have c0 := Hc0.out.cell j (by omega)
      have c2 := Hc2.out.cell j (by omega)
      rw [if_pos (by omega)] at c2
      have hfr : Hid (∀ o, wr.frozen? ⟨b2, o, none⟩ = false) := Hc2.out.free
      have f2 := hfr.out i
      have c3 := Hc2.out.cell i hlt
      rw [if_neg (by omega)] at c3
      have hj16 : (j : Int) < 16 := by omega
      have hbx := placeF_small f Hsm.out j (by omega)
      have hby := Hsm.out j (by omega)
      have Hstep : Hid (placeF f i = placeF f j + f j) := by show _ = _; rw [hj]; rfl
      have Hset : Hid (∀ x, Blk (wr.drew.setCell ⟨b2, i, none⟩ (.int .i64 ((x : Nat) : Int))) b2 102 16 (upd (fun j => if j < i then placeF f j else 0) i x)) := fun x => Blk.set (w := wr.drew) Hc2.out i x
      have Hoth : Hid (∀ v, Fr wr (wr.drew.setCell ⟨b2, i, none⟩ v) (fun k => k = b2)) := fun v => Fr.setCell (S := fun k => k = b2) (Fr.refl wr _).drew ⟨b2, i, none⟩ (fun _ => rfl) v
      have Hj : Hid _ := hj
      generalize placeF f j = x at c2 hbx Hstep
      generalize f j = y at c0 hby Hstep
      have hw2 : IntKind.i64.wrap ((x : Int) + (y : Int)) = ((x + y : Nat) : Int) := by rw [IntWalk.i64_in _ (by omega)]; omega
      clear hj hfr
      go_wp2
      go_still_tail 11, (by kernel_rfl)
      go_wp2
      go_roundg (16 - (i + 1))
      case rel =>
        have hoth := Hoth.out (.int .i64 ((x + y : Nat) : Int))
        exact ⟨i + 1, rfl, by omega, by omega, by go_num, Hc0.out.frame hoth Hne0.out, Hc1.out.frame hoth Hne1.out, (Hset.out (x + y)).congr (fun k _ => by
          unfold upd
          by_cases hk : k = i
          · rw [if_pos hk, if_pos (by omega), hk, Hstep.out]
          · rw [if_neg hk]; dsimp only
            by_cases hk2 : k < i
            · rw [if_pos hk2, if_pos (by omega)]
            · rw [if_neg hk2, if_neg (by omega)]), Hf.out.newer hoth (fun k hk => by rw [hk]; exact Hw2.out)⟩
      case measure => rw [Hg.out]; omega
    · obtain rfl : i = 16 := by omega
      have Hfin : Hid (Blk wr b2 102 16 (placeF f)) := Hc2.out.congr fun j hj => by rw [if_pos hj]
      have Hrg : Hid (wr.rangeAt b2 0 (row .i64 (fnRow 16 (placeF f)))) := Hfin.out.range 0 16 _ (by omega) (fun j _ => by rw [Nat.zero_add])
      have Hth : Hid (wr.there b1 0 (row .i64 (fnRow 16 (placeF f))).toArray.size) := by
        have := Hc1.out.there 0 16 (by omega)
        rw [List.size_toArray, frow_len]
        exact this
      have Hsz : Hid ((Try.prog.info? 102).map (·.size) = some (row .i64 (fnRow 16 (placeF f))).length) := by rw [frow_len]; exact sizeLen
      have Hb2 : Hid (Blk (wr.setCells b1 0 (row .i64 (fnRow 16 (placeF f)))) b1 102 16 (placeF f)) := (Hc1.out.setRow 0 16 (placeF f)).congr fun j hj => by rw [if_pos (by omega)]; rfl
      have Hf2 : Hid (Fr w (wr.setCells b1 0 (row .i64 (fnRow 16 (placeF f)))) (fun _ => False)) := Fr.setCells b1 (fun h => by have := Hw1.out; omega) _ _ Hf.out
      go_wp2_with (first | refine wpList_load_mid rfl 102 _ rfl b2 0 rfl (row .i64 (fnRow 16 (placeF f))) _ Hrg.out Try.underlying102 rfl Hsz.out ?_ | refine wpList_store_mid rfl 102 _ _ rfl b1 0 (row .i64 (fnRow 16 (placeF f))).toArray rfl rfl Hth.out Hsz.out (frow_one _ _) ?_)
      refine bodyPost_ret (results_cell rfl rfl (Hb2.out.load 0 (placeF f) (by omega) (fun j _ => by rw [Nat.zero_add]))) rfl ?_
      exact ⟨rfl, Hf2.out⟩

end Go.Proofs.Ytclfbdfgmeliaaa

/-
  Texts of ours, joined: TFirsts MKraft TRight TCodes RPutC TPut TTake TNew HPutC.
-/
import Derived.Test.YtclfbdfgmeliaaaJ5
import Derived.StillTailTactics
import Derived.Test.YtclfbdfgmeliaaaJ2
import Derived.Test.YtclfbdfgmeliaaaJ4
import Derived.Test.YtclfbdfgmeliaaaJ3

/-
  The contracts of code's firsts and places.
-/
namespace Go.Proofs.Ytclfbdfgmeliaaa
open Go.RowKit

set_option maxRecDepth 4000 in
set_option maxHeartbeats 800000 in
theorem firstsC_any (f : Nat → Nat) (w : World) (hf : ∀ n, n < 16 → f n ≤ 256) :
    Calls Try.prog 56 #[arr 16 f] w fun e w' => e = .returned (arr 16 (firstF f)) ∧ Fr w w' (fun _ => False) := by
  unfold arr
  have Hsm : Hid _ := hf
  clear hf
  go_enter Try.func56, Try.ntmps56
  go_wp2_with fail
  rw [z16]
  have Hf0 : Hid (Fr w (((w.alloc (.cells (row .i64 (fnRow 16 f)).toArray 102)).alloc (.cells Z16 102)).alloc (.cells Z16 102)) (fun _ => False)) := (((Fr.refl w _).alloc _).alloc _).alloc _
  have Hb0 : Hid (Blk (((w.alloc (.cells (row .i64 (fnRow 16 f)).toArray 102)).alloc (.cells Z16 102)).alloc (.cells Z16 102)) w.heap.size 102 16 f) := blk_alloc _ (blk_alloc _ (heap_alloc_new w _))
  have Hb1 : Hid (Blk (((w.alloc (.cells (row .i64 (fnRow 16 f)).toArray 102)).alloc (.cells Z16 102)).alloc (.cells Z16 102)) (w.heap.size + 1) 102 16 (fun _ => 0)) := by
    have := heap_alloc_new (w.alloc (.cells (row .i64 (fnRow 16 f)).toArray 102)) (.cells Z16 102)
    rw [show (w.alloc (.cells (row .i64 (fnRow 16 f)).toArray 102)).heap.size = w.heap.size + 1 by simp] at this
    exact blk_alloc _ this
  have Hb2 : Hid (Blk (((w.alloc (.cells (row .i64 (fnRow 16 f)).toArray 102)).alloc (.cells Z16 102)).alloc (.cells Z16 102)) (w.heap.size + 2) 102 16 (fun _ => 0)) := by
    have := heap_alloc_new ((w.alloc (.cells (row .i64 (fnRow 16 f)).toArray 102)).alloc (.cells Z16 102)) (.cells Z16 102)
    rw [show ((w.alloc (.cells (row .i64 (fnRow 16 f)).toArray 102)).alloc (.cells Z16 102)).heap.size = w.heap.size + 2 by simp] at this
    exact this
  generalize ((w.alloc (.cells (row .i64 (fnRow 16 f)).toArray 102)).alloc (.cells Z16 102)).alloc (.cells Z16 102) = w2 at *
  obtain ⟨b0, hb0⟩ : ∃ b, b = w.heap.size := ⟨_, rfl⟩
  obtain ⟨b1, hb1⟩ : ∃ b, b = w.heap.size + 1 := ⟨_, rfl⟩
  obtain ⟨b2, hb2⟩ : ∃ b, b = w.heap.size + 2 := ⟨_, rfl⟩
  rw [← hb0] at Hb0
  rw [← hb1] at Hb1
  rw [← hb2] at Hb2
  rw [← hb2, ← hb1, ← hb0]
  have Hw1 : Hid (w.heap.size ≤ b1) := by show _ ≤ _; omega
  have Hw2 : Hid (w.heap.size ≤ b2) := by show _ ≤ _; omega
  have Hne0 : Hid (b0 ≠ b2) := by show _ ≠ _; omega
  have Hne1 : Hid (b1 ≠ b2) := by show _ ≠ _; omega
  clear hb0 hb1 hb2
  go_loopg [4] 15 (fun g I wr => ∃ i : Nat, g = 16 - i ∧ 1 ≤ i ∧ i ≤ 16 ∧ I = .int .i64 (i : Int) ∧ Blk wr b0 102 16 f ∧ Blk wr b1 102 16 (fun _ => 0) ∧ Blk wr b2 102 16 (fun j => if j < i then firstF f j else 0) ∧ Fr w wr (fun _ => False))
  case atStart => exact ⟨1, rfl, by omega, by omega, rfl, Hb0.out, Hb1.out, Hb2.out.congr (fun j _ => by
    by_cases hj : j < 1
    · obtain rfl : j = 0 := by omega
      rfl
    · rw [if_neg hj]), Hf0.out⟩
  case round =>
    obtain ⟨i, hg, hi1, hi, rfl, hb0, hb1, hb2, hf⟩ := hrel
    have Hg : Hid _ := hg
    have Hc0 : Hid (Blk wr b0 102 16 f) := hb0
    have Hc1 : Hid (Blk wr b1 102 16 (fun _ => 0)) := hb1
    have Hc2 : Hid (Blk wr b2 102 16 (fun j => if j < i then firstF f j else 0)) := hb2
    have Hf : Hid _ := hf
    clear hg hb0 hb1 hb2 hf
    by_cases hlt : i < 16
    · have hi2 : (i : Int) < 16 := by omega
      obtain ⟨j, hj⟩ : ∃ j, i = j + 1 := ⟨i - 1, by omega⟩
      have hsub : IntKind.i64.wrap ((i : Int) - 1) = (j : Int) := by rw [IntWalk.i64_in _ (by omega)]; omega
      have c0 := Hc0.out.cell j (by omega)
      have c2 := Hc2.out.cell j (by omega)
      rw [if_pos (by omega)] at c2
      have hfr : Hid (∀ o, wr.frozen? ⟨b2, o, none⟩ = false) := Hc2.out.free
      have f2 := hfr.out i
      have c3 := Hc2.out.cell i hlt
      rw [if_neg (by omega)] at c3
      have hj16 : (j : Int) < 16 := by omega
      have hbx := firstF_small f Hsm.out j (by omega)
      have hby := Hsm.out j (by omega)
      have Hstep : Hid (firstF f i = (firstF f j + f j) * 2) := by show _ = _; rw [hj]; rfl
      have Hset : Hid (∀ x, Blk (wr.drew.setCell ⟨b2, i, none⟩ (.int .i64 ((x : Nat) : Int))) b2 102 16 (upd (fun j => if j < i then firstF f j else 0) i x)) := fun x => Blk.set (w := wr.drew) Hc2.out i x
      have Hoth : Hid (∀ v, Fr wr (wr.drew.setCell ⟨b2, i, none⟩ v) (fun k => k = b2)) := fun v => Fr.setCell (S := fun k => k = b2) (Fr.refl wr _).drew ⟨b2, i, none⟩ (fun _ => rfl) v
      have Hj : Hid _ := hj
      generalize firstF f j = x at c2 hbx Hstep
      generalize f j = y at c0 hby Hstep
      have hw2 : IntKind.i64.wrap (((x : Int) + (y : Int)) * 2) = (((x + y) * 2 : Nat) : Int) := by rw [IntWalk.i64_in _ (by omega)]; omega
      clear hj hfr
      go_wp2
      go_still_tail 12, (by kernel_rfl)
      go_wp2
      go_roundg (16 - (i + 1))
      case rel =>
        have hoth := Hoth.out (.int .i64 (((x + y) * 2 : Nat) : Int))
        exact ⟨i + 1, rfl, by omega, by omega, by go_num, Hc0.out.frame hoth Hne0.out, Hc1.out.frame hoth Hne1.out, (Hset.out ((x + y) * 2)).congr (fun k _ => by
          unfold upd
          by_cases hk : k = i
          · rw [if_pos hk, if_pos (by omega), hk, Hstep.out]
          · rw [if_neg hk]; dsimp only
            by_cases hk2 : k < i
            · rw [if_pos hk2, if_pos (by omega)]
            · rw [if_neg hk2, if_neg (by omega)]), Hf.out.newer hoth (fun k hk => by rw [hk]; exact Hw2.out)⟩
      case measure => rw [Hg.out]; omega
    · obtain rfl : i = 16 := by omega
      have Hfin : Hid (Blk wr b2 102 16 (firstF f)) := Hc2.out.congr fun j hj => by rw [if_pos hj]
      have Hrg : Hid (wr.rangeAt b2 0 (row .i64 (fnRow 16 (firstF f)))) := Hfin.out.range 0 16 _ (by omega) (fun j _ => by rw [Nat.zero_add])
      have Hth : Hid (wr.there b1 0 (row .i64 (fnRow 16 (firstF f))).toArray.size) := by
        have := Hc1.out.there 0 16 (by omega)
        rw [List.size_toArray, frow_len]
        exact this
      have Hsz : Hid ((Try.prog.info? 102).map (·.size) = some (row .i64 (fnRow 16 (firstF f))).length) := by rw [frow_len]; exact sizeLen
      have Hb2 : Hid (Blk (wr.setCells b1 0 (row .i64 (fnRow 16 (firstF f)))) b1 102 16 (firstF f)) := (Hc1.out.setRow 0 16 (firstF f)).congr fun j hj => by rw [if_pos (by omega)]; rfl
      have Hf2 : Hid (Fr w (wr.setCells b1 0 (row .i64 (fnRow 16 (firstF f)))) (fun _ => False)) := Fr.setCells b1 (fun h => by have := Hw1.out; omega) _ _ Hf.out
      go_wp2_with (first | refine wpList_load_mid rfl 102 _ rfl b2 0 rfl (row .i64 (fnRow 16 (firstF f))) _ Hrg.out Try.underlying102 rfl Hsz.out ?_ | refine wpList_store_mid rfl 102 _ _ rfl b1 0 (row .i64 (fnRow 16 (firstF f))).toArray rfl rfl Hth.out Hsz.out (frow_one _ _) ?_)
      refine bodyPost_ret (results_cell rfl rfl (Hb2.out.load 0 (firstF f) (by omega) (fun j _ => by rw [Nat.zero_add]))) rfl ?_
      exact ⟨rfl, Hf2.out⟩

set_option maxRecDepth 4000 in
set_option maxHeartbeats 800000 in
theorem placesC_any (f : Nat → Nat) (w : World) (hf : ∀ n, n < 16 → f n ≤ 256) :
    Calls Try.prog 58 #[arr 16 f] w fun e w' => e = .returned (arr 16 (placeF f)) ∧ Fr w w' (fun _ => False) := by
  unfold arr
  have Hsm : Hid _ := hf
  clear hf
  go_enter Try.func58, Try.ntmps58
  go_wp2_with fail
  rw [z16]
  have Hf0 : Hid (Fr w (((w.alloc (.cells (row .i64 (fnRow 16 f)).toArray 102)).alloc (.cells Z16 102)).alloc (.cells Z16 102)) (fun _ => False)) := (((Fr.refl w _).alloc _).alloc _).alloc _
  have Hb0 : Hid (Blk (((w.alloc (.cells (row .i64 (fnRow 16 f)).toArray 102)).alloc (.cells Z16 102)).alloc (.cells Z16 102)) w.heap.size 102 16 f) := blk_alloc _ (blk_alloc _ (heap_alloc_new w _))
  have Hb1 : Hid (Blk (((w.alloc (.cells (row .i64 (fnRow 16 f)).toArray 102)).alloc (.cells Z16 102)).alloc (.cells Z16 102)) (w.heap.size + 1) 102 16 (fun _ => 0)) := by
    have := heap_alloc_new (w.alloc (.cells (row .i64 (fnRow 16 f)).toArray 102)) (.cells Z16 102)
    rw [show (w.alloc (.cells (row .i64 (fnRow 16 f)).toArray 102)).heap.size = w.heap.size + 1 by simp] at this
    exact blk_alloc _ this
  have Hb2 : Hid (Blk (((w.alloc (.cells (row .i64 (fnRow 16 f)).toArray 102)).alloc (.cells Z16 102)).alloc (.cells Z16 102)) (w.heap.size + 2) 102 16 (fun _ => 0)) := by
    have := heap_alloc_new ((w.alloc (.cells (row .i64 (fnRow 16 f)).toArray 102)).alloc (.cells Z16 102)) (.cells Z16 102)
    rw [show ((w.alloc (.cells (row .i64 (fnRow 16 f)).toArray 102)).alloc (.cells Z16 102)).heap.size = w.heap.size + 2 by simp] at this
    exact this
  generalize ((w.alloc (.cells (row .i64 (fnRow 16 f)).toArray 102)).alloc (.cells Z16 102)).alloc (.cells Z16 102) = w2 at *
  obtain ⟨b0, hb0⟩ : ∃ b, b = w.heap.size := ⟨_, rfl⟩
  obtain ⟨b1, hb1⟩ : ∃ b, b = w.heap.size + 1 := ⟨_, rfl⟩
  obtain ⟨b2, hb2⟩ : ∃ b, b = w.heap.size + 2 := ⟨_, rfl⟩
  rw [← hb0] at Hb0
  rw [← hb1] at Hb1
  rw [← hb2] at Hb2
  rw [← hb2, ← hb1, ← hb0]
  have Hw1 : Hid (w.heap.size ≤ b1) := by show _ ≤ _; omega
  have Hw2 : Hid (w.heap.size ≤ b2) := by show _ ≤ _; omega
  have Hne0 : Hid (b0 ≠ b2) := by show _ ≠ _; omega
  have Hne1 : Hid (b1 ≠ b2) := by show _ ≠ _; omega
  clear hb0 hb1 hb2
  go_loopg [4] 15 (fun g I wr => ∃ i : Nat, g = 16 - i ∧ 1 ≤ i ∧ i ≤ 16 ∧ I = .int .i64 (i : Int) ∧ Blk wr b0 102 16 f ∧ Blk wr b1 102 16 (fun _ => 0) ∧ Blk wr b2 102 16 (fun j => if j < i then placeF f j else 0) ∧ Fr w wr (fun _ => False))
  case atStart => exact ⟨1, rfl, by omega, by omega, rfl, Hb0.out, Hb1.out, Hb2.out.congr (fun j _ => by
    by_cases hj : j < 1
    · obtain rfl : j = 0 := by omega
      rfl
    · rw [if_neg hj]), Hf0.out⟩
  case round =>
    obtain ⟨i, hg, hi1, hi, rfl, hb0, hb1, hb2, hf⟩ := hrel
    have Hg : Hid _ := hg
    have Hc0 : Hid (Blk wr b0 102 16 f) := hb0
    have Hc1 : Hid (Blk wr b1 102 16 (fun _ => 0)) := hb1
    have Hc2 : Hid (Blk wr b2 102 16 (fun j => if j < i then placeF f j else 0)) := hb2
    have Hf : Hid _ := hf
    clear hg hb0 hb1 hb2 hf
    by_cases hlt : i < 16
    · have hi2 : (i : Int) < 16 := by omega
      obtain ⟨j, hj⟩ : ∃ j, i = j + 1 := ⟨i - 1, by omega⟩
      have hsub : IntKind.i64.wrap ((i : Int) - 1) = (j : Int) := by rw [IntWalk.i64_in _ (by omega)]; omega
      have c0 := Hc0.out.cell j (by omega)
      have c2 := Hc2.out.cell j (by omega)
      rw [if_pos (by omega)] at c2
      have hfr : Hid (∀ o, wr.frozen? ⟨b2, o, none⟩ = false) := Hc2.out.free
      have f2 := hfr.out i
      have c3 := Hc2.out.cell i hlt
      rw [if_neg (by omega)] at c3
      have hj16 : (j : Int) < 16 := by omega
      have hbx := placeF_small f Hsm.out j (by omega)
      have hby := Hsm.out j (by omega)
      have Hstep : Hid (placeF f i = placeF f j + f j) := by show _ = _; rw [hj]; rfl
      have Hset : Hid (∀ x, Blk (wr.drew.setCell ⟨b2, i, none⟩ (.int .i64 ((x : Nat) : Int))) b2 102 16 (upd (fun j => if j < i then placeF f j else 0) i x)) := fun x => Blk.set (w := wr.drew) Hc2.out i x
      have Hoth : Hid (∀ v, Fr wr (wr.drew.setCell ⟨b2, i, none⟩ v) (fun k => k = b2)) := fun v => Fr.setCell (S := fun k => k = b2) (Fr.refl wr _).drew ⟨b2, i, none⟩ (fun _ => rfl) v
      have Hj : Hid _ := hj
      generalize placeF f j = x at c2 hbx Hstep
      generalize f j = y at c0 hby Hstep
      have hw2 : IntKind.i64.wrap ((x : Int) + (y : Int)) = ((x + y : Nat) : Int) := by rw [IntWalk.i64_in _ (by omega)]; omega
      clear hj hfr
      go_wp2
      go_still_tail 11, (by kernel_rfl)
      go_wp2
      go_roundg (16 - (i + 1))
      case rel =>
        have hoth := Hoth.out (.int .i64 ((x + y : Nat) : Int))
        exact ⟨i + 1, rfl, by omega, by omega, by go_num, Hc0.out.frame hoth Hne0.out, Hc1.out.frame hoth Hne1.out, (Hset.out (x + y)).congr (fun k _ => by
          unfold upd
          by_cases hk : k = i
          · rw [if_pos hk, if_pos (by omega), hk, Hstep.out]
          · rw [if_neg hk]; dsimp only
            by_cases hk2 : k < i
            · rw [if_pos hk2, if_pos (by omega)]
            · rw [if_neg hk2, if_neg (by omega)]), Hf.out.newer hoth (fun k hk => by rw [hk]; exact Hw2.out)⟩
      case measure => rw [Hg.out]; omega
    · obtain rfl : i = 16 := by omega
      have Hfin : Hid (Blk wr b2 102 16 (placeF f)) := Hc2.out.congr fun j hj => by rw [if_pos hj]
      have Hrg : Hid (wr.rangeAt b2 0 (row .i64 (fnRow 16 (placeF f)))) := Hfin.out.range 0 16 _ (by omega) (fun j _ => by rw [Nat.zero_add])
      have Hth : Hid (wr.there b1 0 (row .i64 (fnRow 16 (placeF f))).toArray.size) := by
        have := Hc1.out.there 0 16 (by omega)
        rw [List.size_toArray, frow_len]
        exact this
      have Hsz : Hid ((Try.prog.info? 102).map (·.size) = some (row .i64 (fnRow 16 (placeF f))).length) := by rw [frow_len]; exact sizeLen
      have Hb2 : Hid (Blk (wr.setCells b1 0 (row .i64 (fnRow 16 (placeF f)))) b1 102 16 (placeF f)) := (Hc1.out.setRow 0 16 (placeF f)).congr fun j hj => by rw [if_pos (by omega)]; rfl
      have Hf2 : Hid (Fr w (wr.setCells b1 0 (row .i64 (fnRow 16 (placeF f)))) (fun _ => False)) := Fr.setCells b1 (fun h => by have := Hw1.out; omega) _ _ Hf.out
      go_wp2_with (first | refine wpList_load_mid rfl 102 _ rfl b2 0 rfl (row .i64 (fnRow 16 (placeF f))) _ Hrg.out Try.underlying102 rfl Hsz.out ?_ | refine wpList_store_mid rfl 102 _ _ rfl b1 0 (row .i64 (fnRow 16 (placeF f))).toArray rfl rfl Hth.out Hsz.out (frow_one _ _) ?_)
      refine bodyPost_ret (results_cell rfl rfl (Hb2.out.load 0 (placeF f) (by omega) (fun j _ => by rw [Nat.zero_add]))) rfl ?_
      exact ⟨rfl, Hf2.out⟩

end Go.Proofs.Ytclfbdfgmeliaaa

/-
  The contract of merge's Kraft.
-/
namespace Go.Proofs.Ytclfbdfgmeliaaa
open Go.RowKit

set_option maxRecDepth 4000 in
set_option maxHeartbeats 800000 in
theorem kraft_any (v : Value) (zs : List Int) (w : World) (h : ReadsZ w v zs) (hl : zs.length ≤ 1000000) :
    Calls Try.prog 69 #[v] w fun e w' => e = .returned (.int .i64 (kraftZ zs : Nat)) ∧ w' = w := by
  obtain ⟨a0, c0, rfl, hc0⟩ := h.form
  have Hz : Hid (ReadsZ w (.slice a0 zs.length c0) zs) := h
  obtain ⟨n, hn⟩ : ∃ n, n = zs.length := ⟨_, rfl⟩
  rw [← hn] at Hz hc0 hl ⊢
  have Hn : Hid _ := hn
  clear h hn
  go_enter Try.func69, Try.ntmps69
  go_wp2_with fail
  go_loopg [3, 8] n (fun g K I wr => ∃ i k : Nat, g = n - i ∧ i ≤ n ∧ I = .int .i64 (i : Int) ∧ K = .int .i64 (k : Int) ∧ k = kraftZ (zs.take i) ∧ wr = w)
  case atStart => exact ⟨0, 0, rfl, by omega, rfl, rfl, by simp [kraftZ], rfl⟩
  case round =>
    obtain ⟨i, k, hg, hi, rfl, rfl, hk, rfl⟩ := hrel
    have Hg : Hid _ := hg
    have Hk : Hid _ := hk
    have hkb : k ≤ 16384000000 := by
      have := kraftZ_le (zs.take i)
      rw [← hk, List.length_take, ← Hn.out] at this
      omega
    clear hg hk
    by_cases hlt : i < n
    · obtain ⟨x, hx⟩ : ∃ x, zs[i]? = some x := ⟨_, List.getElem?_eq_getElem (by rw [← Hn.out]; exact hlt)⟩
      obtain ⟨b, off, cp, e, hb0, kx⟩ := Hz.out.get i x hx
      simp only [Value.slice.injEq] at e
      obtain ⟨rfl, -, rfl⟩ := e
      have cx := kx wr (Fr.refl _ _)
      have Hst : Hid (kraftZ (zs.take (i + 1)) = k + if 1 ≤ x ∧ x ≤ 15 then 2 ^ (15 - x.toNat) else 0) := by
        show _ = _
        rw [takeZ_step hx, kraftZ_snoc, ← Hk.out]
      clear kx hx
      by_cases h1 : 1 ≤ x
      · by_cases h15 : x ≤ 15
        · obtain ⟨d, hd⟩ : ∃ d, d = 15 - x.toNat := ⟨_, rfl⟩
          have hde : 15 - x = (d : Int) := by omega
          have hd14 : d ≤ 14 := by omega
          have Hs2 : Hid (kraftZ (zs.take (i + 1)) = k + 2 ^ d) := by show _ = _; rw [Hst.out, if_pos ⟨h1, h15⟩, hd]
          have hpw : 2 ^ d ≤ 16384 := Nat.le_trans (Nat.pow_le_pow_right (by omega) hd14) (by decide)
          clear hd Hst
          go_wp2
          go_roundg (n - (i + 1))
          case rel =>
            refine ⟨i + 1, k + 2 ^ d, rfl, by omega, by go_num, ?_, Hs2.out.symm, rfl⟩
            have e1 : (2 : Int) ^ d = ((2 ^ d : Nat) : Int) := by simp
            rw [e1]
            generalize 2 ^ d = y at hpw ⊢
            rw [wrap64_small (y : Int) (by omega) (by omega), wrap64_small ((k : Int) + (y : Int)) (by omega) (by omega)]
            rfl
          case measure => rw [Hg.out]; omega
        · have Hs2 : Hid (kraftZ (zs.take (i + 1)) = k) := by show _ = _; rw [Hst.out, if_neg (by omega)]; rfl
          clear Hst
          go_wp2
          go_roundg (n - (i + 1))
          case rel => exact ⟨i + 1, k, rfl, by omega, by go_num, rfl, Hs2.out.symm, rfl⟩
          case measure => rw [Hg.out]; omega
      · have Hs2 : Hid (kraftZ (zs.take (i + 1)) = k) := by show _ = _; rw [Hst.out, if_neg (by omega)]; rfl
        clear Hst
        go_wp2
        go_roundg (n - (i + 1))
        case rel => exact ⟨i + 1, k, rfl, by omega, by go_num, rfl, Hs2.out.symm, rfl⟩
        case measure => rw [Hg.out]; omega
    · go_wp2
      go_ret
      refine ⟨?_, rfl⟩
      have : k = kraftZ zs := by rw [Hk.out, List.take_of_length_le (by rw [← Hn.out]; omega)]
      rw [← this]; rfl

end Go.Proofs.Ytclfbdfgmeliaaa

/-
  The contract of code.Right.
-/
namespace Go.Proofs.Ytclfbdfgmeliaaa
open Go.RowKit

theorem beq_16384 (k : Nat) : (((k : Nat) : Int) == 16384) = decide (k = 16384) := by
  by_cases h : k = 16384
  · subst h; rfl
  · rw [decide_eq_false h, beq_eq_false_iff_ne]; omega
/-- A single code takes half of all just if it has 1 bit. -/
theorem half_one : ∀ (zs : List Int), inZ zs = true → someZ zs = 1 → (oneZ zs = true ↔ kraftZ zs = 16384)
  | [], _, h => by simp [someZ] at h
  | z :: zs, hin, h => by
    have hz : 0 ≤ z ∧ z ≤ 15 := by
      have := List.all_eq_true.1 hin z (by simp)
      simpa using this
    have hin2 : inZ zs = true := by
      unfold inZ at hin ⊢
      rw [List.all_cons, Bool.and_eq_true] at hin
      exact hin.2
    have hs : someZ (z :: zs) = someZ zs + if 0 < z then 1 else 0 := by
      unfold someZ
      rw [List.countP_cons]
      by_cases h0 : 0 < z <;> simp [h0]
    have hk : kraftZ (z :: zs) = (if 1 ≤ z ∧ z ≤ 15 then 2 ^ (15 - z.toNat) else 0) + kraftZ zs := by unfold kraftZ; rw [List.map_cons, List.sum_cons]
    have ho : oneZ (z :: zs) = (decide (0 < z → z = 1) && oneZ zs) := by unfold oneZ; rw [List.all_cons]
    rw [hs] at h
    by_cases h0 : 0 < z
    · rw [if_pos h0] at h
      have hz0 : ∀ y ∈ zs, ¬ 0 < y := by
        have h1 : someZ zs = 0 := by omega
        unfold someZ at h1
        rw [List.countP_eq_zero] at h1
        intro y hy
        simpa using h1 y hy
      have hk0 : kraftZ zs = 0 := by
        clear h hs hk ho hin hin2
        induction zs with
        | nil => rfl
        | cons y ys ih =>
          have h1 : kraftZ (y :: ys) = (if 1 ≤ y ∧ y ≤ 15 then 2 ^ (15 - y.toNat) else 0) + kraftZ ys := by unfold kraftZ; rw [List.map_cons, List.sum_cons]
          rw [h1, if_neg (by have := hz0 y (by simp); omega), ih (fun x hx => hz0 x (by simp [hx]))]
      have ho0 : oneZ zs = true := by
        unfold oneZ
        rw [List.all_eq_true]
        intro y hy
        exact decide_eq_true fun h2 => absurd h2 (hz0 y hy)
      rw [hk, hk0, ho, ho0, if_pos ⟨by omega, hz.2⟩]
      simp only [Bool.and_true, decide_eq_true_eq, Nat.add_zero]
      obtain ⟨m, rfl⟩ := Int.eq_ofNat_of_zero_le hz.1
      have hm : m = 1 ∨ m = 2 ∨ m = 3 ∨ m = 4 ∨ m = 5 ∨ m = 6 ∨ m = 7 ∨ m = 8 ∨ m = 9 ∨ m = 10 ∨ m = 11 ∨ m = 12 ∨ m = 13 ∨ m = 14 ∨ m = 15 := by omega
      rcases hm with rfl | rfl | rfl | rfl | rfl | rfl | rfl | rfl | rfl | rfl | rfl | rfl | rfl | rfl | rfl <;> decide
    · rw [if_neg h0] at h
      rw [hk, ho, if_neg (by omega), decide_eq_true (fun h2 => absurd h2 h0), Nat.zero_add, Bool.true_and]
      exact half_one zs hin2 h
theorem right_half {zs : List Int} (hl : zs.length ≤ 256) (hin : inZ zs = true) : rightB zs = (decide (kraftZ zs = 32768) || (decide (someZ zs = 1) && decide (kraftZ zs = 16384))) := by
  unfold rightB
  rw [decide_eq_true hl, hin, Bool.true_and, Bool.true_and, Bool.or_comm]
  congr 1
  by_cases h : someZ zs = 1
  · rw [decide_eq_true h, Bool.true_and, Bool.true_and]
    have := half_one zs hin h
    by_cases h2 : kraftZ zs = 16384
    · rw [decide_eq_true h2]; exact this.2 h2
    · rw [decide_eq_false h2]
      cases h3 : oneZ zs with
      | false => rfl
      | true => exact absurd (this.1 h3) h2
  · rw [decide_eq_false h]; rfl

set_option maxRecDepth 4000 in
set_option maxHeartbeats 800000 in
theorem rightC_any (v : Value) (zs : List Int) (w : World) (h : ReadsZ w v zs) :
    Calls Try.prog 54 #[v] w fun e w' => e = .returned (.bool (rightB zs)) ∧ w' = w := by
  obtain ⟨a0, c0, rfl, hc0⟩ := h.form
  have Hz : Hid (ReadsZ w (.slice a0 zs.length c0) zs) := h
  obtain ⟨n, hn⟩ : ∃ n, n = zs.length := ⟨_, rfl⟩
  rw [← hn] at Hz hc0 ⊢
  have Hn : Hid _ := hn
  clear h hn
  go_enter Try.func54, Try.ntmps54
  by_cases h256 : 256 < n
  · have He : Hid (rightB zs = false) := by show _ = _; unfold rightB; rw [decide_eq_false (by rw [← Hn.out]; omega)]; rfl
    go_wp2_with fail
    go_ret
    exact ⟨by rw [He.out]; rfl, rfl⟩
  · go_wp2_with fail
    go_loopg [3, 12] n (fun g C I wr => ∃ (i c : Nat), g = n - i ∧ i ≤ n ∧ I = .int .i64 (i : Int) ∧ C = .int .i64 (c : Int) ∧ c = someZ (zs.take i) ∧ inZ (zs.take i) = true ∧ wr = w)
    case atStart => exact ⟨0, 0, rfl, by omega, rfl, rfl, rfl, rfl, rfl⟩
    case round =>
      obtain ⟨i, c, hg, hi, rfl, rfl, hc, hin, rfl⟩ := hrel
      have Hg : Hid _ := hg
      have Hc : Hid _ := hc
      have Hin : Hid _ := hin
      have hcb : c ≤ 256 := by have := someZ_le (zs.take i); rw [List.length_take] at this; omega
      clear hg hc hin
      by_cases hlt : i < n
      · obtain ⟨x, hx⟩ : ∃ x, zs[i]? = some x := ⟨_, List.getElem?_eq_getElem (by rw [← Hn.out]; exact hlt)⟩
        obtain ⟨b, off, cp, e, hb0, kx⟩ := Hz.out.get i x hx
        simp only [Value.slice.injEq] at e
        obtain ⟨rfl, -, rfl⟩ := e
        have cx := kx _ (Fr.refl _ _)
        have hi1 : (i : Int) < (n : Int) := by omega
        have htk := takeZ_step hx
        have Hx : Hid _ := hx
        clear kx hx
        by_cases hx0 : x < 0
        · have He : Hid (rightB zs = false) := by show _ = _; unfold rightB; rw [inZ_bad (List.mem_of_getElem? Hx.out) (.inl hx0)]; simp
          have hd1 : decide (x < 0) = true := decide_eq_true hx0
          clear htk
          go_wp2_with fail
          go_ret
          exact ⟨by rw [He.out]; rfl, rfl⟩
        · by_cases hx15 : 15 < x
          · have He : Hid (rightB zs = false) := by show _ = _; unfold rightB; rw [inZ_bad (List.mem_of_getElem? Hx.out) (.inr hx15)]; simp
            have hd1 : decide (x < 0) = false := decide_eq_false hx0
            have hd2 : decide (15 < x) = true := decide_eq_true hx15
            clear htk
            go_wp2_with fail
            go_ret
            exact ⟨by rw [He.out]; rfl, rfl⟩
          · have hd1 : decide (x < 0) = false := decide_eq_false hx0
            have hd2 : decide (15 < x) = false := decide_eq_false hx15
            have Hin2 : Hid (inZ (zs.take (i + 1)) = true) := by show _ = _; rw [htk, inZ_snoc, Hin.out, decide_eq_true ⟨by omega, by omega⟩]; rfl
            by_cases hxp : 0 < x
            · have hd3 : decide (0 < x) = true := decide_eq_true hxp
              have Hc2 : Hid (c + 1 = someZ (zs.take (i + 1))) := by show _ = _; rw [htk, someZ_snoc, if_pos hxp, ← Hc.out]
              have hcw : IntKind.i64.wrap ((c : Int) + 1) = ((c + 1 : Nat) : Int) := by rw [IntWalk.i64_in _ (by omega)]; omega
              clear htk
              go_wp2_with fail
              go_roundg (n - (i + 1))
              case rel => exact ⟨i + 1, c + 1, rfl, by omega, by go_num, by first | rfl | (rw [← hcw]), Hc2.out, Hin2.out, rfl⟩
              case measure => rw [Hg.out]; omega
            · have hd3 : decide (0 < x) = false := decide_eq_false hxp
              have Hc2 : Hid (c = someZ (zs.take (i + 1))) := by show _ = _; rw [htk, someZ_snoc, if_neg hxp, ← Hc.out]; rfl
              clear htk
              go_wp2_with fail
              go_roundg (n - (i + 1))
              case rel => exact ⟨i + 1, c, rfl, by omega, by go_num, rfl, Hc2.out, Hin2.out, rfl⟩
              case measure => rw [Hg.out]; omega
      · have htl : zs.take i = zs := List.take_of_length_le (by rw [← Hn.out]; omega)
        have hd0 : ¬ (i : Int) < (n : Int) := by omega
        have Hfin : Hid (rightB zs = (decide (kraftZ zs = 32768) || (decide (c = 1) && decide (kraftZ zs = 16384)))) := by
          show _ = _
          have h1 := Hin.out
          have h2 := Hc.out
          rw [htl] at h1 h2
          rw [right_half (by rw [← Hn.out]; omega) h1, ← h2]
        clear htl
        go_wp2_with fail
        refine (kraft_any _ zs _ Hz.out (by rw [← Hn.out]; omega)).mono ?_
        rintro e w1 ⟨rfl, rfl⟩
        generalize kraftZ zs = K at Hfin
        by_cases hK : K = 32768
        · subst hK
          have He : Hid (rightB zs = true) := by show _ = _; rw [Hfin.out]; rfl
          go_wp2_with fail
          go_ret
          exact ⟨by rw [He.out]; rfl, rfl⟩
        · have hK1 : ((K : Int) == 32768) = false := by rw [beq_eq_false_iff_ne]; omega
          by_cases hc1 : c = 1
          · subst hc1
            have He : Hid (rightB zs = decide (K = 16384)) := by show _ = _; rw [Hfin.out, decide_eq_false hK]; rfl
            by_cases hK2 : K = 16384
            · subst hK2
              go_wp2_with fail
              go_ret
              exact ⟨by rw [He.out]; rfl, rfl⟩
            · have hK3 : ((K : Int) == 16384) = false := by rw [beq_eq_false_iff_ne]; omega
              go_wp2_with fail
              go_ret
              exact ⟨by rw [He.out, decide_eq_false hK2]; rfl, rfl⟩
          · have hc2 : ((c : Int) == 1) = false := by rw [beq_eq_false_iff_ne]; omega
            have He : Hid (rightB zs = false) := by show _ = _; rw [Hfin.out, decide_eq_false hK, decide_eq_false hc1]; rfl
            go_wp2_with fail
            go_ret
            exact ⟨by rw [He.out]; rfl, rfl⟩

end Go.Proofs.Ytclfbdfgmeliaaa

/-
  The contract of code.Codes.
-/
namespace Go.Proofs.Ytclfbdfgmeliaaa
open Go.RowKit

theorem cntOf_le (l : List Nat) (h : l.length ≤ 256) (n : Nat) : cntOf l n ≤ 256 := Nat.le_trans (cntTo_le l _ n) h

set_option maxRecDepth 4000 in
set_option maxHeartbeats 800000 in
theorem codesC_any (v : Value) (zs : List Int) (w : World) (h : ReadsZ w v zs) :
    Calls Try.prog 57 #[v] w fun e w' => ∃ sv, e = .returned sv ∧ Reads .i64 w' sv (codesZ zs) ∧ Fr w w' (fun _ => False) ∧ (∀ k, sv.ownBlock = some k → w.heap.size ≤ k) := by
  obtain ⟨a0, c0, rfl, hc0⟩ := h.form
  have Hz : Hid (ReadsZ w (.slice a0 zs.length c0) zs) := h
  obtain ⟨n, hn⟩ : ∃ n, n = zs.length := ⟨_, rfl⟩
  rw [← hn] at Hz hc0 ⊢
  have Hn : Hid _ := hn
  clear h hn
  go_enter Try.func57, Try.ntmps57
  go_wp2_with fail
  refine (rightC_any _ zs _ Hz.out).mono ?_
  rintro e w0 ⟨rfl, rfl⟩
  cases hr : rightB zs with
  | false =>
    have He : Hid (codesZ zs = []) := by show _ = _; unfold codesZ; rw [hr]; rfl
    go_wp2_with fail
    go_ret
    refine ⟨_, rfl, ?_, Fr.refl _ _, fun k hk => by simp [Value.ownBlock] at hk⟩
    rw [He.out]
    exact holds_own (World.ownsRow_nil w0 0 0 1)
  | true =>
    have Hcz : Hid (codesZ zs = fnRow n (codeOf (nats zs))) := by show _ = _; unfold codesZ; rw [if_pos hr, Hn.out]; rfl
    have hin := rightB_in hr
    have hn256 : n ≤ 256 := by rw [Hn.out]; exact rightB_len hr
    have Hin : Hid _ := hin
    have Hget : Hid _ := get_nats hin
    have H15 : Hid _ := nats_15 hin
    have Hln : Hid ((nats zs).length = n) := by show _ = _; rw [nats_length, ← Hn.out]
    have Hcl : Hid (∀ s, codeOf (nats zs) s < 32768) := fun s => by
      have hR := right_nats hr
      rcases Nat.eq_zero_or_pos (ln (nats zs) s) with h0 | h0
      · unfold codeOf; rw [if_pos h0]; decide
      · exact Nat.lt_of_lt_of_le (code_lt hR.ln hR.kraft h0) (Nat.le_trans (Nat.pow_le_pow_right (by omega) (hR.ln s)) (by decide))
    clear hr hin
    go_wp2_with fail
    refine (tallyC_any _ zs _ Hz.out Hin.out (by rw [← Hn.out]; exact hn256)).mono ?_
    rintro e w1 ⟨rfl, hf1⟩
    go_wp2_with fail
    refine (firstsC_any (cntOf (nats zs)) w1 (fun m _ => cntOf_le _ (by rw [Hln.out]; exact hn256) m)).mono ?_
    rintro e w2 ⟨rfl, hf2⟩
    replace hf2 := hf1.none hf2
    rw [← Hn.out] at Hget
    generalize nats zs = l at Hget H15 Hln Hcl Hcz ⊢
    unfold arr
    obtain ⟨A, hA⟩ : ∃ A, A = (row .i64 (fnRow 16 (firstF (cntOf l)))).toArray := ⟨_, rfl⟩
    rw [← hA]
    have Hth : Hid ((w2.alloc (.cells Z16 102)).there w2.heap.size 0 A.size) := by
      have := Blk.there (w := w2.alloc (.cells Z16 102)) (b := w2.heap.size) (t := 102) (n := 16) (f := fun _ => 0) (heap_alloc_new w2 _) 0 16 (by omega)
      have e : A.size = 16 := by rw [hA, List.size_toArray, frow_len]
      rw [e]
      exact this
    have Hsz : Hid ((Try.prog.info? 102).map (·.size) = some A.size) := by rw [hA, List.size_toArray, frow_len]; exact sizeLen
    have Hone : Hid (A.all (·.oneCell') = true) := by show _ = true; rw [hA]; exact frow_one _ _
    have HA : Hid _ := hA
    have HB3 : Hid (Blk ((w2.alloc (.cells Z16 102)).setCells w2.heap.size 0 A.toList) w2.heap.size 102 16 (firstF (cntOf l))) := by
      rw [hA]
      exact (Blk.setRow (w := w2.alloc (.cells Z16 102)) (n := 16) (f := fun _ => 0) (heap_alloc_new w2 _) 0 16 (firstF (cntOf l))).congr fun j hj => by rw [if_pos (by omega)]; rfl
    have Hf3 : Hid (Fr w2 ((w2.alloc (.cells Z16 102)).setCells w2.heap.size 0 A.toList) (fun _ => False)) := Fr.setCells _ (fun h => by omega) _ _ ((Fr.refl w2 _).alloc _)
    clear hf1 hA
    obtain ⟨i0, hi0, hz0, hz1, hz2⟩ := info_parts infoIntC
    go_wp2_with (first | (at_make; refine wpList_make_full _ rfl _ _ 28 rfl 0 3 i0 (.int .i64 0) 1 Try.underlying28 hi0 hz0 hz1 _ _ _ _ n rfl rfl rfl rfl ?b1 ?b2 (Nat.zero_le _) ?_) | refine wpList_store_mid rfl 102 (.tmp 3) (.tmp 12) rfl w2.heap.size 0 A rfl rfl Hth.out Hsz.out Hone.out ?_)
    case b1 => rw [hz2]; omega
    case b2 => unfold maxLen; omega
    rw [z16]
    generalize (w2.alloc (.cells Z16 102)).setCells w2.heap.size 0 A.toList = w3 at HB3 Hf3 ⊢
    intro wm hown hgrow
    rw [zeros_fnRow] at hown
    have hfm : Fr w3 wm (fun _ => False) := (Fr.refl w3 _).grown hgrow (fun k hk => by cases hk)
    obtain ⟨g, hg⟩ : ∃ g, g = w3.heap.size := ⟨_, rfl⟩
    obtain ⟨b, hb⟩ : ∃ b, b = w2.heap.size := ⟨_, rfl⟩
    rw [← hg] at hown ⊢
    rw [← hb] at HB3 ⊢
    have hbl := HB3.out.lt
    have Hbg : Hid (b ≠ g) := by show _ ≠ _; omega
    have Hbw : Hid (w0.heap.size ≤ b) := by show _ ≤ _; have := hf2.size; omega
    have Hgw : Hid (w0.heap.size ≤ g) := by show _ ≤ _; have := hf2.size; have := Hf3.out.size; omega
    have Hb0 : Hid (Blk wm b 102 16 (fun m => firstF (cntOf l) m + cntTo l 0 m)) := (HB3.out.frame hfm (fun h => h)).congr fun j _ => by rw [cntTo_zero]; rfl
    have Hown : Hid (OwnC wm (.slice (some ⟨g, 0, none⟩) n n) (fnRow n (fun t => if t < 0 then codeOf l t else 0))) := by
      have e : fnRow n (fun t => if t < 0 then codeOf l t else 0) = fnRow n (fun _ => 0) := fnRow_congr n fun t _ => by rw [if_neg (by omega)]
      rw [e]
      unfold OwnC
      rw [fnRow_length]
      exact hown
    have Hf0 : Hid (Fr w0 wm (fun _ => False)) := (hf2.none Hf3.out).none hfm
    clear hown hgrow hfm hg hb hbl HB3 Hf3 hf2 Hth Hone HA Hsz hi0 hz0 hz1 hz2
    go_wp2_with fail
    go_loopg [18] n (fun g' I wr => ∃ i : Nat, g' = n - i ∧ i ≤ n ∧ I = .int .i64 (i : Int) ∧ OwnC wr (.slice (some ⟨g, 0, none⟩) n n) (fnRow n (fun t => if t < i then codeOf l t else 0)) ∧ Blk wr b 102 16 (fun m => firstF (cntOf l) m + cntTo l i m) ∧ Fr w0 wr (fun _ => False))
    case atStart => exact ⟨0, rfl, by omega, rfl, Hown.out, Hb0.out, Hf0.out⟩
    case round =>
      obtain ⟨i, hg', hi, rfl, ho, hb, hf⟩ := hrel
      have Hg' : Hid _ := hg'
      have Ho : Hid (OwnC wr (.slice (some ⟨g, 0, none⟩) n n) (fnRow n (fun t => if t < i then codeOf l t else 0))) := ho
      have Hb : Hid (Blk wr b 102 16 (fun m => firstF (cntOf l) m + cntTo l i m)) := hb
      have Hf : Hid (Fr w0 wr (fun _ => False)) := hf
      clear hg' ho hb hf
      by_cases hlt : i < n
      · obtain ⟨bx, off, cp, e, hb0, kx⟩ := (Hz.out.keep Hf.out).get i _ (Hget.out i hlt)
        simp only [Value.slice.injEq] at e
        obtain ⟨rfl, -, rfl⟩ := e
        have cx := kx _ (Fr.refl _ _)
        have hi1 : (i : Int) < (n : Int) := by omega
        clear kx hb0
        obtain ⟨y, hy⟩ : ∃ y, y = ln l i := ⟨_, rfl⟩
        have hy15 := H15.out i
        rw [← hy] at cx hy15
        have Hst : Hid (∀ m, cntTo l (i + 1) m = cntTo l i m + if y = m ∧ 0 < m then 1 else 0) := fun m => by rw [hy]; exact cntTo_step l i m (by rw [Hln.out]; exact hlt)
        have Hcode : Hid (codeOf l i = if y = 0 then 0 else firstF (cntOf l) y + cntTo l i y) := by
          show _ = _
          by_cases h0 : y = 0
          · rw [if_pos h0]; unfold codeOf; rw [← hy, if_pos h0]
          · rw [if_neg h0, hy]; exact code_cnt H15.out (by omega)
        clear hy
        by_cases hy0 : 0 < y
        · have hcl := Hcl.out i
          have hcode := Hcode.out
          rw [if_neg (by omega)] at hcode
          have cb := Hb.out.cell y (by omega)
          rw [← hcode] at cb
          have hoc := Ho.out
          unfold OwnC at hoc
          rw [fnRow_length] at hoc
          have hfz := World.ownsRow.frozenAt hoc i
          have hce : wr.cell? ⟨g, i, none⟩ = some (.int .i64 (0 : Int)) := by
            rw [World.ownsRow.cellAt hoc i (by omega)]
            simp [row, fnRow, hlt]
          have Hst2 : Hid (OwnC (wr.setCell ⟨g, i, none⟩ (.int .i64 ((codeOf l i : Nat) : Int))) (.slice (some ⟨g, 0, none⟩) n n) (fnRow n (fun t => if t < i + 1 then codeOf l t else 0))) := by
            have := (World.ownsRow.stored hoc i (.int .i64 ((codeOf l i : Nat) : Int))).1
            unfold OwnC
            rw [fnRow_length]
            have e : (fnRow n (fun t => if t < i then codeOf l t else 0)).set i (codeOf l i) = fnRow n (fun t => if t < i + 1 then codeOf l t else 0) := fnRow_set n _ _ i _ (by rw [if_pos (by omega)]) (fun t ht => by
              by_cases h2 : t < i
              · rw [if_pos h2, if_pos (by omega)]
              · rw [if_neg h2, if_neg (by omega)])
            rw [← e, row_set]
            exact this
          have Hb2 : Hid (∀ v, Blk (wr.setCell ⟨g, i, none⟩ v) b 102 16 (fun m => firstF (cntOf l) m + cntTo l i m)) := fun v => Hb.out.frame (Fr.setCell (S := fun k => k = g) (Fr.refl wr _) ⟨g, i, none⟩ (fun _ => rfl) v) Hbg.out
          have cb2 : ∀ v, (wr.setCell ⟨g, i, none⟩ v).cell? ⟨b, y, none⟩ = some (.int .i64 ((codeOf l i : Nat) : Int)) := fun v => by rw [hcode]; exact (Hb2.out v).cell y (by omega)
          have fb2 : ∀ v, (wr.setCell ⟨g, i, none⟩ v).frozen? ⟨b, y, none⟩ = false := fun v => (Hb2.out v).free y
          have Hb3 : Hid (Blk ((wr.setCell ⟨g, i, none⟩ (.int .i64 ((codeOf l i : Nat) : Int))).setCell ⟨b, y, none⟩ (.int .i64 ((codeOf l i + 1 : Nat) : Int))) b 102 16 (fun m => firstF (cntOf l) m + cntTo l (i + 1) m)) := ((Hb2.out _).set y (codeOf l i + 1)).congr fun m _ => by
            unfold upd
            rw [Hst.out m]
            by_cases hm : m = y
            · subst hm; rw [if_pos rfl, if_pos ⟨rfl, hy0⟩, hcode]; omega
            · rw [if_neg hm, if_neg (fun h => hm h.1.symm)]; rfl
          have Ho3 : Hid (OwnC ((wr.setCell ⟨g, i, none⟩ (.int .i64 ((codeOf l i : Nat) : Int))).setCell ⟨b, y, none⟩ (.int .i64 ((codeOf l i + 1 : Nat) : Int))) (.slice (some ⟨g, 0, none⟩) n n) (fnRow n (fun t => if t < i + 1 then codeOf l t else 0))) := by
            refine Fr.owns (Fr.setCell (S := fun k => k = b) (Fr.refl _ _) ⟨b, y, none⟩ (fun _ => rfl) _) Hst2.out (fun k hk => ?_)
            simp [Value.ownBlock] at hk
            subst hk
            exact fun h => Hbg.out h.symm
          have Hf3 : Hid (Fr w0 ((wr.setCell ⟨g, i, none⟩ (.int .i64 ((codeOf l i : Nat) : Int))).setCell ⟨b, y, none⟩ (.int .i64 ((codeOf l i + 1 : Nat) : Int))) (fun _ => False)) :=
            (Hf.out.setCell ⟨g, i, none⟩ (fun h => by have := Hgw.out; simp at h; omega) _).setCell ⟨b, y, none⟩ (fun h => by have := Hbw.out; simp at h; omega) _
          generalize codeOf l i = c at hcl cb cb2 Hb3 Ho3 Hf3
          have hcw : IntKind.i64.wrap ((c : Int) + 1) = ((c + 1 : Nat) : Int) := by rw [IntWalk.i64_in _ (by omega)]; omega
          have hy1 : (y : Int) < 16 := by omega
          have hy2 : (0 : Int) < (y : Int) := by omega
          clear hcode hoc Hst2
          go_wp2_with fail
          go_roundg (n - (i + 1))
          case rel => exact ⟨i + 1, rfl, by omega, by go_num, Ho3.out, Hb3.out, Hf3.out⟩
          case measure => rw [Hg'.out]; omega
        · have hy2 : ¬ (0 : Int) < (y : Int) := by omega
          have Ho2 : Hid (OwnC wr (.slice (some ⟨g, 0, none⟩) n n) (fnRow n (fun t => if t < i + 1 then codeOf l t else 0))) := by
            have e : fnRow n (fun t => if t < i then codeOf l t else 0) = fnRow n (fun t => if t < i + 1 then codeOf l t else 0) := fnRow_congr n fun t _ => by
              by_cases h2 : t < i
              · rw [if_pos h2, if_pos (by omega)]
              · rw [if_neg h2]
                by_cases h3 : t = i
                · subst h3; rw [if_pos (by omega), Hcode.out, if_pos (by omega)]
                · rw [if_neg (by omega)]
            rw [← e]
            exact Ho.out
          have Hb2 : Hid (Blk wr b 102 16 (fun m => firstF (cntOf l) m + cntTo l (i + 1) m)) := Hb.out.congr fun m _ => by rw [Hst.out m, if_neg (by omega)]; rfl
          go_wp2_with fail
          go_roundg (n - (i + 1))
          case rel => exact ⟨i + 1, rfl, by omega, by go_num, Ho2.out, Hb2.out, Hf.out⟩
          case measure => rw [Hg'.out]; omega
      · have hie : i = n := by omega
        have hi1 : ¬ (i : Int) < (n : Int) := by omega
        have Hrow : Hid (fnRow n (fun t => if t < i then codeOf l t else 0) = fnRow n (codeOf l)) := fnRow_congr n fun t ht => by rw [if_pos (by omega)]
        clear hie
        go_wp2_with fail
        go_ret
        refine ⟨_, rfl, ?_, Hf.out, fun k hk => by simp [Value.ownBlock] at hk; rw [← hk]; exact Hgw.out⟩
        rw [Hcz.out, ← Hrow.out]
        exact holds_own Ho.out

end Go.Proofs.Ytclfbdfgmeliaaa

/-
  The bits of a symbol: plain mathematics, no program (for a seat without the reference's PutCode).
-/
namespace Go.Proofs.Ytclfbdfgmeliaaa
open Go.RowKit

/-- Has a code. -/
def hasCode (l : List Nat) (s : Int) : Bool := decide (0 ≤ s ∧ 0 < ln l s.toNat)
/-- The bits of a symbol; none of one without a code. -/
def codeBits (l : List Nat) (s : Int) : List Bool := if hasCode l s = true then putBits (codeOf l s.toNat) (ln l s.toNat) else []

end Go.Proofs.Ytclfbdfgmeliaaa

/-
  Tables of package code in memory; the contract of Put.
-/
namespace Go.Proofs.Ytclfbdfgmeliaaa
open Go.RowKit

/-- What a table of lengths holds. -/
structure TabOk (l : List Nat) (f : Nat → Nat) : Prop where
  len : ∀ s, s < 256 → f s = ln l s
  code : ∀ s, s < 256 → f (256 + s) = codeOf l s
  ord : ∀ s, 0 < ln l s → f (512 + rk l s) = s
  cnt : ∀ n, n < 16 → f (768 + n) = cntOf l n
  fst : ∀ n, n < 16 → f (784 + n) = firstF (cntOf l) n
/-- A table in memory. -/
def Tab (w : World) (p : Nat) (zs : List Int) (F : Nat → Prop) : Prop := F = (fun k => k = p) ∧ ∃ f, Blk w p 107 800 f ∧ TabOk (nats zs) f
theorem Tab.lt {w : World} {p : Nat} {zs : List Int} {F : Nat → Prop} (h : Tab w p zs F) : ∀ k, F k → k < w.heap.size := by
  obtain ⟨rfl, f, hb, -⟩ := h
  rintro k rfl
  exact hb.lt
theorem Tab.frame {w w' : World} {p : Nat} {zs : List Int} {F S : Nat → Prop} (h : Tab w p zs F) (hf : Fr w w' S) (hs : ∀ k, F k → ¬ S k) : Tab w' p zs F := by
  obtain ⟨rfl, f, hb, hk⟩ := h
  exact ⟨rfl, f, hb.frame hf (hs p rfl), hk⟩

set_option maxRecDepth 4000 in
set_option maxHeartbeats 800000 in
theorem putC_any (p q : Nat) (sv : Value) (bl : List Bool) (zs : List Int) (F : Nat → Prop) (s : Int) (w : World) (ht : Tab w p zs F) (hr : rightB zs = true) (hw : Wr w q sv bl) (hn : bl.length ≤ 100000000) (hap : ∀ k, F k → ¬ foot q sv k) :
    Calls Try.prog 40 #[.pointer (some ⟨p, 0, none⟩), .pointer (some ⟨q, 0, none⟩), .int .i64 s] w fun e w' => e = .returned (.bool (hasCode (nats zs) s)) ∧
      ∃ sv', Wr w' q sv' (bl ++ codeBits (nats zs) s) ∧ Fr w w' (foot q sv) ∧ Moved w sv sv' := by
  obtain ⟨rfl, f, hb, hok⟩ := ht
  have hpq : ¬ foot q sv p := hap p rfl
  have hR := right_nats hr
  obtain ⟨l, hl⟩ : ∃ l, l = nats zs := ⟨_, rfl⟩
  rw [← hl] at hR hok ⊢
  have HR : Hid _ := hR
  have Hok : Hid _ := hok
  have Hb : Hid (Blk w p 107 800 f) := hb
  have Hw : Hid (Wr w q sv bl) := hw
  clear hR hok hb hw hl hr hap
  have hno : hasCode l s = false → Hid (∃ sv', Wr w q sv' (bl ++ codeBits l s) ∧ Fr w w (foot q sv) ∧ Moved w sv sv') := fun e => ⟨sv, by unfold codeBits; rw [e]; simpa using Hw.out, Fr.refl _ _, Moved.refl _ _⟩
  go_enter Try.func40, Try.ntmps40
  by_cases hs0 : s < 0
  · have he : hasCode l s = false := decide_eq_false (by omega)
    have Hno := hno he
    have Hhc : Hid _ := he
    have hd : decide (s < 0) = true := decide_eq_true hs0
    clear hno he
    go_wp2_with fail
    go_ret
    exact ⟨by rw [Hhc.out]; rfl, Hno.out⟩
  · obtain ⟨t, rfl⟩ := Int.eq_ofNat_of_zero_le (by omega : 0 ≤ s)
    have hd : decide ((t : Int) < 0) = false := decide_eq_false (by omega)
    by_cases ht : 256 ≤ t
    · have hl0 : ln l t = 0 := by
        rcases Nat.eq_zero_or_pos (ln l t) with h | h
        · exact h
        · have := ln_lt h; have := HR.out.most; omega
      have he : hasCode l (t : Int) = false := decide_eq_false (by rw [show ((t : Int)).toNat = t by omega, hl0]; omega)
      have Hno := hno he
      have Hhc : Hid _ := he
      have hd2 : decide ((256 : Int) ≤ (t : Int)) = true := decide_eq_true (by omega)
      clear hno he hl0
      go_wp2_with fail
      go_ret
      exact ⟨by rw [Hhc.out]; rfl, Hno.out⟩
    · have hd2 : decide ((256 : Int) ≤ (t : Int)) = false := decide_eq_false (by omega)
      have ht1 : (t : Int) < 256 := by omega
      have cx := Hb.out.cell t (by omega)
      have cc := Hb.out.cell (256 + t) (by omega)
      rw [Hok.out.len t (by omega)] at cx
      rw [Hok.out.code t (by omega)] at cc
      obtain ⟨y, hy⟩ : ∃ y, y = ln l t := ⟨_, rfl⟩
      rw [← hy] at cx
      have Hy : Hid _ := hy
      by_cases hy0 : y = 0
      · have he : hasCode l (t : Int) = false := decide_eq_false (by rw [show ((t : Int)).toNat = t by omega, ← hy]; omega)
        have Hno := hno he
        have Hhc : Hid _ := he
        subst hy0
        clear hno he hy
        go_wp2_with fail
        go_ret
        exact ⟨by rw [Hhc.out]; rfl, Hno.out⟩
      · have Hhc : Hid (hasCode l (t : Int) = true) := decide_eq_true (by rw [show ((t : Int)).toNat = t by omega, ← hy]; omega)
        have hy1 : ((y : Int) == 0) = false := by rw [beq_eq_false_iff_ne]; omega
        have hlt := code_lt HR.out.ln HR.out.kraft (s := t) (by rw [← Hy.out]; omega)
        have hcb : codeOf l t < 32768 := Nat.lt_of_lt_of_le hlt (Nat.le_trans (Nat.pow_le_pow_right (by omega) (HR.out.ln t)) (by decide))
        have hy15 : y ≤ 15 := by rw [Hy.out]; exact HR.out.ln t
        have Hbits : Hid (codeBits l (t : Int) = putBits (codeOf l t) (wide (y : Int))) := by
          show _ = _
          unfold codeBits
          rw [if_pos Hhc.out, show ((t : Int)).toNat = t by omega, ← Hy.out]
          congr 1
          unfold wide
          omega
        clear hno hy
        have kx : ∀ x, Fr w.drew x (foot q sv) → x.cell? ⟨p, t, none⟩ = some (.int .i64 (y : Int)) := fun x hx => by
          rw [World.cell?_of_block (w := w) (hx.block p Hb.out.lt hpq)]
          exact cx
        have kc : ∀ x, Fr w.drew x (foot q sv) → x.cell? ⟨p, 256 + t, none⟩ = some (.int .i64 ((codeOf l t : Nat) : Int)) := fun x hx => by
          rw [World.cell?_of_block (w := w) (hx.block p Hb.out.lt hpq)]
          exact cc
        generalize codeOf l t = C at hlt hcb Hbits kc cc
        have hcw : IntKind.u64.wrap (C : Int) = (C : Int) := by rw [IntKind.wrap_u64]; omega
        clear cc hlt
        go_wp2
        refine wp_region_tree (foot q sv) (.take 0 (.take 1 (.take 2 (.take 3 (.take 4 (.take 5 (.take 6 (.take 7 (.take 8 (.take 9 (.take 10 (.take 11 (.take 12 (.take 13 (.one 14 .nil))))))))))))))) (by kernel_rfl) (by kernel_rfl) (by decide) (by kernel_rfl) ?_
        repeat (refine wpT_take (v := ?_) rfl rfl (fun x hx => ?_) ?_; rotate_left; (focus (go_simp; with_reducible rfl)); simp only [Act.put, List.setIfInBounds_toArray, List.set_cons_zero, List.set_cons_succ])
        refine wpT_one rfl rfl (fun K hK => ?_)
        go_simp
        refine (put_any q sv bl C (y : Int) w.drew (Hw.out.frame (Fr.refl w (fun _ => False)).drew (fun _ _ h => h)) (by omega) (by omega)).mono ?_
        rintro e w2 ⟨rfl, sv2, hwr2, hf2, hm2⟩
        refine hK _ _ hf2 ?_
        clear hK K
        unfold wpT
        go_wp2
        go_ret
        refine ⟨by rw [Hhc.out]; rfl, sv2, by rw [Hbits.out]; exact hwr2, ?_, hm2⟩
        exact ((Fr.refl w (foot q sv)).drew).trans hf2 (fun _ _ h => h)

end Go.Proofs.Ytclfbdfgmeliaaa

/-
  The contract of code's Take.
-/
namespace Go.Proofs.Ytclfbdfgmeliaaa
open Go.RowKit

theorem Rd.copyT {T : TypeId} {w w' : World} {p q : Nat} {sv : Value} {bs : List Nat} {i : Nat} {S : Nat → Prop} (h : Rd T w p sv bs i) (f : Fr w w' S) (hs : ∀ k, k < w.heap.size → ¬ S k) (hq : w.heap.size ≤ q)
    (hb : w'.heap[q]? = some (.cells #[sv, .int .i64 (i : Int)] T (0, 0))) : Rd T w' q sv bs i := by
  obtain ⟨hp, hr, hi, hl, hsm, hne⟩ := h
  have hlt : 0 < bs.length → ∀ k, sv.ownBlock = some k → k < w.heap.size := by
    intro h0 k hk
    obtain ⟨ao, cap, rfl, hc⟩ := hr
    obtain ⟨b, off, rfl, hcell⟩ := hc h0
    simp [Value.ownBlock] at hk
    subst hk
    exact World.block_lt_of_cell? _ _ (hcell 0 _ (row_get .u8 bs 0 h0))
  refine ⟨hb, hr.frame' f (fun h0 k hk => hs k (hlt h0 k hk)), hi, hl, hsm, fun h0 e => ?_⟩
  have := hlt h0 _ e
  omega
theorem or_i64 (v d : Nat) (hv : v < 32768) (hd : d ≤ 1) : Go.bits .or .i64 ((v : Int) * 2) (d : Int) = ((2 * v + d : Nat) : Int) := by
  rw [show (v : Int) * 2 = ((2 * v : Nat) : Int) by omega]
  show IntKind.i64.wrap ((BitVec.ofInt 64 ((2 * v : Nat) : Int) ||| BitVec.ofInt 64 (d : Int)).toNat : Int) = _
  rw [BitVec.toNat_or, ofInt_u64 _ (by omega), ofInt_u64 _ (by omega), nat_join1 _ _ (by omega) (by omega), IntWalk.i64_in _ (by omega)]
theorem seek_miss {l : List Nat} {bits : List Bool} {n f : Nat} (hb : n ≤ bits.length) (h : findSym l n (num (bits.take n)) = none) : seekSym l bits n (f + 1) = seekSym l bits (n + 1) f := by
  rw [seekSym, if_neg (by omega), h]
theorem seek_hit {l : List Nat} {bits : List Bool} {n f s : Nat} (hb : n ≤ bits.length) (h : findSym l n (num (bits.take n)) = some s) : seekSym l bits n (f + 1) = some (s, n) := by
  rw [seekSym, if_neg (by omega), h]
theorem seek_short {l : List Nat} {bits : List Bool} {n f : Nat} (hb : bits.length < n) : seekSym l bits n (f + 1) = none := by
  rw [seekSym, if_pos hb]

set_option maxRecDepth 4000 in
set_option maxHeartbeats 800000 in
theorem takeC_any (p q : Nat) (sv : Value) (bs : List Nat) (i : Nat) (zs : List Int) (F : Nat → Prop) (w : World) (ht : Tab w p zs F) (hr : rightB zs = true) (h : Rd 124 w q sv bs i) (hap : ∀ k, F k → ¬ foot q sv k) :
    Calls Try.prog 64 #[.pointer (some ⟨p, 0, none⟩), .pointer (some ⟨q, 0, none⟩)] w fun e w' => e = .returned (.tuple #[.int .i64 (tkS (nats zs) ((unpack bs).drop i) : Nat), .bool (tkB (nats zs) ((unpack bs).drop i))]) ∧
      Rd 124 w' q sv bs (i + tkN (nats zs) ((unpack bs).drop i)) ∧ Fr w w' (fun k => k = q) := by
  obtain ⟨rfl, f, hb, hok⟩ := ht
  have hpq : p ≠ q := fun e => hap p rfl (.inl e)
  have hR := right_nats hr
  obtain ⟨l, hl⟩ : ∃ l, l = nats zs := ⟨_, rfl⟩
  rw [← hl] at hR hok ⊢
  obtain ⟨ao, le, cap, rfl⟩ : ∃ ao le cap, sv = .slice ao le cap := by
    obtain ⟨_, ⟨ao, cap, e, _⟩, _⟩ := h
    exact ⟨_, _, _, e⟩
  have c0 := two_cell0 h.1
  have c1 := two_cell1 h.1
  have hql := lt_of_block h.1
  have hib : i ≤ 8 * bs.length := h.2.2.1
  have hbl : bs.length ≤ 100000000000 := h.2.2.2.1
  have hq : Rd 124 (w.alloc (.cells #[.slice ao le cap, .int .i64 (i : Int)] 124)) w.heap.size (.slice ao le cap) bs i :=
    h.copyT ((Fr.refl w (fun _ => False)).alloc _) (fun _ _ h => h) (Nat.le_refl _) (heap_alloc_new w _)
  have hf0 : Fr w (w.alloc (.cells #[.slice ao le cap, .int .i64 (i : Int)] 124)) (fun _ => False) := (Fr.refl w (fun _ => False)).alloc _
  obtain ⟨bits, hbits⟩ : ∃ bits, bits = (unpack bs).drop i := ⟨_, rfl⟩
  rw [← hbits]
  have Hbits : Hid _ := hbits
  have Hbl : Hid (bits.length = 8 * bs.length - i) := by show _ = _; rw [hbits, List.length_drop, length_unpack]
  have HR : Hid _ := hR
  have Hok : Hid _ := hok
  have Hb : Hid (Blk w p 107 800 f) := hb
  have Hh : Hid (Rd 124 w q (.slice ao le cap) bs i) := h
  clear hR hok hb hl hr hap hbits h
  go_enter Try.func64, Try.ntmps64
  go_wp2_with fail
  generalize w.alloc (.cells #[.slice ao le cap, .int .i64 (i : Int)] 124) = wa at *
  obtain ⟨a, ha⟩ : ∃ a, a = w.heap.size := ⟨_, rfl⟩
  rw [← ha] at hq hql ⊢
  have Ha : Hid (a = w.heap.size) := ha
  have Hq : Hid (Rd 124 wa a (.slice ao le cap) bs i) := hq
  have Hf0 : Hid (Fr w wa (fun _ => False)) := hf0
  clear ha c0 c1 hq hf0
  go_loopg [7, 8, 9] 15 (fun g V P J wr => ∃ (j v pl : Nat), g = 16 - j ∧ 1 ≤ j ∧ j ≤ 16 ∧ J = .int .i64 (j : Int) ∧ V = .int .i64 (v : Int) ∧ P = .int .i64 (pl : Int) ∧ v = num (bits.take (j - 1)) ∧ pl = placeF (cntOf l) j ∧ firstF (cntOf l) j ≤ 2 * v ∧ j - 1 ≤ bits.length ∧ seekSym l bits j (16 - j) = takeSym l bits ∧ Rd 124 wr a (.slice ao le cap) bs (i + (j - 1)) ∧ Fr w wr (fun _ => False))
  case atStart => exact ⟨1, 0, 0, rfl, by omega, by omega, rfl, rfl, rfl, by simp [num, numFrom], rfl, by simp [firstF, cntOf, cntTo], by omega, rfl, Hq.out, Hf0.out⟩
  case round =>
    obtain ⟨j, v, pl, hg, hj1, hj16, rfl, rfl, rfl, hv, hpl, hfv, hjb, hsk, hrd, hf⟩ := hrel
    have Hg : Hid _ := hg
    have Hv : Hid _ := hv
    have Hpl : Hid _ := hpl
    have Hsk : Hid _ := hsk
    have Hfv : Hid _ := hfv
    have Hrd : Hid (Rd 124 wr a (.slice ao le cap) bs (i + (j - 1))) := hrd
    have Hf : Hid (Fr w wr (fun _ => False)) := hf
    have hvb : v < 32768 := by
      have h1 := num_lt (bits.take (j - 1))
      rw [← hv, List.length_take] at h1
      refine Nat.lt_of_lt_of_le h1 (Nat.le_trans (Nat.pow_le_pow_right (by omega) (by omega : min (j - 1) bits.length ≤ 15)) (by decide))
    have Hsm : Hid (∀ n, n < 16 → cntOf l n ≤ 256) := fun n _ => cntOf_le l HR.out.most n
    have hplb : pl ≤ 4096 := by
      have := placeF_small (cntOf l) Hsm.out j hj16
      omega
    clear hg hv hpl hsk hfv hrd hf
    have Hnone : Hid (∀ w1, Fr w w1 (fun _ => False) → takeSym l bits = none → tkS l bits = 0 ∧ tkB l bits = false ∧ Rd 124 w1 q (.slice ao le cap) bs (i + tkN l bits) ∧ Fr w w1 (fun k => k = q)) := fun w1 hf1 hn => by
      have e : tkN l bits = 0 := by unfold tkN; rw [hn]; rfl
      refine ⟨by unfold tkS; rw [hn]; rfl, by unfold tkB; rw [hn]; rfl, ?_, hf1.mono (fun _ _ h => h.elim)⟩
      rw [e, Nat.add_zero]
      exact Hh.out.frame hf1 (fun _ _ h => h)
    by_cases hj : j ≤ 15
    · have hj2 : (j : Int) ≤ 15 := by omega
      go_wp2_with fail
      have hw1 : wide 1 = 1 := by decide
      by_cases hlt : i + (j - 1) < 8 * bs.length
      · refine (take_yes a _ bs (i + (j - 1)) 1 wr Hrd.out (by rw [hw1]; omega)).mono ?_
        rintro e w1 ⟨rfl, hr1, hf1⟩
        rw [hw1] at hr1 ⊢
        have hV : num (((unpack bs).drop (i + (j - 1))).take 1) = (bitAt bs (i + (j - 1))).toNat := took_one bs _ _ (get_unpack bs _ hlt)
        rw [hV]
        have hbt : bits[j - 1]? = some (bitAt bs (i + (j - 1))) := by rw [Hbits.out, List.getElem?_drop, get_unpack bs _ hlt]
        have hnx := num_next bits (j - 1) _ hbt
        rw [show j - 1 + 1 = j by omega, ← Hv.out] at hnx
        obtain ⟨d, hd⟩ : ∃ d, d = (bitAt bs (i + (j - 1))).toNat := ⟨_, rfl⟩
        have hd1 : d ≤ 1 := by rw [hd]; cases bitAt bs (i + (j - 1)) <;> decide
        rw [← hd] at hnx ⊢
        clear hd hV hbt
        have hf1' := Hf.out.newer1 hf1 (by rw [Ha.out]; omega)
        have hor := or_i64 v d hvb hd1
        obtain ⟨c, hc⟩ : ∃ c, c = 2 * v + d := ⟨_, rfl⟩
        rw [← hc] at hor hnx
        obtain ⟨k, hk⟩ : ∃ k, k = i + j := ⟨_, rfl⟩
        rw [show i + (j - 1) + 1 = k by omega] at hr1
        have hfv := Hfv.out
        have hfb := firstF_small (cntOf l) Hsm.out j hj16
        have hcb := Hsm.out j (by omega)
        have Hb1 : Hid (Blk w1 p 107 800 f) := Hb.out.frame hf1' (fun h => h)
        have cf := Hb1.out.cell (784 + j) (by omega)
        have cn := Hb1.out.cell (768 + j) (by omega)
        rw [Hok.out.fst j (by omega)] at cf
        rw [Hok.out.cnt j (by omega)] at cn
        have hjl : j ≤ bits.length := by rw [Hbl.out]; omega
        have Hnx : Hid (num (bits.take j) = c) := hnx
        have Hfind : Hid (∀ x, x < cntOf l j → ∃ s, 0 < ln l s ∧ ln l s = j ∧ rk l s = placeF (cntOf l) j + x ∧ findSym l j (firstF (cntOf l) j + x) = some s) := fun x hx => find_some HR.out.ln (by omega) hx
        have Hmiss : Hid (firstF (cntOf l) j + cntOf l j ≤ c → findSym l j c = none) := fun hx => find_none HR.out.ln (by omega) hx
        have Hpn : Hid (placeF (cntOf l) (j + 1) = placeF (cntOf l) j + cntOf l j) := rfl
        have Hfn : Hid (firstF (cntOf l) (j + 1) = (firstF (cntOf l) j + cntOf l j) * 2) := rfl
        rw [← Hpl.out] at Hfind Hpn
        obtain ⟨fs, hfs⟩ : ∃ fs, fs = firstF (cntOf l) j := ⟨_, rfl⟩
        obtain ⟨cm, hcm⟩ : ∃ cm, cm = cntOf l j := ⟨_, rfl⟩
        rw [← hfs] at hfv hfb cf Hfind Hmiss Hfn
        rw [← hcm] at hcb cn Hfind Hmiss Hpn Hfn
        obtain ⟨x, hx⟩ : ∃ x, x = c - fs := ⟨_, rfl⟩
        have hs1 : (c : Int) - (fs : Int) = (x : Int) := by omega
        have hj3 : (j : Int) < 16 := by omega
        have Hc : Hid (c = fs + x) := by show _ = _; omega
        have hxb : x ≤ 65536 := by omega
        have hcb2 : c ≤ 65536 := by omega
        have Hk : Hid (k = i + j) := hk
        have Hr1 : Hid (Rd 124 w1 a (.slice ao le cap) bs k) := hr1
        have Hf1 : Hid (Fr w w1 (fun _ => False)) := hf1'
        have Hc2 : Hid (c = 2 * v + d) := hc
        clear hnx hfv hfs hcm hx hk hr1 hf1' hf1 hc
        by_cases hxc : x < cm
        · obtain ⟨s, hs0, hsj, hsr, hsf⟩ := Hfind.out x hxc
          have hm256 := rk_lt hs0
          have hmo := HR.out.most
          rw [hsr] at hm256
          obtain ⟨m, hm⟩ : ∃ m, m = pl + x := ⟨_, rfl⟩
          rw [← hm] at hm256 hsr
          have hadd : (pl : Int) + (x : Int) = (m : Int) := by omega
          have co : ∀ u v', ((w1.setCell ⟨q, 0, none⟩ u).setCell ⟨q, 1, none⟩ v').cell? ⟨p, 512 + m, none⟩ = some (.int .i64 (s : Int)) := fun u v' => by
            have hfr : Fr w1 ((w1.setCell ⟨q, 0, none⟩ u).setCell ⟨q, 1, none⟩ v') (fun k => k = q) := Fr.setCell (S := fun k => k = q) (Fr.setCell (S := fun k => k = q) (Fr.refl w1 _) ⟨q, 0, none⟩ (fun _ => rfl) u) ⟨q, 1, none⟩ (fun _ => rfl) v'
            have := (Hb1.out.frame hfr (fun h => hpq h)).cell (512 + m) (by omega)
            have e : f (512 + m) = s := by rw [← hsr]; exact Hok.out.ord s hs0
            rw [e] at this
            exact this
          have hm1 : (m : Int) < 256 := by omega
          have Htk : Hid (takeSym l bits = some (s, j)) := by
            show _ = _
            rw [← Hsk.out, show 16 - j = (15 - j) + 1 by omega]
            exact seek_hit hjl (by rw [Hnx.out, Hc.out]; exact hsf)
          clear hs0 hsj hsr hsf hm
          have c0 := two_cell0 Hr1.out.1
          have c1 := two_cell1 Hr1.out.1
          have hp2 : w1.heap[q]? = some (.cells #[.slice ao le cap, .int .i64 (i : Int)] 124 (0, 0)) := Hf1.out.kept Hh.out.1 (fun h => h)
          have Hp2 : Hid _ := hp2
          have d0 := two_cell0 hp2
          have d1 := two_cell1 hp2
          have f0 := two_free hp2 0
          have f1 := two_free hp2 1
          clear hp2
          go_wp2_with fail
          go_ret2
          have hfr : Fr w ((w1.setCell ⟨q, 0, none⟩ (.slice ao le cap)).setCell ⟨q, 1, none⟩ (.int .i64 (k : Int))) (fun k => k = q) :=
            Fr.setCell (S := fun k => k = q) (Fr.setCell (S := fun k => k = q) (Hf1.out.mono (fun _ _ h => h.elim)) ⟨q, 0, none⟩ (fun _ => rfl) _) ⟨q, 1, none⟩ (fun _ => rfl) _
          have eS : tkS l bits = s := by unfold tkS; rw [Htk.out]; rfl
          have eB : tkB l bits = true := by unfold tkB; rw [Htk.out]; rfl
          have eN : tkN l bits = j := by unfold tkN; rw [Htk.out]; rfl
          refine ⟨by rw [eS, eB]; rfl, ⟨?_, ?_⟩, hfr⟩
          · rw [eN, ← Hk.out]
            exact two_set1 (two_set0 Hp2.out)
          · obtain ⟨hb, hr, hi, hl, hs, hsp⟩ := Hh.out
            refine ⟨hr.frame' hfr (fun h0 k hk e => hsp h0 (by rw [hk, e])), ?_, hl, hs, hsp⟩
            rw [eN]
            omega
        · have hxc2 : ¬ (x : Int) < (cm : Int) := by omega
          have Hm : Hid (findSym l j c = none) := Hmiss.out (by rw [Hc.out]; omega)
          have Hsk2 : Hid (seekSym l bits (j + 1) (16 - (j + 1)) = takeSym l bits) := by
            show _ = _
            rw [← Hsk.out, show 16 - j = (16 - (j + 1)) + 1 by omega]
            exact (seek_miss hjl (by rw [Hnx.out]; exact Hm.out)).symm
          have hpb : pl + cm ≤ 8192 := by omega
          go_wp2_with fail
          go_roundg (16 - (j + 1))
          case rel => exact ⟨j + 1, c, pl + cm, rfl, by omega, by omega, by go_num, rfl, by go_num, by rw [show j + 1 - 1 = j by omega]; exact Hnx.out.symm, Hpn.out.symm, by rw [Hfn.out, Hc.out]; omega, by omega, Hsk2.out, by rw [show i + (j + 1 - 1) = k by rw [Hk.out]; omega]; exact Hr1.out, Hf1.out⟩
          case measure => rw [Hg.out]; omega
      · refine (take_nofr a _ bs (i + (j - 1)) 1 wr Hrd.out (by rw [hw1]; omega)).mono ?_
        rintro e w1 ⟨rfl, hr1, hf1⟩
        have hf1' := Hf.out.none hf1
        obtain ⟨e1, e2, hrr, hff⟩ := Hnone.out w1 hf1' (by
          rw [← Hsk.out, show 16 - j = (15 - j) + 1 by omega]
          exact seek_short (by rw [Hbl.out]; omega))
        have E1 : Hid _ := e1
        have E2 : Hid _ := e2
        have Hrr : Hid (Rd 124 w1 q (.slice ao le cap) bs (i + tkN l bits)) := hrr
        have Hff : Hid _ := hff
        clear e1 e2 hrr hff hr1 hf1 hf1'
        go_wp2_with fail
        go_ret2
        exact ⟨by rw [E1.out, E2.out]; rfl, Hrr.out, Hff.out⟩
    · obtain rfl : j = 16 := by omega
      obtain ⟨e1, e2, hrr, hff⟩ := Hnone.out wr Hf.out (by rw [← Hsk.out]; rfl)
      have E1 : Hid _ := e1
      have E2 : Hid _ := e2
      have Hrr : Hid (Rd 124 wr q (.slice ao le cap) bs (i + tkN l bits)) := hrr
      have Hff : Hid _ := hff
      clear e1 e2 hrr hff
      go_wp2_with fail
      go_ret2
      exact ⟨by rw [E1.out, E2.out]; rfl, Hrr.out, Hff.out⟩

end Go.Proofs.Ytclfbdfgmeliaaa

/-
  The contract of code.New.
-/
namespace Go.Proofs.Ytclfbdfgmeliaaa
open Go.RowKit

/-- A table of which only the counts are there. -/
def tab0 (g : Nat → Nat) : Nat → Nat := fun j => if 768 ≤ j ∧ j < 784 then g (j - 768) else 0
theorem built_table (g : Nat → Nat) : Try.prog.built 107 [(3, .agg (row .i64 (fnRow 16 g)).toArray)] = some (row .i64 (fnRow 800 (tab0 g))).toArray := by kernel_rfl
theorem wpList_build_is {P : Program} {ops : Array Oper} {rest : List Oper} {o : Oper} {a : Act} {w : World} {Q : Exit → Act → World → Prop} (hgd : o.guard = none) (t : TypeId) (parts : Array (Nat × Operand)) (ho : o.op = .build t parts)
    {vs : List (Nat × Value)} (hv : (parts.map fun (i, x) => (i, a.eval x)).toList = vs) {C : Array Value} (hb : P.built t vs = some C) (h : wpList P ops Q rest (a.put o.dst (.agg C)) w) : wpList P ops Q (o :: rest) a w := by
  refine wpList_build hgd t parts ho (by rw [hv, hb]; rfl) ?_
  rw [hv, hb]
  exact h
/-- A table whose order is known of the symbols below i. -/
structure TabTo (l : List Nat) (i : Nat) (f : Nat → Nat) : Prop where
  len : ∀ s, s < 256 → f s = ln l s
  code : ∀ s, s < 256 → f (256 + s) = codeOf l s
  ord : ∀ s, s < i → 0 < ln l s → f (512 + rk l s) = s
  cnt : ∀ n, n < 16 → f (768 + n) = cntOf l n
  fst : ∀ n, n < 16 → f (784 + n) = firstF (cntOf l) n
theorem TabTo.ok {l : List Nat} {f : Nat → Nat} (h : TabTo l l.length f) : TabOk l f := ⟨h.len, h.code, fun s hs => h.ord s (ln_lt hs) hs, h.cnt, h.fst⟩
theorem TabTo.skip {l : List Nat} {i : Nat} {f : Nat → Nat} (h : TabTo l i f) (h0 : ¬ 0 < ln l i) : TabTo l (i + 1) f :=
  ⟨h.len, h.code, fun s hs hp => h.ord s (Nat.lt_of_le_of_ne (by omega) (fun e => h0 (e ▸ hp))) hp, h.cnt, h.fst⟩
theorem TabTo.step {l : List Nat} {i : Nat} {f : Nat → Nat} (h : TabTo l i f) (h0 : 0 < ln l i) (hl : l.length ≤ 256) : TabTo l (i + 1) (upd f (512 + rk l i) i) := by
  have hk := rk_lt h0
  refine ⟨fun s hs => ?_, fun s hs => ?_, fun s hs hp => ?_, fun n hn => ?_, fun n hn => ?_⟩
  · unfold upd; rw [if_neg (by omega)]; exact h.len s hs
  · unfold upd; rw [if_neg (by omega)]; exact h.code s hs
  · unfold upd
    by_cases e : s = i
    · subst e; rw [if_pos rfl]
    · have := rk_ne h0 hp e
      rw [if_neg (by omega)]
      exact h.ord s (by omega) hp
  · unfold upd; rw [if_neg (by omega)]; exact h.cnt n hn
  · unfold upd; rw [if_neg (by omega)]; exact h.fst n hn

set_option maxRecDepth 4000 in
set_option maxHeartbeats 1600000 in
theorem newC_yes (v : Value) (zs : List Int) (w : World) (h : ReadsZ w v zs) (hr : rightB zs = true) :
    Calls Try.prog 38 #[v] w fun e w' => ∃ p F, e = .returned (.tuple #[.pointer (some ⟨p, 0, none⟩), .bool true]) ∧ Tab w' p zs F ∧ Fr w w' (fun _ => False) ∧ (∀ k, F k → w.heap.size ≤ k) := by
  obtain ⟨a0, c0, rfl, hc0⟩ := h.form
  have Hz : Hid (ReadsZ w (.slice a0 zs.length c0) zs) := h
  obtain ⟨n, hn⟩ : ∃ n, n = zs.length := ⟨_, rfl⟩
  rw [← hn] at Hz hc0 ⊢
  have Hn : Hid _ := hn
  have hin := rightB_in hr
  have hn256 : n ≤ 256 := by rw [hn]; exact rightB_len hr
  have hn0 : 0 < n := by
    rcases Nat.eq_zero_or_pos n with h0 | h0
    · exfalso
      have : zs = [] := List.eq_nil_of_length_eq_zero (by rw [← hn]; exact h0)
      rw [this] at hr
      exact absurd hr (by decide)
    · exact h0
  obtain ⟨bz, oz, rfl⟩ : ∃ bz oz, a0 = some ⟨bz, oz, none⟩ := by
    obtain ⟨b, off, cp, e, -, -⟩ := Hz.out.get 0 _ (List.getElem?_eq_getElem (by rw [← hn]; exact hn0))
    simp only [Value.slice.injEq] at e
    exact ⟨b, off, e.1⟩
  have Hr : Hid _ := hr
  have Hin : Hid _ := hin
  have Hget : Hid (∀ s, s < n → zs[s]? = some ((ln (nats zs) s : Nat) : Int)) := by rw [hn]; exact get_nats hin
  have H15 : Hid _ := nats_15 hin
  have Hln : Hid ((nats zs).length = n) := by show _ = _; rw [nats_length, ← hn]
  clear h hn hin hr
  go_enter Try.func38, Try.ntmps38
  go_wp2_with fail
  refine (rightC_any _ zs _ Hz.out).mono ?_
  rw [Hr.out]
  rintro e w0 ⟨rfl, rfl⟩
  go_wp2_with fail
  refine (tallyC_any _ zs _ Hz.out Hin.out (by rw [← Hn.out]; exact hn256)).mono ?_
  rintro e w1 ⟨rfl, hf1⟩
  unfold arr
  obtain ⟨l, hl⟩ : ∃ l, l = nats zs := ⟨_, rfl⟩
  rw [← hl] at H15 Hln Hget ⊢
  have Hl : Hid _ := hl
  have hbt := built_table (cntOf l)
  obtain ⟨A, hA⟩ : ∃ A, A = (row .i64 (fnRow 16 (cntOf l))).toArray := ⟨_, rfl⟩
  obtain ⟨C, hC⟩ : ∃ C, C = (row .i64 (fnRow 800 (tab0 (cntOf l)))).toArray := ⟨_, rfl⟩
  rw [← hA, ← hC] at hbt
  rw [← hA]
  have Hbt : Hid _ := hbt
  obtain ⟨p, hp⟩ : ∃ p, p = w1.heap.size := ⟨_, rfl⟩
  have Hb2 : Hid (Blk (w1.alloc (.cells C 107)) p 107 800 (tab0 (cntOf l))) := by rw [hp, hC]; exact heap_alloc_new w1 _
  have Hrg : Hid ((w1.alloc (.cells C 107)).rangeAt w1.heap.size 768 (row .i64 (fnRow 16 (cntOf l)))) := by
    have := Hb2.out.range 768 16 (cntOf l) (by omega) (fun j hj => by unfold tab0; rw [if_pos (by omega), show 768 + j - 768 = j by omega])
    rw [hp] at this
    exact this
  have Hsz : Hid (∀ f, (Try.prog.info? 102).map (·.size) = some (row .i64 (fnRow 16 f)).length) := fun f => by rw [frow_len]; exact sizeLen
  have Hf2 : Hid (Fr w0 (w1.alloc (.cells C 107)) (fun _ => False)) := hf1.alloc _
  have Hpw : Hid (w0.heap.size ≤ p) := by show _ ≤ _; have := hf1.size; omega
  clear hA hC hbt hl hf1
  go_wp2_with (first | refine wpList_build_is rfl 107 #[(3, .tmp 12)] rfl (vs := [(3, .agg A)]) (by simp only [List.map_toArray, List.map_cons, List.map_nil]; rfl) Hbt.out ?_ | refine wpList_load_mid rfl 102 (.tmp 18) rfl w1.heap.size 768 rfl (row .i64 (fnRow 16 (cntOf l))) _ Hrg.out Try.underlying102 rfl (Hsz.out _) ?_)
  rw [← hp]
  generalize w1.alloc (.cells C 107) = w2 at *
  clear hp Hrg
  refine (firstsC_any (cntOf l) w2 (fun m _ => cntOf_le _ (by rw [Hln.out]; exact hn256) m)).mono ?_
  rintro e w3 ⟨rfl, hf3⟩
  unfold arr
  obtain ⟨A2, hA2⟩ : ∃ A, A = (row .i64 (fnRow 16 (firstF (cntOf l)))).toArray := ⟨_, rfl⟩
  rw [← hA2]
  have hb3 := Hb2.out.frame hf3 (fun h => h)
  have hf3' := Hf2.out.none hf3
  have Hth : Hid (w3.there p 784 A2.size) := by
    have e : A2.size = 16 := by rw [hA2, List.size_toArray, frow_len]
    rw [e]
    exact hb3.there 784 16 (by omega)
  have Hsz2 : Hid ((Try.prog.info? 102).map (·.size) = some A2.size) := by rw [hA2, List.size_toArray]; exact Hsz.out _
  have Hone : Hid (A2.all (·.oneCell') = true) := by show _ = true; rw [hA2]; exact frow_one _ _
  have hb4 : Blk (w3.setCells p 784 A2.toList) p 107 800 (fun j => if 784 ≤ j ∧ j < 784 + 16 then firstF (cntOf l) (j - 784) else tab0 (cntOf l) j) := by rw [hA2]; exact hb3.setRow 784 16 _
  have hf4 : Fr w0 (w3.setCells p 784 A2.toList) (fun _ => False) := Fr.setCells p (fun h => by have := Hpw.out; omega) _ _ hf3'
  have hzl : zrow zs = row .i64 l := by
    have := nats_back Hin.out
    rw [← Hl.out] at this
    conv => lhs; rw [← this]
    unfold zrow row
    rw [List.map_map]
    rfl
  have hcp : ∀ ty, (Builtin.copy_ #[28, 28] ty #[.slice (some ⟨p, 0, none⟩) 256 256, .slice (some ⟨bz, oz, none⟩) n c0]).run Try.prog (w3.setCells p 784 A2.toList) = .ok (goInt n) ((w3.setCells p 784 A2.toList).setCells p 0 (row .i64 l)) := fun ty => by
    obtain ⟨a', c', e, -, hcell⟩ := Hz.out.keep hf4
    simp only [Value.slice.injEq] at e
    obtain ⟨b', o', e2, hcell⟩ := hcell (by rw [zrow_length, ← Hn.out]; exact hn0)
    rw [← e.1] at e2
    simp only [Option.some.injEq, Addr.mk.injEq, and_true] at e2
    obtain ⟨rfl, rfl⟩ := e2
    rw [hzl] at hcell
    have hll : (row .i64 l).length = n := by rw [length_row]; exact Hln.out
    have := run_copy_cells (P := Try.prog) (w3.setCells p 784 A2.toList) 28 28 ty 3 p 0 256 256 ⟨bz, oz, none⟩ n c0 (row .i64 l) Try.underlying28 (by kernel_rfl) (by rw [hll]; exact (Nat.min_eq_left hn256).symm) (fun j u hj => by rw [add_none]; exact hcell j u hj) (fun j hj => ((hb4.there 0 256 (by omega)) j (by omega)).1) (fun j hj => ((hb4.there 0 256 (by omega)) j (by omega)).2) (row_one .i64 l)
    rw [hll] at this
    exact this
  have hb5 := Blk.sets l 0 hb4
  have hf5 : Fr w0 ((w3.setCells p 784 A2.toList).setCells p 0 (row .i64 l)) (fun _ => False) := Fr.setCells p (fun h => by have := Hpw.out; omega) _ _ hf4
  have Hb5 : Hid (Blk ((w3.setCells p 784 A2.toList).setCells p 0 (row .i64 l)) p 107 800 (fun j => if 0 ≤ j ∧ j < 0 + l.length then l.getD (j - 0) 0 else if 784 ≤ j ∧ j < 784 + 16 then firstF (cntOf l) (j - 784) else tab0 (cntOf l) j)) := hb5
  have Hf5 : Hid (Fr w0 ((w3.setCells p 784 A2.toList).setCells p 0 (row .i64 l)) (fun _ => False)) := hf5
  clear hf3 hb3 hf3' hb4 hf4 hb5 hf5 hzl hA2 Hb2 Hf2
  go_wp2_with (refine wpList_store_mid rfl 102 (.tmp 22) (.tmp 20) rfl p 784 A2 rfl rfl Hth.out Hsz2.out Hone.out ?_)
  generalize (w3.setCells p 784 A2.toList).setCells p 0 (row .i64 l) = w5 at *
  clear hcp
  refine wp_region_tree (fun k => k = p) (.take 0 (.take 1 (.take 2 (.take 3 (.take 4 (.one 5 (.one 6 .nil))))))) (by kernel_rfl) (by kernel_rfl) (by decide) (by kernel_rfl) ?_
  repeat (refine wpT_take (v := ?_) rfl rfl (fun x hx => ?_) ?_; rotate_left; (focus (go_simp; with_reducible rfl)); simp only [Act.put, List.setIfInBounds_toArray, List.set_cons_zero, List.set_cons_succ])
  refine wpT_one rfl rfl (fun K hK => ?_)
  go_simp
  refine (codesC_any _ zs _ ((Hz.out.keep Hf5.out).keep (Fr.refl w5 _).drew)).mono ?_
  rintro e w6 ⟨sc, rfl, hrc, hf6, hnw6⟩
  refine hK _ _ (hf6.mono (fun _ _ h => h.elim)) ?_
  clear hK K
  have hcz : codesZ zs = fnRow n (codeOf l) := by unfold codesZ; rw [if_pos Hr.out, ← Hl.out, ← Hn.out]; rfl
  rw [hcz] at hrc
  obtain ⟨ac, cc, hsc, hcc, hcl⟩ := hrc
  rw [length_row, fnRow_length] at hsc hcc hcl
  subst hsc
  obtain ⟨bc, oc, rfl, hcell⟩ := hcl hn0
  have hb6 := Hb5.out.frame ((Fr.refl w5 (fun _ => False)).drew.none hf6) (fun h => h)
  have hf6' := Hf5.out.none ((Fr.refl w5 (fun _ => False)).drew.none hf6)
  have hcp : ∀ ty, (Builtin.copy_ #[28, 28] ty #[.slice (some ⟨p, 256, none⟩) 256 256, .slice (some ⟨bc, oc, none⟩) n cc]).run Try.prog w6 = .ok (goInt n) (w6.setCells p 256 (row .i64 (fnRow n (codeOf l)))) := fun ty => by
    have := run_copy_cells (P := Try.prog) w6 28 28 ty 3 p 256 256 256 ⟨bc, oc, none⟩ n cc (row .i64 (fnRow n (codeOf l))) Try.underlying28 (by kernel_rfl) (by rw [frow_len]; exact (Nat.min_eq_left hn256).symm) (fun j u hj => by rw [add_none]; exact hcell j u hj) (fun j hj => ((hb6.there 256 256 (by omega)) j (by rw [frow_len] at hj; omega)).1) (fun j hj => ((hb6.there 256 256 (by omega)) j (by rw [frow_len] at hj; omega)).2) (row_one .i64 _)
    rw [frow_len] at this
    exact this
  have hb7 := hb6.setRow 256 n (codeOf l)
  have hf7 : Fr w0 (w6.setCells p 256 (row .i64 (fnRow n (codeOf l)))) (fun _ => False) := Fr.setCells p (fun h => by have := Hpw.out; omega) _ _ hf6'
  have hf7' : Fr w6 (w6.setCells p 256 (row .i64 (fnRow n (codeOf l)))) (fun k => k = p) := Fr.setCells (S := fun k => k = p) p (fun _ => rfl) _ _ (Fr.refl _ _)
  have hl0 : ∀ s, n ≤ s → ln l s = 0 := fun s hs => by
    rcases Nat.eq_zero_or_pos (ln l s) with h | h
    · exact h
    · have := ln_lt h; have := Hln.out; omega
  obtain ⟨f7, hf7e⟩ : ∃ f7 : Nat → Nat, f7 = (fun j => if 256 ≤ j ∧ j < 256 + n then codeOf l (j - 256) else if 0 ≤ j ∧ j < 0 + l.length then l.getD (j - 0) 0 else if 784 ≤ j ∧ j < 784 + 16 then firstF (cntOf l) (j - 784) else tab0 (cntOf l) j) := ⟨_, rfl⟩
  have Ht7 : Hid (TabTo l 0 f7) := by
    rw [hf7e]
    refine ⟨fun s hs => ?_, fun s hs => ?_, fun s hs _ => by omega, fun m hm => ?_, fun m hm => ?_⟩
    · rw [if_neg (by omega)]
      by_cases h1 : s < n
      · rw [if_pos (by rw [Hln.out]; omega)]; rfl
      · rw [if_neg (by rw [Hln.out]; omega), if_neg (by omega), hl0 s (by omega)]
        unfold tab0
        rw [if_neg (by omega)]
    · by_cases h1 : s < n
      · rw [if_pos (by omega), show 256 + s - 256 = s by omega]
      · rw [if_neg (by omega), if_neg (by rw [Hln.out]; omega), if_neg (by omega)]
        unfold tab0 codeOf
        rw [if_neg (by omega), if_pos (hl0 s (by omega))]
    · rw [if_neg (by omega), if_neg (by rw [Hln.out]; omega), if_neg (by omega)]
      unfold tab0
      rw [if_pos (by omega), show 768 + m - 768 = m by omega]
    · rw [if_neg (by omega), if_neg (by rw [Hln.out]; omega), if_pos (by omega), show 784 + m - 784 = m by omega]
  have Hb7 : Hid (Blk (w6.setCells p 256 (row .i64 (fnRow n (codeOf l)))) p 107 800 f7) := by rw [hf7e]; exact hb7
  have Hf7 : Hid (Fr w0 (w6.setCells p 256 (row .i64 (fnRow n (codeOf l)))) (fun _ => False)) := hf7
  have Hf7' : Hid (Fr w6 (w6.setCells p 256 (row .i64 (fnRow n (codeOf l)))) (fun k => k = p)) := hf7'
  have Hl0 : Hid _ := hl0
  clear hb7 hf7 hf7' hl0 hf7e hb6 hf6' hcell hcl hcz hf6 hnw6 hcc
  refine wpT_one rfl rfl (fun K hK => ?_)
  go_simp
  refine hK _ _ Hf7'.out ?_
  clear hK K hcp
  unfold wpT
  generalize w6.setCells p 256 (row .i64 (fnRow n (codeOf l))) = w7 at *
  have Hrg : Hid (w7.rangeAt p 768 (row .i64 (fnRow 16 (cntOf l)))) := Hb7.out.range 768 16 (cntOf l) (by omega) (fun j hj => Ht7.out.cnt j hj)
  clear Hf7' Hb5 Hf5
  go_wp2_with (refine wpList_load_mid rfl 102 (.tmp 38) rfl p 768 rfl (row .i64 (fnRow 16 (cntOf l))) _ Hrg.out Try.underlying102 rfl (Hsz.out _) ?_)
  refine (placesC_any (cntOf l) w7 (fun m _ => cntOf_le _ (by rw [Hln.out]; exact hn256) m)).mono ?_
  rintro e w8 ⟨rfl, hf8⟩
  unfold arr
  obtain ⟨A3, hA3⟩ : ∃ A, A = (row .i64 (fnRow 16 (placeF (cntOf l)))).toArray := ⟨_, rfl⟩
  rw [← hA3]
  have hb8 := Hb7.out.frame hf8 (fun h => h)
  have hf8' := Hf7.out.none hf8
  have Hth3 : Hid ((w8.alloc (.cells Z16 102)).there w8.heap.size 0 A3.size) := by
    have := Blk.there (w := w8.alloc (.cells Z16 102)) (b := w8.heap.size) (t := 102) (n := 16) (f := fun _ => 0) (heap_alloc_new w8 _) 0 16 (by omega)
    have e : A3.size = 16 := by rw [hA3, List.size_toArray, frow_len]
    rw [e]
    exact this
  have Hsz3 : Hid ((Try.prog.info? 102).map (·.size) = some A3.size) := by rw [hA3, List.size_toArray]; exact Hsz.out _
  have Hone3 : Hid (A3.all (·.oneCell') = true) := by show _ = true; rw [hA3]; exact frow_one _ _
  have Hb9 : Hid (Blk ((w8.alloc (.cells Z16 102)).setCells w8.heap.size 0 A3.toList) w8.heap.size 102 16 (placeF (cntOf l))) := by
    rw [hA3]
    exact (Blk.setRow (w := w8.alloc (.cells Z16 102)) (n := 16) (f := fun _ => 0) (heap_alloc_new w8 _) 0 16 (placeF (cntOf l))).congr fun j hj => by rw [if_pos (by omega)]; rfl
  have hf9 : Fr w8 ((w8.alloc (.cells Z16 102)).setCells w8.heap.size 0 A3.toList) (fun _ => False) := Fr.setCells _ (fun h => by omega) _ _ ((Fr.refl w8 _).alloc _)
  have Hc9 : Hid (Blk ((w8.alloc (.cells Z16 102)).setCells w8.heap.size 0 A3.toList) p 107 800 f7) := hb8.frame hf9 (fun h => h)
  have Hf9 : Hid (Fr w0 ((w8.alloc (.cells Z16 102)).setCells w8.heap.size 0 A3.toList) (fun _ => False)) := hf8'.none hf9
  have Hpb : Hid (p < w8.heap.size) := hb8.lt
  clear hf9 hf8' hb8 hf8 hA3 Hb7 Hf7 Hrg
  go_wp2_with (refine wpList_store_mid rfl 102 (.tmp 5) (.tmp 40) rfl w8.heap.size 0 A3 rfl rfl Hth3.out Hsz3.out Hone3.out ?_)
  rw [z16]
  generalize (w8.alloc (.cells Z16 102)).setCells w8.heap.size 0 A3.toList = w9 at *
  obtain ⟨b, hb⟩ : ∃ b, b = w8.heap.size := ⟨_, rfl⟩
  rw [← hb] at Hb9 Hpb ⊢
  have Hpb2 : Hid (p ≠ b) := by show _ ≠ _; have := Hpb.out; omega
  have Hbw : Hid (w0.heap.size ≤ b) := by show _ ≤ _; have := Hpb.out; have := Hpw.out; omega
  clear hb Hth3 Hsz3 Hone3 Hsz2 Hone Hth
  go_loopg [43] n (fun g' I wr => ∃ (i : Nat) (f : Nat → Nat), g' = n - i ∧ i ≤ n ∧ I = .int .i64 (i : Int) ∧ TabTo l i f ∧ Blk wr p 107 800 f ∧ Blk wr b 102 16 (fun m => placeF (cntOf l) m + cntTo l i m) ∧ Fr w0 wr (fun _ => False))
  case atStart => exact ⟨0, f7, rfl, by omega, rfl, Ht7.out, Hc9.out, Hb9.out.congr (fun j _ => by rw [cntTo_zero]; rfl), Hf9.out⟩
  case round =>
    obtain ⟨i, f, hg', hi, rfl, ht, hp, hb, hf⟩ := hrel
    have Hg' : Hid _ := hg'
    have Ht : Hid (TabTo l i f) := ht
    have Hp : Hid (Blk wr p 107 800 f) := hp
    have Hb : Hid (Blk wr b 102 16 (fun m => placeF (cntOf l) m + cntTo l i m)) := hb
    have Hf : Hid (Fr w0 wr (fun _ => False)) := hf
    clear hg' ht hp hb hf
    by_cases hlt : i < n
    · obtain ⟨bx, off, cp, e, hb0, kx⟩ := (Hz.out.keep Hf.out).get i _ (Hget.out i hlt)
      simp only [Value.slice.injEq, Option.some.injEq, Addr.mk.injEq, and_true] at e
      obtain ⟨⟨rfl, rfl⟩, -, rfl⟩ := e
      have cx := kx _ (Fr.refl _ _)
      have hi1 : (i : Int) < (n : Int) := by omega
      clear kx hb0
      obtain ⟨y, hy⟩ : ∃ y, y = ln l i := ⟨_, rfl⟩
      have hy15 := H15.out i
      rw [← hy] at cx hy15
      have Hst : Hid (∀ m, cntTo l (i + 1) m = cntTo l i m + if y = m ∧ 0 < m then 1 else 0) := fun m => by rw [hy]; exact cntTo_step l i m (by rw [Hln.out]; exact hlt)
      have Hrk : Hid (rk l i = placeF (cntOf l) y + cntTo l i y) := by show _ = _; rw [hy]; rfl
      have Hy : Hid _ := hy
      clear hy
      by_cases hy0 : 0 < y
      · have hkl := rk_lt (l := l) (s := i) (by rw [← Hy.out]; exact hy0)
        rw [Hln.out] at hkl
        have cb := Hb.out.cell y (by omega)
        have hrk := Hrk.out
        rw [← hrk] at cb
        have Ht2 : Hid (TabTo l (i + 1) (upd f (512 + rk l i) i)) := Ht.out.step (by rw [← Hy.out]; exact hy0) (by rw [Hln.out]; exact hn256)
        have Hp2 : Hid (Blk (wr.drew.setCell ⟨p, 512 + rk l i, none⟩ (.int .i64 (i : Int))) p 107 800 (upd f (512 + rk l i) i)) := Blk.set (w := wr.drew) Hp.out _ i
        have Hb2 : Hid (Blk (wr.drew.setCell ⟨p, 512 + rk l i, none⟩ (.int .i64 (i : Int))) b 102 16 (fun m => placeF (cntOf l) m + cntTo l i m)) := Hb.out.frame (Fr.setCell (S := fun k => k = p) (Fr.refl wr _).drew ⟨p, 512 + rk l i, none⟩ (fun _ => rfl) _) (fun h => Hpb2.out h.symm)
        have co := Hp.out.cell (512 + rk l i) (by omega)
        have fo := Hp.out.free (512 + rk l i)
        have Hb3 : Hid (∀ x, Blk x b 102 16 (fun m => placeF (cntOf l) m + cntTo l i m) → Blk (x.setCell ⟨b, y, none⟩ (.int .i64 ((rk l i + 1 : Nat) : Int))) b 102 16 (fun m => placeF (cntOf l) m + cntTo l (i + 1) m)) := fun x hx => (hx.set y (rk l i + 1)).congr fun m _ => by
          unfold upd
          rw [Hst.out m]
          by_cases hm : m = y
          · subst hm; rw [if_pos rfl, if_pos ⟨rfl, hy0⟩, hrk]; omega
          · rw [if_neg hm, if_neg (fun h => hm h.1.symm)]; rfl
        have cb2 := Hb2.out.cell y (by omega)
        rw [← hrk] at cb2
        have fb2 := Hb2.out.free y
        have Hf2 : Hid (Fr w0 (wr.drew.setCell ⟨p, 512 + rk l i, none⟩ (.int .i64 (i : Int))) (fun _ => False)) := Hf.out.drew.setCell ⟨p, 512 + rk l i, none⟩ (fun h => by have := Hpw.out; simp at h; omega) _
        generalize rk l i = k at hkl cb Ht2 Hp2 Hb2 co fo Hb3 cb2 fb2 Hf2
        have hk1 : (k : Int) < 256 := by omega
        have hcw : IntKind.i64.wrap ((k : Int) + 1) = ((k + 1 : Nat) : Int) := by rw [IntWalk.i64_in _ (by omega)]; omega
        have hy1 : (y : Int) < 16 := by omega
        have hy2 : (0 : Int) < (y : Int) := by omega
        generalize f (512 + k) = oldv at co
        have Hco : Hid (wr.drew.cell? ⟨p, 512 + k, none⟩ = some (.int .i64 (oldv : Int))) := co
        have Hfo : Hid (wr.drew.frozen? ⟨p, 512 + k, none⟩ = false) := fo
        have Hcb2 : Hid ((wr.drew.setCell ⟨p, 512 + k, none⟩ (.int .i64 (i : Int))).cell? ⟨b, y, none⟩ = some (.int .i64 (k : Int))) := cb2
        have Hfb2 : Hid ((wr.drew.setCell ⟨p, 512 + k, none⟩ (.int .i64 (i : Int))).frozen? ⟨b, y, none⟩ = false) := fb2
        clear hrk cb2 fb2
        go_wp2
        go_still_tail 8, (by kernel_rfl)
        show wpList _ _ _ _ _ wr.drew
        generalize wr.drew = wd at *
        have cod := Hco.out
        have fod := Hfo.out
        have cb2 := Hcb2.out
        have fb2 := Hfb2.out
        go_wp2
        go_roundg (n - (i + 1))
        case rel =>
          refine ⟨i + 1, _, rfl, by omega, by go_num, Ht2.out, ?_, Hb3.out _ Hb2.out, ?_⟩
          · exact Hp2.out.frame (Fr.setCell (S := fun k => k = b) (Fr.refl _ _) ⟨b, y, none⟩ (fun _ => rfl) _) Hpb2.out
          · exact Hf2.out.setCell ⟨b, y, none⟩ (fun h => by have := Hbw.out; simp at h; omega) _
        case measure => rw [Hg'.out]; omega
      · have hy2 : ¬ (0 : Int) < (y : Int) := by omega
        have Ht2 : Hid (TabTo l (i + 1) f) := Ht.out.skip (by rw [← Hy.out]; exact hy0)
        have Hb2 : Hid (Blk wr b 102 16 (fun m => placeF (cntOf l) m + cntTo l (i + 1) m)) := Hb.out.congr fun m _ => by rw [Hst.out m, if_neg (by omega)]; rfl
        go_wp2
        go_roundg (n - (i + 1))
        case rel => exact ⟨i + 1, f, rfl, by omega, by go_num, Ht2.out, Hp.out, Hb2.out, Hf.out⟩
        case measure => rw [Hg'.out]; omega
    · have hie : i = n := by omega
      have hi1 : ¬ (i : Int) < (n : Int) := by omega
      have Htab : Hid (Tab wr p zs (fun k => k = p)) := ⟨rfl, f, Hp.out, by
        have := Ht.out
        rw [hie, ← Hln.out] at this
        rw [← Hl.out]
        exact this.ok⟩
      clear hie
      go_wp2
      go_ret2
      exact ⟨p, rfl, _, Htab.out, Hf.out, fun k hk => by rw [hk]; exact Hpw.out⟩

set_option maxRecDepth 4000 in
set_option maxHeartbeats 400000 in
theorem newC_no (v : Value) (zs : List Int) (w : World) (h : ReadsZ w v zs) (hr : rightB zs = false) :
    Calls Try.prog 38 #[v] w fun e w' => e = .returned (.tuple #[.pointer none, .bool false]) ∧ Fr w w' (fun _ => False) := by
  have Hz : Hid _ := h
  clear h
  go_enter Try.func38, Try.ntmps38
  go_wp2_with fail
  refine (rightC_any _ zs _ Hz.out).mono ?_
  rw [hr]
  rintro e w0 ⟨rfl, rfl⟩
  go_wp2_with fail
  go_ret2
  exact ⟨rfl, Fr.refl _ _⟩

end Go.Proofs.Ytclfbdfgmeliaaa

/-
  The contract of huff's putCodes: the codes of all bytes.
-/
namespace Go.Proofs.Ytclfbdfgmeliaaa
open Go.RowKit

theorem natsC (l : List Nat) : nats (l.map fun (n : Nat) => (n : Int)) = l := by
  unfold nats
  rw [List.map_map]
  conv => rhs; rw [← List.map_id l]
  apply List.map_congr_left
  intro n _
  simp
theorem codeBits_is (l : List Nat) (x : Nat) (h : 0 < ln l x) : codeBits l (x : Int) = putBits (codeOf l x) (ln l x) := by
  unfold codeBits hasCode
  rw [if_pos (by simp; exact h)]
  simp

set_option maxRecDepth 4000 in
set_option maxHeartbeats 1600000 in
theorem putCodes_any (u v : Value) (l bs : List Nat) (w : World) (hu : Reads .i64 w u l) (h : Reads .u8 w v bs) (hR : RightL l) (h15 : ∀ s, ln l s ≤ 15) (hb : ∀ x ∈ bs, 0 < ln l x) (hl : bs.length ≤ 1000000) :
    Calls Try.prog 25 #[u, v] w fun e w' => ∃ sv, e = .returned sv ∧ Own w' sv (pack (bitsOf l bs)) ∧ Fr w w' (fun _ => False) ∧ (∀ k, sv.ownBlock = some k → w.heap.size ≤ k) := by
  obtain ⟨a0, c0, rfl, hc0, -⟩ := id h
  rw [length_row] at h hc0 ⊢
  obtain ⟨n, hn⟩ : ∃ n, n = bs.length := ⟨_, rfl⟩
  rw [← hn] at h hl hc0 ⊢
  have Hr : Hid (Reads .u8 w (.slice a0 n c0) bs) := h
  have Hn : Hid _ := hn
  have Hb : Hid _ := hb
  have HR : Hid (rightB (l.map fun (n : Nat) => (n : Int)) = true) := (right_of_nats l).2 hR
  have H15 : Hid _ := h15
  clear h hn hb hR h15
  go_enter Try.func25, Try.ntmps25
  go_wp2_with fail
  refine (newC_yes _ _ w hu.z HR.out).mono ?_
  rintro e w1 ⟨t, F, rfl, ht, hf1, hF⟩
  have Ht1 : Hid (Tab w1 t (l.map fun (n : Nat) => (n : Int)) F) := ht
  have Hf1 : Hid (Fr w w1 (fun _ => False)) := hf1
  clear ht hf1 hF
  go_wp2_with fail
  refine (newWriter_any w1).mono ?_
  rintro e w2 ⟨rfl, hw2, hf2⟩
  obtain ⟨q, hq⟩ : ∃ q, q = w1.heap.size := ⟨_, rfl⟩
  rw [← hq] at hw2 ⊢
  have hlt2 := lt_of_block hw2.1
  have HFq : Hid (∀ k, F k → k < q) := fun k hk => by have := Ht1.out.lt k hk; omega
  have Hqw : Hid (w.heap.size ≤ q) := by have := Hf1.out.size; show _ ≤ _; omega
  have Ht2 : Hid (Tab w2 t (l.map fun (n : Nat) => (n : Int)) F) := Ht1.out.frame hf2 (fun _ _ h => h)
  have Hw2 : Hid (Wr w2 q (.slice none 0 0) []) := hw2
  have Hf2 : Hid (Fr w w2 (fun _ => False)) := Hf1.out.none hf2
  have Hq2 : Hid (q < w2.heap.size) := hlt2
  have Hbq : Hid (0 < n → ∀ k, (Value.slice a0 n c0).ownBlock = some k → k < q) := fun h0 k hk => by
    obtain ⟨b, off, e2, hb2, -⟩ := Hr.out.at Hn.out 0 h0
    rw [e2] at hk
    simp [Value.ownBlock] at hk
    have := Hqw.out
    omega
  clear hq hw2 hf2 hlt2 Ht1 Hf1
  go_wp2_with fail
  go_loopg [20] n (fun g' I wi => ∃ (i : Nat) (sv : Value), g' = n - i ∧ i ≤ n ∧ I = .int .i64 (i : Int) ∧ Wr wi q sv (bitsOf l (bs.take i)) ∧ (∀ k, sv.ownBlock = some k → w2.heap.size ≤ k) ∧ Fr w2 wi (fun k => k = q))
  case atStart => exact ⟨0, _, rfl, by omega, rfl, Hw2.out, fun k hk => by simp [Value.ownBlock] at hk, Fr.refl _ _⟩
  case round =>
    obtain ⟨i, sv, hg2, hi, rfl, hw, hsv, hf⟩ := hrel
    have Hg2 : Hid _ := hg2
    have Hw : Hid (Wr wr q sv (bitsOf l (bs.take i))) := hw
    have Hsv : Hid _ := hsv
    have Hf9 : Hid (Fr w2 wr (fun k => k = q)) := hf
    have hbl : (bitsOf l (bs.take i)).length ≤ 15000000 := by
      have := bitsOf_le l (bs.take i) H15.out
      rw [List.length_take] at this
      omega
    clear hg2 hw hsv hf
    by_cases hlt : i < n
    · have hrb : Reads .u8 wr (.slice a0 n c0) bs := (Hr.out.keep Hf2.out).frame Hf9.out (fun k hk e => by have := Hbq.out (by omega) k hk; omega)
      obtain ⟨bb, ob, rfl, hbb, cb⟩ := hrb.at Hn.out i hlt
      obtain ⟨x, hx⟩ : ∃ x, x = bs.getD i 0 := ⟨_, rfl⟩
      have hmem : x ∈ bs := by rw [hx]; exact getD_mem (by rw [← Hn.out]; exact hlt)
      have hx256 : x < 256 := by
        have h1 := Hb.out x hmem
        have h2 := ((right_of_nats l).1 HR.out).1
        unfold ln at h1
        rcases Nat.lt_or_ge x l.length with h3 | h3
        · omega
        · rw [List.getD_eq_getElem?_getD, List.getElem?_eq_none h3] at h1
          simp at h1
      have Hbits : Hid (bitsOf l (bs.take (i + 1)) = bitsOf l (bs.take i) ++ codeBits l (x : Int)) := by
        show _ = _
        rw [take_step (by rw [← Hn.out]; exact hlt), ← hx, bitsOf_append, codeBits_is l x (Hb.out x hmem)]
        simp [bitsOf]
      rw [← hx] at cb
      have hi1 : (i : Int) < (n : Int) := by omega
      clear hx hmem hrb hbb
      go_wp2_with fail
      refine (putC_any t q sv _ _ F (x : Int) wr (Ht2.out.frame Hf9.out (fun k hk e => by have := HFq.out k hk; omega)) HR.out Hw.out (by omega) (fun k hk h2 => by
        have := HFq.out k hk
        rcases h2 with h2 | h2
        · omega
        · have := Hsv.out k h2; have := Hq2.out; omega)).mono ?_
      rw [natsC, ← Hbits.out]
      rintro e w9 ⟨rfl, sv9, hw9, hf9, hm9⟩
      have Hw9 : Hid (Wr w9 q sv9 (bitsOf l (bs.take (i + 1)))) := hw9
      have Hsv9 : Hid (∀ k, sv9.ownBlock = some k → w2.heap.size ≤ k) := fun k hk => by
        rcases hm9 k hk with h1 | h1
        · exact Hsv.out k h1
        · exact Nat.le_trans Hf9.out.size h1
      have Hf10 : Hid (Fr w2 w9 (fun k => k = q)) := Hf9.out.trans hf9 (fun k hk ht => by
        rcases ht with h1 | h1
        · exact h1
        · have := Hsv.out k h1; omega)
      clear hw9 hf9 hm9
      go_wp2_with fail
      go_roundg (n - (i + 1))
      case rel => exact ⟨i + 1, sv9, rfl, by omega, by go_num, Hw9.out, Hsv9.out, Hf10.out⟩
      case measure => rw [Hg2.out]; omega
    · have hi1 : ¬ (i : Int) < (n : Int) := by omega
      have hti : bs.take i = bs := List.take_of_length_le (by rw [← Hn.out]; omega)
      rw [hti] at Hw hbl
      clear hti
      go_wp2_with fail
      refine (bytesP_any q sv _ wr Hw.out (by omega)).mono ?_
      rintro e w9 ⟨v9, rfl, hv9, -, hf9⟩
      have Hfo : Hid (Fr w w9 (fun _ => False)) := (Hf2.out.newer Hf9.out (fun k hk => by rw [hk]; exact Hqw.out)).none hf9
      have Hno : Hid (∀ k, v9.ownBlock = some k → w.heap.size ≤ k) := fun k hk => by
        obtain ⟨g, rfl, -, hg, -⟩ := hv9
        simp [Value.ownBlock] at hk
        have := Hf2.out.size
        have := Hf9.out.size
        omega
      go_wp2_with fail
      go_ret
      exact ⟨_, rfl, hv9.own, Hfo.out, Hno.out⟩

end Go.Proofs.Ytclfbdfgmeliaaa

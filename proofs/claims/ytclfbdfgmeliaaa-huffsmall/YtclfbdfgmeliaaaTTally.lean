/-
  The contract of code.tally.
-/
import Derived.Test.YtclfbdfgmeliaaaTArr
import Derived.Test.YtclfbdfgmeliaaaTMath
namespace Go.Proofs.Ytclfbdfgmeliaaa
open Go.RowKit

/-- Lengths that may be, cell by cell. -/
theorem get_nats {zs : List Int} (hin : inZ zs = true) (s : Nat) (hs : s < zs.length) : zs[s]? = some ((ln (nats zs) s : Nat) : Int) := by
  conv => lhs; rw [← nats_back hin]
  rw [List.getElem?_map]
  unfold ln
  rw [List.getD_eq_getElem?_getD, List.getElem?_eq_getElem (by rw [nats_length]; exact hs)]
  rfl
theorem nats_15 {zs : List Int} (hin : inZ zs = true) (s : Nat) : ln (nats zs) s ≤ 15 := by
  unfold ln
  rw [List.getD_eq_getElem?_getD]
  cases hs : (nats zs)[s]? with
  | none => simp
  | some n =>
    have hm := List.mem_of_getElem? hs
    obtain ⟨z, hz, rfl⟩ := List.mem_map.1 hm
    have := List.all_eq_true.1 hin z hz
    simp at this
    simp
    omega

set_option maxRecDepth 4000 in
set_option maxHeartbeats 800000 in
theorem tallyC_any (v : Value) (zs : List Int) (w : World) (h : ReadsZ w v zs) (hin : inZ zs = true) (hlen : zs.length ≤ 256) :
    Calls Try.prog 55 #[v] w fun e w' => e = .returned (arr 16 (cntOf (nats zs))) ∧ Fr w w' (fun _ => False) := by
  obtain ⟨a0, c0, rfl, hc0⟩ := h.form
  have hget := get_nats hin
  have h15 := nats_15 hin
  obtain ⟨l, hl⟩ : ∃ l, l = nats zs := ⟨_, rfl⟩
  have hln : l.length = zs.length := by rw [hl, nats_length]
  rw [← hl] at hget h15 ⊢
  obtain ⟨n, hn⟩ : ∃ n, n = zs.length := ⟨_, rfl⟩
  rw [← hn] at h hc0 hlen hget hln ⊢
  have Hz : Hid (ReadsZ w (.slice a0 n c0) zs) := h
  have Hget : Hid _ := hget
  have H15 : Hid _ := h15
  have Hln : Hid _ := hln
  clear h hget h15 hln hn hl hin
  go_enter Try.func55, Try.ntmps55
  go_wp2_with fail
  rw [z16]
  have Hf0 : Hid (Fr w ((w.alloc (.cells Z16 102)).alloc (.cells Z16 102)) (fun _ => False)) := ((Fr.refl w _).alloc _).alloc _
  have Hb0 : Hid (Blk ((w.alloc (.cells Z16 102)).alloc (.cells Z16 102)) w.heap.size 102 16 (fun _ => 0)) := blk_alloc _ (heap_alloc_new w _)
  have Hb1 : Hid (Blk ((w.alloc (.cells Z16 102)).alloc (.cells Z16 102)) (w.heap.size + 1) 102 16 (fun _ => 0)) := by
    have := heap_alloc_new (w.alloc (.cells Z16 102)) (.cells Z16 102)
    rw [show (w.alloc (.cells Z16 102)).heap.size = w.heap.size + 1 by simp] at this
    exact this
  generalize (w.alloc (.cells Z16 102)).alloc (.cells Z16 102) = w2 at *
  obtain ⟨b0, hb0⟩ : ∃ b, b = w.heap.size := ⟨_, rfl⟩
  obtain ⟨b1, hb1⟩ : ∃ b, b = w.heap.size + 1 := ⟨_, rfl⟩
  rw [← hb0] at Hb0
  rw [← hb1] at Hb1
  rw [← hb1, ← hb0]
  have Hw0 : Hid (w.heap.size ≤ b0) := by show _ ≤ _; omega
  have Hw1 : Hid (w.heap.size ≤ b1) := by show _ ≤ _; omega
  have Hne : Hid (b0 ≠ b1) := by show _ ≠ _; omega
  clear hb0 hb1
  go_loopg [8] n (fun g I wr => ∃ i : Nat, g = n - i ∧ i ≤ n ∧ I = .int .i64 (i : Int) ∧ Blk wr b0 102 16 (fun _ => 0) ∧ Blk wr b1 102 16 (cntTo l i) ∧ Fr w wr (fun _ => False))
  case atStart => exact ⟨0, rfl, by omega, rfl, Hb0.out, Hb1.out.congr (fun j _ => (cntTo_zero l j).symm), Hf0.out⟩
  case round =>
    obtain ⟨i, hg, hi, rfl, hb0, hb1, hf⟩ := hrel
    have Hg : Hid _ := hg
    have Hc0 : Hid (Blk wr b0 _ 16 _) := hb0
    have Hc1 : Hid (Blk wr b1 _ 16 _) := hb1
    have Hf : Hid _ := hf
    clear hg hb0 hb1 hf
    by_cases hlt : i < n
    · obtain ⟨b, off, cp, e, hb, kx⟩ := (Hz.out.keep Hf.out).get i _ (Hget.out i hlt)
      simp only [Value.slice.injEq] at e
      obtain ⟨rfl, -, rfl⟩ := e
      have cx := kx wr (Fr.refl _ _)
      have hi1 : (i : Int) < (n : Int) := by omega
      obtain ⟨y, hy⟩ : ∃ y, y = ln l i := ⟨_, rfl⟩
      have hy15 := H15.out i
      rw [← hy] at cx hy15
      have hst := fun m => cntTo_step l i m (by rw [Hln.out]; exact hlt)
      rw [← hy] at hst
      have Hst : Hid _ := hst
      have Hy : Hid _ := hy
      clear kx hb hy hst
      by_cases hy0 : 0 < y
      · have cy := Hc1.out.cell y (by omega)
        have fy := Hc1.out.free y
        have hcb := cntTo_le l i y
        rw [Hln.out] at hcb
        have hy1 : (y : Int) < 16 := by omega
        have hy2 : (0 : Int) < (y : Int) := by omega
        have hb2 := Hc1.out.set y (cntTo l i y + 1)
        have hf2 := Hf.out.setCell ⟨b1, y, none⟩ (S := fun _ => False) (fun h => by have := Hw1.out; simp at h; omega) (.int .i64 ((cntTo l i y + 1 : Nat) : Int))
        have hb3 := Blk.frame Hc0.out (Fr.setCell (S := fun k => k = b1) (Fr.refl wr _) ⟨b1, y, none⟩ (fun _ => rfl) (.int .i64 ((cntTo l i y + 1 : Nat) : Int))) Hne.out
        have He : Hid (∀ j, j < 16 → upd (cntTo l i) y (cntTo l i y + 1) j = cntTo l (i + 1) j) := fun j _ => by
          unfold upd
          rw [Hst.out j]
          by_cases hj : j = y
          · subst hj; rw [if_pos rfl, if_pos ⟨rfl, hy0⟩]
          · rw [if_neg hj, if_neg (fun h => hj h.1.symm)]; rfl
        generalize cntTo l i y = c at cy hcb hb2 hf2 hb3 He
        have hcw : IntKind.i64.wrap ((c : Int) + 1) = ((c + 1 : Nat) : Int) := by rw [IntWalk.i64_in _ (by omega)]; omega
        have Hb2 : Hid (Blk (wr.setCell ⟨b1, y, none⟩ (.int .i64 ((c + 1 : Nat) : Int))) b1 _ 16 _) := hb2
        have Hb3 : Hid (Blk (wr.setCell ⟨b1, y, none⟩ (.int .i64 ((c + 1 : Nat) : Int))) b0 _ 16 _) := hb3
        have Hf2 : Hid _ := hf2
        clear hb2 hb3 hf2
        go_wp2
        go_roundg (n - (i + 1))
        case rel => exact ⟨i + 1, rfl, by omega, by go_num, Hb3.out, Hb2.out.congr He.out, Hf2.out⟩
        case measure => rw [Hg.out]; omega
      · have hy2 : ¬ (0 : Int) < (y : Int) := by omega
        have He : Hid (∀ j, j < 16 → cntTo l i j = cntTo l (i + 1) j) := fun j _ => by
          rw [Hst.out j, if_neg (by omega)]; rfl
        go_wp2
        go_roundg (n - (i + 1))
        case rel => exact ⟨i + 1, rfl, by omega, by go_num, Hc0.out, Hc1.out.congr He.out, Hf.out⟩
        case measure => rw [Hg.out]; omega
    · have hie : i = n := by omega
      have hi1 : ¬ (i : Int) < (n : Int) := by omega
      have hfin : Blk wr b1 102 16 (cntOf l) := Hc1.out.congr fun j _ => by unfold cntOf; rw [hie, Hln.out]
      have Hfin : Hid (Blk wr b1 102 16 (cntOf l)) := hfin
      have Hrg : Hid (wr.rangeAt b1 0 (row .i64 (fnRow 16 (cntOf l)))) := hfin.range 0 16 _ (by omega) (fun j _ => by rw [Nat.zero_add])
      have Hth : Hid (wr.there b0 0 (row .i64 (fnRow 16 (cntOf l))).toArray.size) := by
        have := Hc0.out.there 0 16 (by omega)
        rw [List.size_toArray, frow_len]
        exact this
      have Hsz : Hid ((Try.prog.info? 102).map (·.size) = some (row .i64 (fnRow 16 (cntOf l))).length) := by rw [frow_len]; exact sizeLen
      have Hb2 : Hid (Blk (wr.setCells b0 0 (row .i64 (fnRow 16 (cntOf l)))) b0 102 16 (cntOf l)) := (Hc0.out.setRow 0 16 (cntOf l)).congr fun j hj => by rw [if_pos (by omega)]; rfl
      have Hf2 : Hid (Fr w (wr.setCells b0 0 (row .i64 (fnRow 16 (cntOf l)))) (fun _ => False)) := Fr.setCells b0 (fun h => by have := Hw0.out; omega) _ _ Hf.out
      clear hfin hie
      go_wp2_with (first | refine wpList_load_mid rfl 102 _ rfl b1 0 rfl (row .i64 (fnRow 16 (cntOf l))) _ Hrg.out Try.underlying102 rfl Hsz.out ?_ | refine wpList_store_mid rfl 102 _ _ rfl b0 0 (row .i64 (fnRow 16 (cntOf l))).toArray rfl rfl Hth.out Hsz.out (frow_one _ _) ?_)
      refine bodyPost_ret (results_cell rfl rfl (Hb2.out.load 0 (cntOf l) (by omega) (fun j _ => by rw [Nat.zero_add]))) rfl ?_
      exact ⟨rfl, Hf2.out⟩

end Go.Proofs.Ytclfbdfgmeliaaa

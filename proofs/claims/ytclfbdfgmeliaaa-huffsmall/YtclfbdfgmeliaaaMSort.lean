/-
  The contract of merge's sorted: the coins by count, then by symbol.
-/
import Derived.Test.YtclfbdfgmeliaaaMCmp
import Derived.Test.YtclfbdfgmeliaaaMNums
import Derived.Test.YtclfbdfgmeliaaaMPack
import Derived.Shelf.SlSortCmp.NoneTotal
namespace Go.Proofs.Ytclfbdfgmeliaaa
open Go.RowKit
open Go.Sort (flatK get_flatK size_flatK HoldsK putRowK putRow putCells mapBlock onCells grow SWO PermIn SortedIn heap_grow_old)

theorem flat_xrow (d : List (Int × Int)) : (flatK enc2 2 d.toArray).toList = xrow d := by
  apply List.ext_getElem?
  intro t
  rcases Nat.lt_or_ge t (d.length * 2) with h | h
  · have e1 : (flatK enc2 2 d.toArray).toList[t]? = some ((enc2 d.toArray[t / 2]!)[t % 2]!) := by
      have := get_flatK enc2 2 d.toArray t (by simpa using h)
      rw [getElem!_pos _ t (by simpa using h)] at this
      rw [Array.getElem?_toList, Array.getElem?_eq_getElem (by simpa using h), this]
    have hq : t / 2 < d.length := by omega
    obtain ⟨h0, h1⟩ := xrow_get d (t / 2) d[t / 2] (List.getElem?_eq_getElem hq)
    rw [e1]
    have e2 : d.toArray[t / 2]! = d[t / 2] := by rw [getElem!_pos _ _ (by simpa using hq)]; simp
    rw [e2]
    rcases (by omega : t % 2 = 0 ∨ t % 2 = 1) with hm | hm
    · have e3 : (xrow d)[t]? = some (.int .i64 d[t / 2].1) := by rw [← h0]; congr 1; omega
      rw [hm, e3]
      simp [enc2]
    · have e3 : (xrow d)[t]? = some (.int .i64 d[t / 2].2) := by rw [← h1]; congr 1; omega
      rw [hm, e3]
      simp [enc2]
  · rw [List.getElem?_eq_none (by simpa using h), List.getElem?_eq_none (by rw [xrow_length]; exact h)]
theorem flat_get (d : List (Int × Int)) (t : Nat) (h : t < d.length * 2) : (xrow d)[t]? = some ((flatK enc2 2 d.toArray)[t]!) := by
  rw [← flat_xrow, Array.getElem?_toList, getElem!_pos _ t (by simpa using h), Array.getElem?_eq_getElem (by simpa using h)]

theorem own_holdsK {w : World} {g cap : Nat} {d : List (Int × Int)} (h : OwnX w (.slice (some ⟨g, 0, none⟩) d.length cap) d) : HoldsK enc2 2 w g 0 d.toArray := by
  intro j hj
  have hj' : j < d.length * 2 := by simpa using hj
  have h1 := World.ownsRow.cellAt h j hj'
  have h2 := World.ownsRow.frozenAt h j
  rw [flat_get d j hj'] at h1
  rw [Nat.zero_add]
  exact ⟨h1, h2⟩

theorem own_sorted {w : World} {g cap : Nat} {d : List (Int × Int)} (h : OwnX w (.slice (some ⟨g, 0, none⟩) d.length cap) d) (d' : Array (Int × Int)) (hl : d'.size = d.length) (n : Nat) (os : Array Obj) :
    OwnX (sortWorldK enc2 2 w g 0 n d' os) (.slice (some ⟨g, 0, none⟩) d.length cap) d'.toList ∧ Fr w (sortWorldK enc2 2 w g 0 n d' os) (fun k => k = g) := by
  rcases h.2 with ⟨h', _⟩ | ⟨g', cap', cur, h', hb, hg, hnc, hcm, hcs, htake⟩
  · simp at h'
  · simp only [Value.slice.injEq, Option.some.injEq, Addr.mk.injEq, and_true, true_and] at h'
    obtain ⟨rfl, rfl⟩ := h'
    have hgs : g < w.heap.size := lt_of_block hg
    have hm : ∀ k, (putRowK enc2 2 (Go.Sort.ahead w n) g 0 d').heap[k]? = if g = k then (w.heap[k]?).map (onCells (putCells id 0 (flatK enc2 2 d'))) else w.heap[k]? := fun k => by
      show ((w.heap.modify g (onCells (putCells id 0 (flatK enc2 2 d'))))[k]?) = _
      rw [Array.getElem?_modify]
    have hsz : (putRowK enc2 2 (Go.Sort.ahead w n) g 0 d').heap.size = w.heap.size := by
      show (w.heap.modify g (onCells (putCells id 0 (flatK enc2 2 d')))).size = _
      simp
    have hk : ∀ k, k < w.heap.size → (sortWorldK enc2 2 w g 0 n d' os).heap[k]? = if g = k then (w.heap[k]?).map (onCells (putCells id 0 (flatK enc2 2 d'))) else w.heap[k]? := fun k hk => by
      unfold sortWorldK
      rw [heap_grow_old _ _ (by rw [hsz]; exact hk), hm]
    refine ⟨⟨by rw [xrow_length], .inr ⟨g, cap, putCells id 0 (flatK enc2 2 d') cur, by simp [hl], Nat.zero_le _, ?_, by simpa [hl] using hnc, hcm, by simpa [putCells] using hcs, ?_⟩⟩, ⟨rfl, rfl, rfl, ?_, fun k hk1 hk2 => ?_⟩⟩
    · rw [hk g hgs, if_pos rfl, hg]
      rfl
    · apply List.ext_getElem?
      intro t
      rw [← flat_xrow, List.getElem?_take]
      have e0 : d'.toList.toArray = d' := by simp
      rw [e0]
      by_cases ht : t < d'.toList.length * 2
      · rw [if_pos ht, Array.getElem?_toList, Array.getElem?_toList]
        have ht' : t < (flatK enc2 2 d').size := by simpa using ht
        have htc : t < cur.size := by rw [hcs]; simp at ht; have := Nat.mul_le_mul_right 2 hnc; omega
        simp only [putCells, Array.getElem?_mapIdx]
        rw [Array.getElem?_eq_getElem htc, Option.map_some, if_pos (by omega), Array.getElem?_eq_getElem ht', getElem!_pos _ _ (by simpa using ht')]
        simp
      · rw [if_neg ht, List.getElem?_eq_none (by simpa using ht)]
    · unfold sortWorldK
      rw [Go.Sort.size_grow, hsz]
      omega
    · rw [hk k hk1, if_neg (fun e => hk2 e.symm)]

/-- The library's sort at items that the call owns. -/
theorem sort_any (wt : Nat → Nat) (n : Nat) (v : Value) (w : World) (h : OwnX w v ((some_ wt n).map (cItm wt))) (hl : (some_ wt n).length ≤ 1000000) :
    Calls Try.prog 48 #[v, .func (.func 49) #[] #[]] w fun e w' => e = .returned (.tuple #[]) ∧ OwnX w' v ((symsTo wt n).map (cItm wt)) ∧ Fr w w' (fun k => v.ownBlock = some k) := by
  have hperm := syms_perm wt n
  have hlen : (symsTo wt n).length = (some_ wt n).length := hperm.length_eq
  rcases h.2 with ⟨rfl, h0⟩ | ⟨g, cap, cur, rfl, hrest⟩
  · rw [List.length_map] at h0
    have hnone := AnyF.slices_SortFunc_none sortIt none 0 (.func (.func 49) #[] #[]) w
    change Calls Try.prog 48 _ _ _ at hnone
    refine hnone.mono ?_
    rintro e w' ⟨rfl, rfl⟩
    have e1 : symsTo wt n = [] := List.eq_nil_of_length_eq_zero (by omega)
    rw [e1]
    exact ⟨rfl, OwnX.nil _, Fr.refl _ _⟩
  · have hgs : g < w.heap.size := (World.ownsRow.lt h g rfl).2
    have eg : ∀ args w, (callFunc 49 args).run Try.prog w = .ok (.enter 49 args) w := enters_of Try.func49 (by kernel_rfl) rfl
    obtain ⟨d, hd⟩ : ∃ d, d = (some_ wt n).map (cItm wt) := ⟨_, rfl⟩
    rw [← hd] at h ⊢
    have hdl : d.length ≤ 1000000 := by rw [hd, List.length_map]; exact hl
    have hcon := AnyQ.slices_SortFunc sortIt 2 Try.isAgg77 Try.sizeOf77 enc2 (fun _ => rfl) (fun x v hv => by simp [enc2] at hv; rcases hv with rfl | rfl <;> rfl) cfI swoI 49 #[] g 0 cap d.toArray w eg (cmpLays g 0 d.toArray.size w) (own_holdsK h) hgs (by simp; omega)
    change Calls Try.prog 48 _ _ _ at hcon
    have e1 : d.toArray.size = d.length := by simp
    rw [e1] at hcon
    refine hcon.mono ?_
    rintro e w' ⟨rfl, d', m, os, hp, hs, rfl⟩
    have hsz : d'.size = d.length := by rw [hp.1]; simp
    obtain ⟨h1, h2⟩ := own_sorted h d' hsz m os
    have hpl : List.Perm d'.toList d := by
      have h3 := hp.2.2
      have e1 : d'.extract 0 d.length = d' := by rw [← hsz]; exact Array.extract_size
      have e2 : d.toArray.extract 0 d.length = d.toArray := by simp
      rw [e1, e2] at h3
      exact h3
    have hss : d'.toList.Pairwise fun a b => ltI b a = false := by
      rw [List.pairwise_iff_getElem]
      intro i j hi hj hij
      have hi' : i < d'.size := by simpa using hi
      have hj' : j < d'.size := by simpa using hj
      have := hs i j (Nat.zero_le _) hij (by rw [← hsz]; exact hj')
      rw [ltOf_cfI, getElem!_pos d' j hj', getElem!_pos d' i hi'] at this
      simpa using this
    have heq := sorted_is wt n d'.toList (by rw [← hd]; exact hpl) hss
    rw [heq] at h1
    refine ⟨rfl, h1, h2.mono (fun k _ hk => by rw [hk]; rfl)⟩

set_option maxRecDepth 4000 in
set_option maxHeartbeats 800000 in
theorem sorted_any (v : Value) (zs : List Int) (w : World) (h : ReadsZ w v zs) (hl : zs.length ≤ 256) :
    Calls Try.prog 35 #[v] w fun e w' => ∃ sv, e = .returned sv ∧ OwnL (cnt (zs.map clampN)) w' sv (coin (there (zs.map clampN))) ∧ Fr w w' (fun _ => False) := by
  obtain ⟨a0, c0, rfl, hc0⟩ := h.form
  have Hz : Hid (ReadsZ w (.slice a0 zs.length c0) zs) := h
  obtain ⟨n, hn⟩ : ∃ n, n = zs.length := ⟨_, rfl⟩
  rw [← hn] at Hz hc0 hl ⊢
  have Hn : Hid _ := hn
  clear h hn
  obtain ⟨wt, hwt⟩ : ∃ wt, wt = cnt (zs.map clampN) := ⟨_, rfl⟩
  have Hwt : Hid _ := hwt
  have Hth : Hid (there (zs.map clampN) = symsTo wt n) := by show _ = _; unfold there; rw [← hwt, List.length_map, Hn.out]
  rw [← hwt, Hth.out]
  clear hwt
  go_enter Try.func35, Try.ntmps35
  go_wp2_with fail
  go_loopg [3, 8] n (fun g S I wr => ∃ i : Nat, g = n - i ∧ i ≤ n ∧ I = .int .i64 (i : Int) ∧ OwnX wr S ((some_ wt i).map (cItm wt)) ∧ (some_ wt i).length ≤ i ∧ Fr w wr (fun _ => False) ∧ (∀ k, S.ownBlock = some k → w.heap.size ≤ k))
  case atStart => exact ⟨0, rfl, by omega, rfl, OwnX.nil _, Nat.le_refl _, Fr.refl _ _, fun k hk => (by simp [Value.ownBlock] at hk)⟩
  case round =>
    obtain ⟨i, hg, hi, rfl, ho, hil, hf, hnew⟩ := hrel
    have Hg : Hid _ := hg
    have Ho : Hid (OwnX wr u3 ((some_ wt i).map (cItm wt))) := ho
    have Hnew : Hid _ := hnew
    clear hg ho hnew
    by_cases hlt : i < n
    · obtain ⟨x, hx⟩ : ∃ x, zs[i]? = some x := ⟨_, List.getElem?_eq_getElem (by rw [← Hn.out]; exact hlt)⟩
      obtain ⟨b, off, cp, e, hb0, kx⟩ := (Hz.out.keep hf).get i x hx
      simp only [Value.slice.injEq] at e
      obtain ⟨rfl, -, rfl⟩ := e
      have cx := kx wr (Fr.refl _ _)
      have hwi : wt i = clampN x := by
        rw [Hwt.out]
        unfold cnt
        rw [List.getD_eq_getElem?_getD, List.getElem?_map, hx]
        rfl
      have hi1 : (i : Int) < (n : Int) := by omega
      clear kx hx
      by_cases h0 : 0 < x
      · have hne : wt i ≠ 0 := by rw [hwi]; unfold clampN; omega
        have Hs : Hid ((some_ wt (i + 1)).map (cItm wt) = (some_ wt i).map (cItm wt) ++ [(((clampN x : Nat) : Int), (i : Int))]) := by
          show _ = _
          rw [some_succ, if_neg hne, List.map_append, List.map_singleton]
          unfold cItm
          rw [hwi]
        have Hs2 : Hid ((some_ wt (i + 1)).length ≤ i + 1) := by show _ ≤ _; rw [some_succ, if_neg hne]; simp; omega
        clear hwi hne
        go_wp2_with fail
        refine (counted_any _ _).mono ?_
        rintro e w' ⟨rfl, rfl⟩
        generalize clampN x = c at Hs ⊢
        obtain ⟨v5, w5, hrun5, ho5, hf5, hm5⟩ := app_x_lit w' u3 _ (c : Int) (i : Int) Ho.out (by simp; omega)
        rw [← Hs.out] at ho5
        have Hro : Hid _ := ho5
        have Hfo : Hid (Fr w w5 (fun _ => False)) := hf.newer hf5 (fun k hk => Hnew.out k hk)
        have Hnw : Hid (∀ k, v5.ownBlock = some k → w.heap.size ≤ k) := fun k hk => by
          rcases hm5 k hk with h | h
          · exact Hnew.out k h
          · have := hf.size; omega
        clear ho5 hf5 hm5
        go_wp2_with (at_builtin; refine wpList_append_run rfl (.tmp 15) (.tmp 20) 74 rfl rfl rfl hrun5 ?_)
        go_roundg (n - (i + 1))
        case rel => exact ⟨i + 1, rfl, by omega, by go_num, Hro.out, Hs2.out, Hfo.out, Hnw.out⟩
        case measure => rw [Hg.out]; omega
      · have hze : wt i = 0 := by rw [hwi]; unfold clampN; omega
        have Hs : Hid (some_ wt (i + 1) = some_ wt i) := by show _ = _; rw [some_succ, if_pos hze]
        clear hwi hze
        go_wp2_with fail
        go_roundg (n - (i + 1))
        case rel => exact ⟨i + 1, rfl, by omega, by go_num, by rw [Hs.out]; exact Ho.out, by rw [Hs.out]; omega, hf, Hnew.out⟩
        case measure => rw [Hg.out]; omega
    · obtain rfl : i = n := by omega
      go_wp2_with fail
      refine (sort_any wt i u3 wr Ho.out (by omega)).mono ?_
      rintro e w1 ⟨rfl, ho1, hf1⟩
      have hfw := hf.newer hf1 (fun k hk => Hnew.out k hk)
      go_wp2_with fail
      go_ret
      refine ⟨_, rfl, ?_, hfw⟩
      unfold OwnL
      rw [itm_coin]
      exact ho1

end Go.Proofs.Ytclfbdfgmeliaaa

/-
  The contract of snap's Turn, and of the search in it.
-/
import Derived.Test.YthdlhdeaeaahoaaSPConcat
import Derived.Test.YthdlhdeaeaahoaaEPRise
import Derived.Test.YthdlhdeaeaahoaaJ2
import Derived.Test.YthdlhdeaeaahoaaXGood
namespace Go.Proofs.Ythdlhdeaeaahoaa
open Go.RowKit

theorem posF_before {l : List Eg} {e x : Eg} {i : Nat} (h : i < posF l e) (hx : l[i]? = some x) : eLess x e = true := by
  have h1 : (l.take (posF l e))[i]? = some x := by rw [List.getElem?_take, if_pos h]; exact hx
  rw [posF_take] at h1
  exact mem_takeWhile_less (List.mem_of_getElem? h1)
theorem posF_behind {l : List Eg} {e x : Eg} {i : Nat} (hr : eRising l = true) (h : posF l e ≤ i) (hx : l[i]? = some x) : eLess x e = false := by
  unfold posF at h
  induction l generalizing i with
  | nil => simp at hx
  | cons y l ih =>
    have hp := eRising_pw.1 hr
    rw [List.pairwise_cons] at hp
    rw [List.takeWhile_cons] at h
    split at h
    · cases i with
      | zero => simp at h
      | succ i => exact ih (eRising_pw.2 hp.2) (i := i) (by simpa using h) (by simpa using hx)
    · rename_i hy
      have hy : eLess y e = false := by simpa using hy
      cases i with
      | zero => simp at hx; subst hx; exact hy
      | succ i =>
        have h1 := hp.1 x (List.mem_of_getElem? (i := i) (by simpa using hx))
        cases h2 : eLess x e with
        | false => rfl
        | true => rw [eLess_trans h1 h2] at hy; cases hy
/-- Who stands at the place. -/
theorem posF_has {l : List Eg} {e x : Eg} (hr : eRising l = true) (hx : l[posF l e]? = some x) : decide (e ∈ l) = decide (x = e) := by
  by_cases he : x = e
  · subst he
    rw [decide_eq_true rfl]
    exact decide_eq_true (List.mem_of_getElem? hx)
  · rw [decide_eq_false he]
    refine decide_eq_false (fun hm => ?_)
    obtain ⟨j, hj⟩ := List.getElem?_of_mem hm
    have hjl := (List.getElem?_eq_some_iff.1 hj).1
    by_cases h1 : j < posF l e
    · have := posF_before h1 hj
      rw [eLess_irrefl] at this
      cases this
    · have h2 : eLess x e = false := posF_behind hr (i := posF l e) (Nat.le_refl _) hx
      have hlt : posF l e < j := by
        rcases Nat.lt_or_ge (posF l e) j with h3 | h3
        · exact h3
        · obtain rfl : j = posF l e := by omega
          rw [hx] at hj
          simp only [Option.some.injEq] at hj
          exact absurd hj he
      have hxl := (List.getElem?_eq_some_iff.1 hx)
      obtain ⟨hx1, hx2⟩ := hxl
      obtain ⟨hj1, hj2⟩ := List.getElem?_eq_some_iff.1 hj
      have h4 := List.pairwise_iff_getElem.1 (eRising_pw.1 hr) (posF l e) j hx1 hj1 hlt
      rw [hx2, hj2, h2] at h4
      cases h4
theorem posF_end {l : List Eg} {e : Eg} (h : l.length ≤ posF l e) : e ∉ l := by
  intro hm
  obtain ⟨j, hj⟩ := List.getElem?_of_mem hm
  have hjl := (List.getElem?_eq_some_iff.1 hj).1
  have := posF_before (e := e) (i := j) (by omega) hj
  rw [eLess_irrefl] at this
  cases this
theorem posF_idx {l : List Eg} {e : Eg} (hx : l[posF l e]? = some e) : l.idxOf e = posF l e :=
  idxOf_first hx (fun j x hj hjx he => by
    have := posF_before hj hjx
    rw [he, eLess_irrefl] at this
    cases this)

set_option maxRecDepth 4000 in
set_option maxHeartbeats 400000 in
theorem searchT_any (c0 c1 : Value) (n k : Nat) (p : Nat → Bool) (w : World) (hn : n ≤ 1000000) (hk : k ≤ n) (h1 : ∀ i, i < k → p i = false) (h2 : ∀ i, k ≤ i → i < n → p i = true)
    (hf : ∀ z (i : Nat), Fr w z (fun _ => False) → i < n → Calls Try.prog 37 #[.int .i64 (i : Int), c0, c1] z fun e w' => e = .returned (.bool (p i)) ∧ Fr z w' (fun _ => False)) :
    Calls Try.prog 36 #[.int .i64 (n : Int), .func (.func 37) #[] #[c0, c1]] w fun e w' => e = .returned (.int .i64 (k : Int)) ∧ Fr w w' (fun _ => False) := by
  have HF : Hid _ := hf
  have H1 : Hid _ := h1
  have H2 : Hid _ := h2
  have Hn : Hid _ := hn
  have Hk : Hid _ := hk
  clear hf h1 h2 hk
  go_enter Try.func36, Try.ntmps36
  go_wp2
  go_loopg [5, 6] n (fun g s5 s6 wr => ∃ lo hi : Nat, g = hi - lo ∧ s5 = .int .i64 (lo : Int) ∧ s6 = .int .i64 (hi : Int) ∧ lo ≤ k ∧ k ≤ hi ∧ hi ≤ n ∧ Fr w wr (fun _ => False))
  case atStart => exact ⟨0, n, by omega, rfl, rfl, by omega, Hk.out, Nat.le_refl _, Fr.refl w _⟩
  case round =>
    obtain ⟨lo, hi, hg, rfl, rfl, hlk, hkh, hin, hf⟩ := hrel
    have Hf : Hid (Fr w wr (fun _ => False)) := hf
    clear hf
    by_cases hlt : lo < hi
    · have hc := HF.out wr ((lo + hi) / 2) Hf.out (by omega)
      rw [show (((lo + hi) / 2 : Nat) : Int) = ((lo : Int) + (hi : Int)) / 2 by omega] at hc
      cases hp : p ((lo + hi) / 2) <;> rw [hp] at hc
      · have HP : Hid (p ((lo + hi) / 2) = false) := hp
        clear hp
        go_wp2_with fail
        refine hc.mono ?_
        rintro e w1 ⟨rfl, g1⟩
        have G1 : Hid (Fr w w1 (fun _ => False)) := Hf.out.none g1
        clear g1
        go_wp2_with fail
        go_roundg (hi - ((lo + hi) / 2 + 1))
        case measure => omega
        case rel =>
          have hkk : (lo + hi) / 2 + 1 ≤ k := by
            refine Nat.lt_of_not_le fun hle => ?_
            have := H2.out _ hle (by omega)
            rw [HP.out] at this
            cases this
          exact ⟨(lo + hi) / 2 + 1, hi, rfl, by rw [show ((lo : Int) + (hi : Int)) / 2 + 1 = (((lo + hi) / 2 + 1 : Nat) : Int) by omega], rfl, hkk, hkh, hin, G1.out⟩
      · have HP : Hid (p ((lo + hi) / 2) = true) := hp
        clear hp
        go_wp2_with fail
        refine hc.mono ?_
        rintro e w1 ⟨rfl, g1⟩
        have G1 : Hid (Fr w w1 (fun _ => False)) := Hf.out.none g1
        clear g1
        go_wp2_with fail
        go_roundg ((lo + hi) / 2 - lo)
        case measure => omega
        case rel =>
          have hkk : k ≤ (lo + hi) / 2 := by
            refine Nat.le_of_not_lt fun hle => ?_
            have := H1.out _ hle
            rw [HP.out] at this
            cases this
          exact ⟨lo, (lo + hi) / 2, rfl, rfl, by rw [show ((lo : Int) + (hi : Int)) / 2 = (((lo + hi) / 2 : Nat) : Int) by omega], hlk, hkk, by omega, G1.out⟩
    · obtain rfl : lo = k := by omega
      go_wp2
      go_ret
      exact ⟨rfl, Hf.out⟩

set_option maxRecDepth 4000 in
set_option maxHeartbeats 800000 in
theorem turnClosure_any (p q n i : Nat) (a0 : Option Addr) (c0 : Nat) (e1 e2 : Nat) (es : List Eg) (y : Eg) (w : World) (hp : w.cell? ⟨p, 0, none⟩ = some (.slice a0 n c0)) (hq : w.cell? ⟨q, 1, none⟩ = some (.int .u32 (e1 : Int)) ∧ w.cell? ⟨q, 2, none⟩ = some (.int .u32 (e2 : Int))) (h : RdE w (.slice a0 n c0) es) (hm : es.length = n) (hx : es[i]? = some y) :
    Calls Try.prog 37 #[.int .i64 (i : Int), .pointer (some ⟨p, 0, none⟩), .pointer (some ⟨q, 0, none⟩)] w fun e w' => e = .returned (.bool (!eLess y (e1, e2))) ∧ Fr w w' (fun _ => False) := by
  obtain ⟨y1, y2⟩ := y
  obtain ⟨bk, off, cap, e3, -, hca⟩ := h.get i _ hx
  have hlt : i < es.length := (List.getElem?_eq_some_iff.1 hx).1
  rw [hm] at hlt e3
  simp only [Value.slice.injEq] at e3
  obtain ⟨rfl, -, rfl⟩ := e3
  have hin : (i : Int) < (n : Int) := by omega
  have hi0 : (0 : Int) ≤ (i : Int) := by omega
  have hle := less_any (y1, y2) (e1, e2)
  obtain ⟨B, hB⟩ : ∃ B, B = eLess (y1, y2) (e1, e2) := ⟨_, rfl⟩
  rw [← hB] at hle ⊢
  unfold edgeV at hle
  dsimp only at hle
  have Fd : Hid (Fr w w.drew (fun _ => False)) := (Fr.refl w (fun _ => False)).drew
  have keep : ∀ (k j : Nat) (v : Value), w.cell? ⟨k, j, none⟩ = some v → ∀ z, Fr w.drew z (fun _ => False) → z.cell? ⟨k, j, none⟩ = some v := fun k j v hv z hz => by
    have hbl := World.block_lt_of_cell? _ _ hv
    exact (World.cell?_of_block (w := w) ((Fd.out.none hz).block k hbl (fun h => h))).trans hv
  have bp := keep _ _ _ hp
  have q1 := keep _ _ _ hq.1
  have q2 := keep _ _ _ hq.2
  have k0 : ∀ z, Fr w.drew z (fun _ => False) → z.cell? ⟨bk, off + i * 2, none⟩ = some (.int .u32 (y1 : Int)) := fun z hz => (hca z (Fd.out.none hz)).1
  have k1 : ∀ z, Fr w.drew z (fun _ => False) → z.cell? ⟨bk, off + i * 2 + 1, none⟩ = some (.int .u32 (y2 : Int)) := fun z hz => (hca z (Fd.out.none hz)).2
  clear hca hp hq h hm hx hlt keep hB
  go_enter Try.func37, Try.ntmps37
  go_upto_region 1 with fail
  refine wp_region_tree (fun _ => False) (.take 0 (.take 1 (.take 2 (.take 3 (.take 4 (.take 5 (.one 6 (.take 7 (.take 8 .nil))))))))) (by kernel_rfl) (by kernel_rfl) (by decide) (by kernel_rfl) ?_
  iterate 6 (refine wpT_take (v := ?_) rfl rfl (fun x hx => ?_) ?_; rotate_left; (focus (go_simp; with_reducible rfl)); simp only [Act.put, List.setIfInBounds_toArray, List.set_cons_zero, List.set_cons_succ])
  refine wpT_one rfl rfl (fun K hK => ?_)
  go_simp
  refine (hle _).mono ?_
  rintro r x3 ⟨rfl, g⟩
  refine hK _ _ g ?_
  have G3 : Hid (Fr w x3 (fun _ => False)) := Fd.out.none g
  clear hK K bp q1 q2 k0 k1 hle g
  repeat (refine wpT_take (v := ?_) rfl rfl (fun x hx => ?_) ?_; rotate_left; (focus (go_simp; with_reducible rfl)); simp only [Act.put, List.setIfInBounds_toArray, List.set_cons_zero, List.set_cons_succ])
  unfold wpT
  go_wp2_with fail
  go_ret
  exact ⟨rfl, G3.out⟩

set_option maxRecDepth 4000 in
set_option maxHeartbeats 3200000 in
theorem turnE_any (v : Value) (es : List Eg) (x : Ev) (w : World) (h : RdE w v es) (hl : es.length ≤ 100000) : Calls Try.prog 18 #[v, evV x] w fun r w' =>
    (∃ v', r = .returned (.tuple #[v', .bool (turnF es x.2.1 x.2.2).isSome]) ∧ RdE w' v' ((turnF es x.2.1 x.2.2).getD [])) ∧ Fr w w' (fun _ => False) := by
  have hris := fun z hz => rising_any v es z hz (by omega)
  obtain ⟨a0, c0, rfl, hc0⟩ := h.form
  obtain ⟨n, hn⟩ : ∃ n, n = es.length := ⟨_, rfl⟩
  obtain ⟨t, ⟨e1, e2⟩, ad⟩ := x
  rw [← hn] at h hl hc0 hris ⊢
  have Hr : Hid (RdE w (.slice a0 n c0) es) := h
  have Hn : Hid _ := hn
  obtain ⟨TF, hTF⟩ : ∃ T, T = turnF es (e1, e2) ad := ⟨_, rfl⟩
  obtain ⟨R, hR⟩ : ∃ R, R = eRising es := ⟨_, rfl⟩
  rw [← hR] at hris
  unfold evV eventV
  dsimp only
  rw [← hTF]
  have HTF : Hid _ := hTF
  have HR : Hid _ := hR
  clear h hn hTF hR
  go_enter Try.func18, Try.ntmps18
  go_upto_region 1 with fail
  obtain ⟨p, hp⟩ : ∃ p, p = w.heap.size := ⟨_, rfl⟩
  obtain ⟨q, hq⟩ : ∃ q, q = p + 1 := ⟨_, rfl⟩
  obtain ⟨w1, hw1⟩ : ∃ x, x = (w.alloc (.cells #[.slice a0 n c0] 33)).alloc (.cells #[.int .i64 t, .int .u32 (e1 : Int), .int .u32 (e2 : Int), .bool ad] 53) := ⟨_, rfl⟩
  rw [← hw1, ← hp, ← hq]
  have Hp : Hid (∀ z, Fr w1 z (fun _ => False) → z.cell? ⟨p, 0, none⟩ = some (.slice a0 n c0)) := fun z hz => by
    have h1 : w1.heap[p]? = some (.cells #[.slice a0 n c0] 33 (0, 0)) := by rw [hw1, hp]; exact blk_alloc _ (heap_alloc_new _ _)
    have h2 := hz.kept h1 (fun h => h)
    simp [World.cell?, h2]
  have Hq : Hid (∀ z, Fr w1 z (fun _ => False) → z.heap[q]? = some (.cells #[.int .i64 t, .int .u32 (e1 : Int), .int .u32 (e2 : Int), .bool ad] 53 (0, 0))) := fun z hz => by
    have h1 : w1.heap[q]? = some (.cells #[.int .i64 t, .int .u32 (e1 : Int), .int .u32 (e2 : Int), .bool ad] 53 (0, 0)) := by
      have h0 := heap_alloc_new (w.alloc (.cells #[.slice a0 n c0] 33)) (.cells #[.int .i64 t, .int .u32 (e1 : Int), .int .u32 (e2 : Int), .bool ad] 53)
      rw [hw1, hq, hp]
      simpa using h0
    exact hz.kept h1 (fun h => h)
  have Hw1 : Hid (Fr w w1 (fun _ => False)) := by show Fr _ _ _; rw [hw1]; exact ((Fr.refl _ _).alloc _).alloc _
  have Hr1 : Hid (∀ z, Fr w1 z (fun _ => False) → RdE z (.slice a0 n c0) es) := fun z hz => Hr.out.keep (Hw1.out.none hz)
  clear hp hq hw1
  have hris1 := hris w1 (Hr1.out w1 (Fr.refl _ _))
  clear hris
  have cp := Hp.out w1 (Fr.refl _ _)
  go_wp2_with fail
  refine hris1.mono ?_
  rintro r x1 ⟨rfl, g⟩
  have G1 : Hid (Fr w1 x1 (fun _ => False)) := g
  clear g hris1 cp
  cases R with
  | false =>
    have Hno : Hid (TF = none) := by show _ = _; rw [HTF.out]; unfold turnF; exact if_pos (.inl HR.out.symm)
    obtain rfl := Hno.out
    have Hfo : Hid (Fr w x1 (fun _ => False)) := Hw1.out.none G1.out
    go_wp2_with fail
    go_ret2
    exact ⟨⟨_, rfl, RdE.nil _⟩, Hfo.out⟩
  | true =>
    obtain ⟨k, hk⟩ : ∃ k, k = posF es (e1, e2) := ⟨_, rfl⟩
    have hkn : k ≤ n := by rw [hk, Hn.out]; exact posF_le _ _
    have Hk : Hid _ := hk
    clear hk
    have hse := searchT_any (.pointer (some ⟨p, 0, none⟩)) (.pointer (some ⟨q, 0, none⟩)) n k (fun i => match es[i]? with | some x => !eLess x (e1, e2) | none => false) x1 (by omega) hkn
      (fun i hi => by
        obtain ⟨x, hx⟩ : ∃ x, es[i]? = some x := ⟨_, List.getElem?_eq_getElem (by rw [← Hn.out]; omega)⟩
        show (match es[i]? with | some x => !eLess x (e1, e2) | none => false) = false
        rw [hx]
        show (!eLess x (e1, e2)) = false
        rw [posF_before (by rw [← Hk.out]; exact hi) hx]; rfl)
      (fun i hi hin => by
        obtain ⟨x, hx⟩ : ∃ x, es[i]? = some x := ⟨_, List.getElem?_eq_getElem (by rw [← Hn.out]; omega)⟩
        show (match es[i]? with | some x => !eLess x (e1, e2) | none => false) = true
        rw [hx]
        show (!eLess x (e1, e2)) = true
        rw [posF_behind HR.out.symm (by rw [← Hk.out]; exact hi) hx]; rfl)
      (fun z i hz hin => by
        obtain ⟨x, hx⟩ : ∃ x, es[i]? = some x := ⟨_, List.getElem?_eq_getElem (by rw [← Hn.out]; omega)⟩
        have h4 := four_cells (Hq.out z (G1.out.none hz))
        have := turnClosure_any p q n i a0 c0 e1 e2 es x z (Hp.out z (G1.out.none hz)) ⟨h4.2.1, h4.2.2.1⟩ (Hr1.out z (G1.out.none hz)) Hn.out.symm hx
        show Calls _ _ _ _ fun e w' => e = .returned (.bool (match es[i]? with | some x => !eLess x (e1, e2) | none => false)) ∧ _
        rw [hx]
        exact this)
    have cp := Hp.out x1 G1.out
    go_wp2_with fail
    refine hse.mono ?_
    rintro r x2 ⟨rfl, g⟩
    have G2 : Hid (Fr w1 x2 (fun _ => False)) := G1.out.none g
    clear g hse cp
    go_upto_region 4 with fail
    obtain ⟨D, hD⟩ : ∃ D, D = decide ((e1, e2) ∈ es) := ⟨_, rfl⟩
    have HD : Hid _ := hD
    clear hD
    have hki : (k : Int) ≤ (n : Int) := by omega
    have hk0 : (0 : Int) ≤ (k : Int) := by omega
    have hkc : (k : Int) ≤ (c0 : Int) := by omega
    have hkcn : k ≤ c0 := by omega
    have Fd : Hid (Fr w1 x2.drew (fun _ => False)) := G2.out.drew
    have bp : ∀ z, Fr x2.drew z (fun _ => False) → z.cell? ⟨p, 0, none⟩ = some (.slice a0 n c0) := fun z hz => Hp.out z (Fd.out.none hz)
    have q1 : ∀ z, Fr x2.drew z (fun _ => False) → z.cell? ⟨q, 1, none⟩ = some (.int .u32 (e1 : Int)) := fun z hz => (four_cells (Hq.out z (Fd.out.none hz))).2.1
    have q2 : ∀ z, Fr x2.drew z (fun _ => False) → z.cell? ⟨q, 2, none⟩ = some (.int .u32 (e2 : Int)) := fun z hz => (four_cells (Hq.out z (Fd.out.none hz))).2.2.1
    go_cut [7] from 15 to 27 (fun s7 wr => s7 = .bool D ∧ Fr w1 wr (fun _ => False))
    case first =>
      refine wp_region_tree (fun _ => False) (.take 0 (.take 1 (.take 2 (.take 3 (.take 4 (.take 5 (.take 6 (.take 7 (.take 8 (.take 9 (.take 10 (.take 11 (.take 12 (.take 13 .nil)))))))))))))) (by kernel_rfl) (by kernel_rfl) (by decide) (by kernel_rfl) ?_
      by_cases hlt : k < n
      · have hin : (k : Int) < (n : Int) := by omega
        have hin' : decide (k < n) = true := decide_eq_true hlt
        obtain ⟨⟨a, b⟩, ha⟩ : ∃ a, es[k]? = some a := ⟨_, List.getElem?_eq_getElem (by rw [← Hn.out]; exact hlt)⟩
        have HDD : Hid (D = decide ((a, b) = (e1, e2))) := by show _ = _; rw [HD.out]; exact posF_has HR.out.symm (by rw [← Hk.out]; exact ha)
        obtain ⟨bk, off, cap, e3, -, hca⟩ := (Hr1.out x2.drew Fd.out).get k _ ha
        rw [← Hn.out] at e3
        simp only [Value.slice.injEq] at e3
        obtain ⟨rfl, -, rfl⟩ := e3
        have k0 : ∀ z, Fr x2.drew z (fun _ => False) → z.cell? ⟨bk, off + k * 2, none⟩ = some (.int .u32 (a : Int)) := fun z hz => (hca z hz).1
        have k1 : ∀ z, Fr x2.drew z (fun _ => False) → z.cell? ⟨bk, off + k * 2 + 1, none⟩ = some (.int .u32 (b : Int)) := fun z hz => (hca z hz).2
        clear hca ha
        iterate 11 (refine wpT_take (v := ?_) rfl rfl (fun x hx => ?_) ?_; rotate_left; (focus (go_simp; with_reducible rfl)); simp only [Act.put, List.setIfInBounds_toArray, List.set_cons_zero, List.set_cons_succ])
        refine wpT_take (v := .bool D) rfl rfl (fun x hx => ?_) ?_
        · rw [HDD.out]
          go_simp
          by_cases h1 : a = e1 <;> by_cases h2 : b = e2 <;> simp [h1, h2, Int.ofNat_inj]
        simp only [Act.put, List.setIfInBounds_toArray, List.set_cons_zero, List.set_cons_succ]
        iterate 2 (refine wpT_take (v := ?_) rfl rfl (fun x hx => ?_) ?_; rotate_left; (focus (go_simp; with_reducible rfl)); simp only [Act.put, List.setIfInBounds_toArray, List.set_cons_zero, List.set_cons_succ])
        unfold wpT
        go_wp2_with fail
        go_meet
        case rel => exact ⟨rfl, Fd.out⟩
      · have hin : ¬ (k : Int) < (n : Int) := by omega
        have hin' : decide (k < n) = false := decide_eq_false hlt
        have HDD : Hid (D = false) := by show _ = _; rw [HD.out]; exact decide_eq_false (posF_end (by rw [← Hk.out, ← Hn.out]; omega))
        obtain rfl := HDD.out
        iterate 5 (refine wpT_take (v := ?_) rfl rfl (fun x hx => ?_) ?_; rotate_left; (focus (go_simp; with_reducible rfl)); simp only [Act.put, List.setIfInBounds_toArray, List.set_cons_zero, List.set_cons_succ])
        iterate 7 (refine wpT_pass rfl rfl ?_; simp only [Act.put, List.setIfInBounds_toArray, List.set_cons_zero, List.set_cons_succ])
        iterate 2 (refine wpT_take (v := ?_) rfl rfl (fun x hx => ?_) ?_; rotate_left; (focus (go_simp; with_reducible rfl)); simp only [Act.put, List.setIfInBounds_toArray, List.set_cons_zero, List.set_cons_succ])
        unfold wpT
        go_wp2_with fail
        go_meet
        case rel => exact ⟨rfl, Fd.out⟩
    case rest =>
      obtain ⟨rfl, hfc⟩ := hcut
      have Hfc : Hid (Fr w1 wc (fun _ => False)) := hfc
      rename_i hKc
      refine hKc _ _ ?_
      clear hKc hfc bp q1 q2 Fd
      have Hfo : Hid (Fr w wc (fun _ => False)) := Hw1.out.none Hfc.out
      obtain ⟨q0, q1, q2, q3⟩ := four_cells (Hq.out wc Hfc.out)
      have Fd : Hid (Fr w1 wc.drew (fun _ => False)) := Hfc.out.drew
      have bp : ∀ z, Fr wc.drew z (fun _ => False) → z.cell? ⟨p, 0, none⟩ = some (.slice a0 n c0) := fun z hz => Hp.out z (Fd.out.none hz)
      have f1 : ∀ z, Fr wc.drew z (fun _ => False) → z.cell? ⟨q, 1, none⟩ = some (.int .u32 (e1 : Int)) := fun z hz => (four_cells (Hq.out z (Fd.out.none hz))).2.1
      have f2 : ∀ z, Fr wc.drew z (fun _ => False) → z.cell? ⟨q, 2, none⟩ = some (.int .u32 (e2 : Int)) := fun z hz => (four_cells (Hq.out z (Fd.out.none hz))).2.2.1
      have Hns : Hid (D = ad → TF = none) := fun h => by rw [HTF.out]; unfold turnF; exact if_pos (.inr (by rw [← h, HD.out]))
      obtain ⟨A, hA⟩ : ∃ A, (if c0 = k then a0 else Option.map (fun x => x.add (k * 2)) a0) = A := ⟨_, rfl⟩
      have HrA : Hid (RdE wc.drew (.slice a0 k c0) (es.take k)) := (Hr1.out _ Fd.out).take Hn.out.symm k hkn
      have HrB : Hid (RdE wc.drew (.slice A (n - k) (c0 - k)) (es.drop k)) := by show RdE _ _ _; rw [← hA]; exact (Hr1.out _ Fd.out).drop Hn.out.symm k hkn
      cases D <;> cases ad
      · obtain rfl := Hns.out rfl
        clear HrA HrB bp f1 f2
        go_wp2_with fail
        go_ret2
        exact ⟨⟨_, rfl, RdE.nil _⟩, Hfo.out⟩
      · -- comes
        have HT : Hid (TF = some (es.take k ++ (e1, e2) :: es.drop k)) := by show _ = _; rw [HTF.out, Hk.out]; unfold turnF; rw [if_neg (by rw [← HR.out, ← HD.out]; simp), if_pos rfl]
        obtain rfl := HT.out
        clear q0 q1 q2
        go_upto_region 8 with fail
        clear q3
        refine wp_region_tree (fun _ => False) (.take 0 (.take 1 (.take 2 (.take 3 (.take 4 (.take 6 (.take 7 (.take 8 (.one 5 (.one 9 (.one 10 (.take 11 (.take 12 .nil))))))))))))) (by kernel_rfl) (by kernel_rfl) (by decide) (by kernel_rfl) ?_
        iterate 8 (refine wpT_take (v := ?_) rfl rfl (fun x hx => ?_) ?_; rotate_left; (focus (go_simp; with_reducible rfl)); simp only [Act.put, List.setIfInBounds_toArray, List.set_cons_zero, List.set_cons_succ])
        refine wpT_one rfl rfl (fun K hK => ?_)
        go_simp
        refine hK _ _ ((Fr.refl _ _).alloc _) ?_
        clear hK K bp f1 f2 hA
        have hrC : RdE (wc.alloc (.cells #[.int .u32 (e1 : Int), .int .u32 (e2 : Int)] 48)).drew (.slice (some ⟨wc.heap.size, 0, none⟩) 1 1) [(e1, e2)] := holdsN_lit 2 wc.drew 48 1 (erow [(e1, e2)]) rfl (by omega)
        obtain ⟨g9, hg9⟩ : ∃ x, x = wc.heap.size := ⟨_, rfl⟩
        obtain ⟨x9, hx9⟩ : ∃ x, x = (wc.alloc (.cells #[.int .u32 (e1 : Int), .int .u32 (e2 : Int)] 48)).drew := ⟨_, rfl⟩
        have h9 : Fr wc.drew x9 (fun _ => False) := by rw [hx9]; exact (Fr.refl wc.drew _).alloc (.cells #[.int .u32 (e1 : Int), .int .u32 (e2 : Int)] 48)
        rw [← hx9, ← hg9] at hrC
        have HrC : Hid (RdE x9 (.slice (some ⟨g9, 0, none⟩) 1 1) [(e1, e2)]) := hrC
        rw [← hx9, ← hg9]
        have HrA9 : Hid (RdE x9 (.slice a0 k c0) (es.take k)) := HrA.out.keep h9
        have HrB9 : Hid (RdE x9 (.slice A (n - k) (c0 - k)) (es.drop k)) := HrB.out.keep h9
        have Hx9 : Hid (Fr w x9 (fun _ => False)) := Hfo.out.drew.none h9
        clear hg9 hx9 h9 HrA HrB hrC
        refine wpT_one rfl rfl (fun K hK => ?_)
        go_simp
        refine hK _ _ ((Fr.refl _ _).alloc _) ?_
        clear hK K
        obtain ⟨g8, hg8⟩ : ∃ x, x = x9.heap.size := ⟨_, rfl⟩
        obtain ⟨x8, hx8⟩ : ∃ x, x = x9.alloc (.cells #[.slice a0 k c0, .slice (some ⟨g9, 0, none⟩) 1 1, .slice A (n - k) (c0 - k)] 33) := ⟨_, rfl⟩
        have h8 : Fr x9 x8 (fun _ => False) := by rw [hx8]; exact (Fr.refl _ _).alloc _
        have hh8 : Holds x8 (.slice (some ⟨g8, 0, none⟩) 3 3) [.slice a0 k c0, .slice (some ⟨g9, 0, none⟩) 1 1, .slice A (n - k) (c0 - k)] := by rw [hx8, hg8]; exact holds_lit x9 33 [.slice a0 k c0, .slice (some ⟨g9, 0, none⟩) 1 1, .slice A (n - k) (c0 - k)] (by simp)
        have hco := concat_any _ _ [es.take k, [(e1, e2)], es.drop k] x8 hh8 rfl (fun i u l hu hl => by
          match i, hu, hl with
          | 0, hu, hl => cases hu; cases hl; exact HrA9.out.keep h8
          | 1, hu, hl => cases hu; cases hl; exact HrC.out.keep h8
          | 2, hu, hl => cases hu; cases hl; exact HrB9.out.keep h8
          | i + 3, hu, hl => simp at hu) (by simp only [List.flatten_cons, List.flatten_nil, List.length_append, List.length_take, List.length_drop, List.length_cons, List.length_nil]; have h1 := Hn.out; omega) (by simp)
        rw [← hx8, ← hg8]
        have Hx8 : Hid (Fr w x8 (fun _ => False)) := Hx9.out.none h8
        clear hg8 hx8 h8 hh8
        refine wpT_one rfl rfl (fun K hK => ?_)
        go_simp
        refine hco.mono ?_
        rintro r x7 ⟨⟨v7, rfl, ho7, hn7⟩, g⟩
        refine hK _ _ g ?_
        have Hx7 : Hid (Fr w x7 (fun _ => False)) := Hx8.out.none g
        have Hr7 : Hid (RdE x7 v7 (es.take k ++ (e1, e2) :: es.drop k)) := by
          show RdE _ _ _
          have h1 := ho7.rd
          simpa using h1
        clear hK K hco g ho7 hn7
        iterate 2 (refine wpT_take (v := ?_) rfl rfl (fun x hx => ?_) ?_; rotate_left; (focus (go_simp; with_reducible rfl)); simp only [Act.put, List.setIfInBounds_toArray, List.set_cons_zero, List.set_cons_succ])
        unfold wpT
        go_wp2_with fail
        go_ret2
        exact ⟨⟨_, rfl, Hr7.out⟩, Hx7.out⟩
      · -- goes
        have hkl : k < n := by
          refine Nat.lt_of_not_le (fun h => ?_)
          exact posF_end (by rw [← Hk.out, ← Hn.out]; exact h) (of_decide_eq_true HD.out.symm)
        have Hat : Hid (es[posF es (e1, e2)]? = some (e1, e2)) := by
          show _ = _
          obtain ⟨y, hy⟩ : ∃ y, es[k]? = some y := ⟨_, List.getElem?_eq_getElem (by rw [← Hn.out]; exact hkl)⟩
          rw [Hk.out] at hy
          have h1 := posF_has HR.out.symm hy
          rw [← HD.out] at h1
          rw [hy, of_decide_eq_true h1.symm]
        have HT : Hid (TF = some (es.take k ++ es.drop (k + 1))) := by show _ = _; rw [HTF.out]; unfold turnF; rw [if_neg (by rw [← HR.out, ← HD.out]; simp), if_neg (by simp), posF_idx Hat.out, ← Hk.out]
        obtain rfl := HT.out
        clear q0 q1 q2 hA HrB
        obtain ⟨k1, hk1⟩ : ∃ x, x = k + 1 := ⟨_, rfl⟩
        have hi1 : (k : Int) + 1 = (k1 : Int) := by omega
        have hi2 : IntKind.i64.wrap (k1 : Int) = (k1 : Int) := IntWalk.i64_in _ (by omega)
        have hi3 : (k1 : Int) ≤ (n : Int) := by omega
        have hi4 : (0 : Int) ≤ (k1 : Int) := by omega
        have hi5 : (k1 : Int) ≤ (c0 : Int) := by omega
        have hi6 : k1 ≤ n := by omega
        have hi7 : k1 ≤ c0 := by omega
        obtain ⟨A1, hA1⟩ : ∃ A, (if c0 = k1 then a0 else Option.map (fun x => x.add (k1 * 2)) a0) = A := ⟨_, rfl⟩
        have HrB1 : Hid (RdE wc.drew (.slice A1 (n - k1) (c0 - k1)) (es.drop (k + 1))) := by show RdE _ _ _; rw [← hk1, ← hA1]; exact (Hr1.out _ Fd.out).drop Hn.out.symm k1 hi6
        clear hk1
        go_upto_region 9 with fail
        clear q3
        refine wp_region_tree (fun _ => False) (.take 0 (.take 1 (.take 2 (.take 3 (.take 4 (.take 5 (.take 6 (.one 7 (.one 8 (.take 9 (.take 10 .nil))))))))))) (by kernel_rfl) (by kernel_rfl) (by decide) (by kernel_rfl) ?_
        iterate 7 (refine wpT_take (v := ?_) rfl rfl (fun x hx => ?_) ?_; rotate_left; (focus (go_simp; with_reducible rfl)); simp only [Act.put, List.setIfInBounds_toArray, List.set_cons_zero, List.set_cons_succ])
        refine wpT_one rfl rfl (fun K hK => ?_)
        go_simp
        refine hK _ _ ((Fr.refl _ _).alloc _) ?_
        clear hK K bp f1 f2
        obtain ⟨g8, hg8⟩ : ∃ x, x = wc.heap.size := ⟨_, rfl⟩
        obtain ⟨x8, hx8⟩ : ∃ x, x = (wc.alloc (.cells #[.slice a0 k c0, .slice A1 (n - k1) (c0 - k1)] 33)).drew := ⟨_, rfl⟩
        have h8 : Fr wc.drew x8 (fun _ => False) := by rw [hx8]; exact (Fr.refl wc.drew _).alloc (.cells #[.slice a0 k c0, .slice A1 (n - k1) (c0 - k1)] 33)
        have hh8 : Holds x8 (.slice (some ⟨g8, 0, none⟩) 2 2) [.slice a0 k c0, .slice A1 (n - k1) (c0 - k1)] := by rw [hx8, hg8]; exact holds_lit wc.drew 33 [.slice a0 k c0, .slice A1 (n - k1) (c0 - k1)] (by simp)
        have hco := concat_any _ _ [es.take k, es.drop (k + 1)] x8 hh8 rfl (fun i u l hu hl => by
          match i, hu, hl with
          | 0, hu, hl => cases hu; cases hl; exact HrA.out.keep h8
          | 1, hu, hl => cases hu; cases hl; exact HrB1.out.keep h8
          | i + 2, hu, hl => simp at hu) (by simp only [List.flatten_cons, List.flatten_nil, List.length_append, List.length_take, List.length_drop, List.length_nil]; have h1 := Hn.out; omega) (by simp)
        rw [← hx8, ← hg8]
        have Hx8 : Hid (Fr w x8 (fun _ => False)) := Hfo.out.drew.none h8
        clear hg8 hx8 h8 hh8 hA1 hi1 hi2
        refine wpT_one rfl rfl (fun K hK => ?_)
        go_simp
        refine hco.mono ?_
        rintro r x7 ⟨⟨v7, rfl, ho7, hn7⟩, g⟩
        refine hK _ _ g ?_
        have Hx7 : Hid (Fr w x7 (fun _ => False)) := Hx8.out.none g
        have Hr7 : Hid (RdE x7 v7 (es.take k ++ es.drop (k + 1))) := by
          show RdE _ _ _
          have h1 := ho7.rd
          simpa using h1
        clear hK K hco g ho7 hn7
        iterate 2 (refine wpT_take (v := ?_) rfl rfl (fun x hx => ?_) ?_; rotate_left; (focus (go_simp; with_reducible rfl)); simp only [Act.put, List.setIfInBounds_toArray, List.set_cons_zero, List.set_cons_succ])
        unfold wpT
        go_wp2_with fail
        go_ret2
        exact ⟨⟨_, rfl, Hr7.out⟩, Hx7.out⟩
      · obtain rfl := Hns.out rfl
        clear HrA HrB bp f1 f2
        go_wp2_with fail
        go_ret2
        exact ⟨⟨_, rfl, RdE.nil _⟩, Hfo.out⟩

end Go.Proofs.Ythdlhdeaeaahoaa

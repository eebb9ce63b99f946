/-
  The contract of snap's left: the edges that events leave there, in a map.
-/
import Derived.Test.YthdlhdeaeaahoaaHMap
import Derived.Test.YthdlhdeaeaahoaaXGood
import Derived.Deep.CutRange
namespace Go.Proofs.Ythdlhdeaeaahoaa
open Go.RowKit Go.Maps

/-- What is in a map behind events, whatever they are. -/
def setF (l : List Eg) (x : Ev) : List Eg := if x.2.2 = true then (if x.2.1 ∈ l then l else l ++ [x.2.1]) else l.filter (fun e => e ≠ x.2.1)
theorem setF_mem (l : List Eg) (x : Ev) (e : Eg) : e ∈ setF l x ↔ (e ∈ l ∧ e ≠ x.2.1) ∨ (x.2.2 = true ∧ e = x.2.1) := by
  obtain ⟨t, y, ad⟩ := x
  unfold setF
  cases ad with
  | false => simp
  | true =>
    simp only [if_true, true_and]
    by_cases h : y ∈ l
    · rw [if_pos h]
      constructor
      · intro he
        by_cases hy : e = y
        · exact .inr hy
        · exact .inl ⟨he, hy⟩
      · rintro (⟨he, -⟩ | rfl)
        · exact he
        · exact h
    · rw [if_neg h, List.mem_append, List.mem_singleton]
      constructor
      · rintro (he | rfl)
        · exact .inl ⟨he, fun hy => h (hy ▸ he)⟩
        · exact .inr rfl
      · rintro (⟨he, -⟩ | rfl)
        · exact .inl he
        · exact .inr rfl
theorem good_set {n : Nat} : ∀ {evs : List Ev} {now s : List Eg}, Good n now evs → (∀ e, e ∈ s ↔ e ∈ now) → ∀ e, e ∈ evs.foldl setF s ↔ e ∈ aftF now evs
  | [], _, _, _, h => h
  | x :: evs, now, s, hg, h => by
    obtain ⟨-, now', ht, hg'⟩ := hg
    rw [List.foldl_cons, aftF, ht]
    refine good_set hg' (fun e => ?_)
    rw [setF_mem, Option.getD_some, mem_turn ht, h]
theorem good_take {n : Nat} : ∀ {evs : List Ev} {now : List Eg} (k : Nat), Good n now evs → Good n now (evs.take k)
  | [], _, k, h => by rw [List.take_nil]; exact h
  | x :: evs, now, 0, _ => trivial
  | x :: evs, now, k + 1, h => by
    obtain ⟨h1, now', ht, hg'⟩ := h
    rw [List.take_succ_cons]
    exact ⟨h1, now', ht, good_take k hg'⟩

set_option maxRecDepth 4000 in
set_option maxHeartbeats 1600000 in
theorem left_any (v : Value) (evs : List Ev) (w : World) (h : RdV w v evs) (hl : evs.length ≤ 1000000) (hfit : ∀ x ∈ evs, EvFit x) : Calls Try.prog 34 #[v] w fun r w' => (∃ b, r = .returned (.map (some b)) ∧ w.heap.size ≤ b ∧ OwnM w' b evs.length (evs.foldl setF [])) ∧ Fr w w' (fun _ => False) := by
  obtain ⟨a0, c0, rfl, hc0⟩ := h.form
  obtain ⟨n, hn⟩ : ∃ n, n = evs.length := ⟨_, rfl⟩
  rw [← hn] at h hl hc0 ⊢
  obtain ⟨A, hA⟩ : ∃ A, A = evs.foldl setF [] := ⟨_, rfl⟩
  rw [← hA]
  have HA : Hid _ := hA
  have Hr : Hid (RdV w (.slice a0 n c0) evs) := h
  have Hn : Hid _ := hn
  have Hfit : Hid _ := hfit
  clear h hn hA hfit
  go_enter Try.func34, Try.ntmps34
  have hmm := @run_makeMap Try.prog
  go_upto_region 2 with fail
  obtain ⟨b, hb⟩ : ∃ b, b = w.heap.size := ⟨_, rfl⟩
  obtain ⟨wb, hwb⟩ : ∃ x, x = w.alloc (.map #[] 0) := ⟨_, rfl⟩
  rw [← hwb, ← hb]
  have Hmap : Hid (OwnM wb b 0 []) := by show OwnM _ _ _ _; rw [hwb, hb]; exact ownM_new w
  have Hwb : Hid (Fr w wb (fun _ => False)) := by show Fr _ _ _; rw [hwb]; exact (Fr.refl _ _).alloc _
  have Hb : Hid (w.heap.size = b) := hb.symm
  clear hb hwb hmm
  go_wp2_with fail
  go_loopg [9] n (fun g I wr => ∃ (i : Nat) (s : List Eg), g = n - i ∧ i ≤ n ∧ I = .int .i64 (i : Int) ∧ OwnM wr b i s ∧ (evs.drop i).foldl setF s = A ∧ Fr w wr (fun _ => False))
  case atStart => exact ⟨0, [], by omega, by omega, rfl, Hmap.out, HA.out.symm, Hwb.out⟩
  case round =>
    obtain ⟨i, s, hg, hi, rfl, hmap, hst, hf⟩ := hrel
    have Hg : Hid _ := hg
    have Hmap : Hid (OwnM wr b i s) := hmap
    have Hst : Hid _ := hst
    have Hf : Hid (Fr w wr (fun _ => False)) := hf
    clear hg hmap hst hf
    by_cases hlt : i < n
    · have hin : (i : Int) < (n : Int) := by omega
      have hin' : decide (i < n) = true := decide_eq_true hlt
      obtain ⟨⟨t, ⟨e1, e2⟩, ad⟩, ha⟩ : ∃ a, evs[i]? = some a := ⟨_, List.getElem?_eq_getElem (by rw [← Hn.out]; omega)⟩
      have Hx : Hid (EvFit (t, (e1, e2), ad)) := Hfit.out _ (List.mem_of_getElem? ha)
      have Hst2 : Hid ((evs.drop (i + 1)).foldl setF (setF s (t, (e1, e2), ad)) = A) := by show _ = _; rw [← Hst.out, drop_at ha, List.foldl_cons]
      obtain ⟨bk, off, cap, e3, hbk, hca⟩ := Hr.out.get i _ ha
      rw [← Hn.out] at e3
      simp only [Value.slice.injEq] at e3
      obtain ⟨rfl, -, rfl⟩ := e3
      obtain ⟨k0, k1, k2, k3⟩ := hca wr (Hf.out.mono (fun _ _ h => h.elim))
      have hi0 : (0 : Int) ≤ (i : Int) := by omega
      clear hca ha hbk
      go_upto_region 5 with fail
      obtain ⟨pe, hpe⟩ : ∃ p, p = wr.heap.size := ⟨_, rfl⟩
      obtain ⟨wE, hwE⟩ : ∃ x, x = wr.alloc (.cells #[.int .i64 t, .int .u32 (e1 : Int), .int .u32 (e2 : Int), .bool ad] 53) := ⟨_, rfl⟩
      rw [← hwE, ← hpe]
      have Hpe : Hid (wE.heap[pe]? = some (.cells #[.int .i64 t, .int .u32 (e1 : Int), .int .u32 (e2 : Int), .bool ad] 53 (0, 0))) := by show _ = _; rw [hwE, hpe]; exact heap_alloc_new _ _
      have HrE : Hid (Fr wr wE (fun _ => False)) := by show Fr _ _ _; rw [hwE]; exact (Fr.refl _ _).alloc _
      have HbP : Hid (w.heap.size ≤ b) := by show _ ≤ _; have := Hb.out; omega
      clear k0 k1 k2 k3 hwE hpe
      have Ef : Hid (EgFit (e1, e2)) := Hx.out.2
      obtain ⟨k0, k1, k2, k3⟩ := four_cells Hpe.out
      obtain ⟨D, ho, hD⟩ := Hmap.out
      have HD : Hid _ := hD
      have Hmo : Hid (wE.ownsMap Try.prog 48 unitElem b i D) := by
        obtain ⟨es, clock, hb, r⟩ := ho
        exact ⟨es, clock, HrE.out.kept hb (fun h => h), r⟩
      have HisD : Hid (IsMap D) := Hmo.out.isMap
      clear ho hD
      cases ad with
      | true =>
        have hmx : i < maxLen := by unfold maxLen; omega
        go_wp2_with (first | (at_mapUpdate; refine wpList_mapUpdate_in _ rfl _ _ _ 71 rfl 48 84 mLaw Try.underlying71 unitElem b i D rfl Hmo.out hmx (edgeV (e1, e2)) (.agg #[]) _ rfl rfl (eKey_is _ Ef.out) (.agg []) [] unitElem_mk ?_; intro w3 hown3 hturn3) | fail)
        have Hown : Hid (OwnM w3 b (i + 1) (setF s (t, (e1, e2), true))) := ⟨_, hown3, has_put_all Ef.out HisD.out HD.out (fun x => by rw [setF_mem]; simp)⟩
        have Hfin : Hid (Fr w w3 (fun _ => False)) := (Hf.out.none HrE.out).newer (fr_turned hturn3) (fun k hk => by have := HbP.out; omega)
        clear hown3 hturn3
        go_roundg (n - (i + 1))
        case rel => exact ⟨i + 1, _, rfl, by omega, by go_num, Hown.out, Hst2.out, Hfin.out⟩
        case measure => rw [Hg.out]; omega
      | false =>
        go_wp2_with (first | (at_delete; refine wpList_delete_own _ rfl _ _ 71 48 rfl 84 mLaw Try.underlying71 unitElem b i D rfl Hmo.out (edgeV (e1, e2)) _ rfl (eKey_is _ Ef.out) ?_; intro w3 hown3 hturn3) | fail)
        have Hown : Hid (OwnM w3 b (i + 1) (setF s (t, (e1, e2), false))) := ⟨_, hown3.mono (by omega), has_del_all Ef.out HD.out (fun x => by rw [setF_mem]; simp)⟩
        have Hfin : Hid (Fr w w3 (fun _ => False)) := (Hf.out.none HrE.out).newer (fr_turned hturn3) (fun k hk => by have := HbP.out; omega)
        clear hown3 hturn3
        go_roundg (n - (i + 1))
        case rel => exact ⟨i + 1, _, rfl, by omega, by go_num, Hown.out, Hst2.out, Hfin.out⟩
        case measure => rw [Hg.out]; omega
    · have hin : ¬ (i : Int) < (n : Int) := by omega
      have hin' : decide (i < n) = false := decide_eq_false hlt
      obtain rfl : i = n := by omega
      have Hend : Hid (OwnM wr b i A) := by
        show OwnM _ _ _ _
        have h1 := Hst.out
        rw [List.drop_eq_nil_of_le (by rw [← Hn.out]; exact Nat.le_refl _)] at h1
        rw [← h1]
        exact Hmap.out
      have Hb2 : Hid (w.heap.size ≤ b) := by show _ ≤ _; have := Hb.out; omega
      go_wp2
      go_ret
      exact ⟨⟨_, rfl, Hb2.out, Hend.out⟩, Hf.out⟩

end Go.Proofs.Ythdlhdeaeaahoaa

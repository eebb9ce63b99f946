/-
  Texts of ours, joined: LPut LPLived LPLivedP.
-/
import Derived.Test.YtnffjafddbbjaaaGreatDoorJ3
import Derived.Test.YtnffjafddbbjaaaGreatDoorJ2
import Derived.Test.YtnffjafddbbjaaaGreatDoorJ4
import Derived.Test.YtnffjafddbbjaaaGreatDoorJ5
import Derived.Maps.OwnOps
import Derived.Test.YtnffjafddbbjaaaGreatDoorJ10

/-
  Lives that the call owns: a store into one (parted from LBent).
-/
namespace Go.Proofs.YtnffjafddbbjaaaGreatDoor
open Go.RowKit

theorem lrow_set : ∀ (evs : List Lf) (i k : Nat) (x y : Lf) (u : Value), evs[i]? = some x → k < 4 → (encL x).set k u = encL y → (lrow evs).set (i * 4 + k) u = lrow (evs.set i y)
  | [], i, k, x, y, u, h, _, _ => by simp at h
  | z :: r, 0, k, x, y, u, h, hk, he => by
    simp only [List.getElem?_cons_zero, Option.some.injEq] at h
    subst h
    simp only [lrow, List.flatMap_cons, List.set_cons_zero, Nat.zero_mul, Nat.zero_add]
    rw [List.set_append, if_pos (by simp [encL]; omega), he]
  | z :: r, i + 1, k, x, y, u, h, hk, he => by
    simp only [List.getElem?_cons_succ] at h
    have ih := lrow_set r i k x y u h hk he
    simp only [lrow, List.flatMap_cons, List.set_cons_succ] at ih ⊢
    rw [List.set_append, if_neg (by simp [encL]; omega), ← ih]
    congr 2
    simp [encL]
    omega
theorem OwnL.put {w : World} {g c n : Nat} {evs : List Lf} (h : OwnL w (.slice (some ⟨g, 0, none⟩) n c) evs) (hn : evs.length = n) {i k : Nat} {x y : Lf} {u : Value} (hx : evs[i]? = some x) (hk : k < 4) (he : (encL x).set k u = encL y) : OwnL (w.setCell ⟨g, i * 4 + k, none⟩ u) (.slice (some ⟨g, 0, none⟩) n c) (evs.set i y) := by
  subst hn
  have := (World.ownsRow.stored h (i * 4 + k) u).1
  rw [lrow_set evs i k x y u hx hk he] at this
  unfold OwnL
  rw [List.length_set]
  exact this
theorem OwnL.cells4 {w : World} {g c n : Nat} {evs : List Lf} (h : OwnL w (.slice (some ⟨g, 0, none⟩) n c) evs) (hn : evs.length = n) {i : Nat} {x : Lf} (hx : evs[i]? = some x) : w.cell? ⟨g, i * 4, none⟩ = some (.int .u32 (x.1.1 : Int)) ∧ w.cell? ⟨g, i * 4 + 1, none⟩ = some (.int .u32 (x.1.2 : Int)) ∧ w.cell? ⟨g, i * 4 + 2, none⟩ = some (.int .i64 x.2.1) ∧ w.cell? ⟨g, i * 4 + 3, none⟩ = some (.int .i64 x.2.2) := by
  subst hn
  have hi := (List.getElem?_eq_some_iff.1 hx).1
  obtain ⟨g0, g1, g2, g3⟩ := lrow_get evs i x hx
  refine ⟨?_, ?_, ?_, ?_⟩
  · rw [World.ownsRow.cellAt h _ (by omega)]; exact g0
  · rw [World.ownsRow.cellAt h _ (by omega)]; exact g1
  · rw [World.ownsRow.cellAt h _ (by omega)]; exact g2
  · rw [World.ownsRow.cellAt h _ (by omega)]; exact g3
theorem OwnL.free {w : World} {g c n : Nat} {evs : List Lf} (h : OwnL w (.slice (some ⟨g, 0, none⟩) n c) evs) (hn : evs.length = n) (j : Nat) : w.frozen? ⟨g, j, none⟩ = false := by
  subst hn
  exact World.ownsRow.frozenAt h j
theorem OwnL.put4 {w : World} {g c n : Nat} {evs : List Lf} (h : OwnL w (.slice (some ⟨g, 0, none⟩) n c) evs) (hn : evs.length = n) {i : Nat} {x : Lf} (y : Lf) (hx : evs[i]? = some x) : OwnL ((((w.setCell ⟨g, i * 4, none⟩ (.int .u32 (y.1.1 : Int))).setCell ⟨g, i * 4 + 1, none⟩ (.int .u32 (y.1.2 : Int))).setCell ⟨g, i * 4 + 2, none⟩ (.int .i64 y.2.1)).setCell ⟨g, i * 4 + 3, none⟩ (.int .i64 y.2.2)) (.slice (some ⟨g, 0, none⟩) n c) (evs.set i y) := by
  have hi := (List.getElem?_eq_some_iff.1 hx).1
  have h1 := OwnL.put h hn (k := 0) (y := ((y.1.1, x.1.2), x.2)) (u := .int .u32 (y.1.1 : Int)) hx (by omega) rfl
  have h2 := OwnL.put h1 (by rw [List.length_set, hn]) (i := i) (k := 1) (x := ((y.1.1, x.1.2), x.2)) (y := (y.1, x.2)) (u := .int .u32 (y.1.2 : Int)) (by simp [hi]) (by omega) rfl
  have h3 := OwnL.put h2 (by rw [List.length_set, List.length_set, hn]) (i := i) (k := 2) (x := (y.1, x.2)) (y := (y.1, y.2.1, x.2.2)) (u := .int .i64 y.2.1) (by simp [hi]) (by omega) rfl
  have h4 := OwnL.put h3 (by rw [List.length_set, List.length_set, List.length_set, hn]) (i := i) (k := 3) (x := (y.1, y.2.1, x.2.2)) (y := y) (u := .int .i64 y.2.2) (by simp [hi]) (by omega) rfl
  simpa only [List.set_set, Nat.add_zero] using h4

end Go.Proofs.YtnffjafddbbjaaaGreatDoor

/-
  The contract of life's lived: the lives of the events of a history, as they come.
-/
namespace Go.Proofs.YtnffjafddbbjaaaGreatDoor
open Go.RowKit Go.Maps

/-- Lives of which some still go on, as they'll be. -/
def fillL (L : List Lf) (r : List Ev) : List Lf := L.map (fun z => if z.2.2 = -1 then (z.1, z.2.1, endF z.1 r) else z)
/-- What is so of the lives that go on and the places kept of them. -/
def OpenL (now : List Eg) (f : Eg → Option Int) (L : List Lf) : Prop :=
  (∀ e ∈ now, ∃ (j : Nat) (s : Int), f e = some (j : Int) ∧ L[j]? = some (e, s, -1)) ∧ ∀ (j : Nat) (z : Lf), L[j]? = some z → z.2.2 = -1 → z.1 ∈ now ∧ f z.1 = some (j : Int)
theorem fill_end (L : List Lf) : fillL L [] = L := by
  unfold fillL
  conv => rhs; rw [← List.map_id L]
  refine List.map_congr_left (fun z _ => ?_)
  split
  · rename_i h
    obtain ⟨e, s, q⟩ := z
    dsimp only at h
    subst h
    rfl
  · rfl
theorem fill_skip {L : List Lf} {x : Ev} {r : List Ev} (h : ∀ z ∈ L, z.2.2 = -1 → z.1 ≠ x.2.1) : fillL L (x :: r) = fillL L r := by
  unfold fillL
  refine List.map_congr_left (fun z hz => ?_)
  split
  · rename_i h1
    rw [endF_ne (fun e => h z hz h1 e.symm)]
  · rfl
/-- An edge comes. -/
theorem open_come {now now' : List Eg} {f : Eg → Option Int} {L : List Lf} {t : Int} {e : Eg} (h : OpenL now f L) (ht : turnF now e true = some now') : OpenL now' (fun x => if x = e then some (L.length : Int) else f x) (L ++ [(e, t, -1)]) := by
  have hne := (turn_come ht).1
  refine ⟨fun x hx => ?_, fun j z hz hq => ?_⟩
  · rcases (mem_turn ht x).1 hx with ⟨h1, h2⟩ | ⟨-, h1⟩
    · obtain ⟨j, s, h3, h4⟩ := h.1 x h1
      exact ⟨j, s, (if_neg h2).trans h3, by rw [List.getElem?_append_left (List.getElem?_eq_some_iff.1 h4).1]; exact h4⟩
    · subst h1
      exact ⟨L.length, t, if_pos rfl, by simp⟩
  · by_cases hj : j < L.length
    · rw [List.getElem?_append_left hj] at hz
      obtain ⟨h1, h2⟩ := h.2 j z hz hq
      have h3 : z.1 ≠ e := fun he => hne (he ▸ h1)
      exact ⟨(mem_turn ht _).2 (.inl ⟨h1, h3⟩), (if_neg h3).trans h2⟩
    · have hj2 : j = L.length := by
        have := (List.getElem?_eq_some_iff.1 hz).1
        simp at this
        omega
      subst hj2
      simp at hz
      subst hz
      exact ⟨(mem_turn ht _).2 (.inr ⟨rfl, rfl⟩), if_pos rfl⟩
theorem fill_come {now now' : List Eg} {f : Eg → Option Int} {L : List Lf} {t : Int} {e : Eg} {r : List Ev} (h : OpenL now f L) (ht : turnF now e true = some now') :
    fillL (L ++ [(e, t, -1)]) r ++ addsL r = fillL L ((t, e, true) :: r) ++ addsL ((t, e, true) :: r) := by
  have hne := (turn_come ht).1
  have h1 : fillL L ((t, e, true) :: r) = fillL L r := fill_skip (fun z hz hq he => by
    obtain ⟨j, hj⟩ := List.getElem?_of_mem hz
    have h9 : z.1 = e := he
    exact hne (by rw [← h9]; exact (h.2 j z hj hq).1))
  have h2 : addsL ((t, e, true) :: r) = (e, t, endF e r) :: addsL r := if_pos rfl
  have h3 : fillL (L ++ [(e, t, -1)]) r = fillL L r ++ [(e, t, endF e r)] := by unfold fillL; simp
  rw [h1, h2, h3, List.append_assoc]
  rfl
/-- An edge goes. -/
theorem open_place {now now' : List Eg} {f : Eg → Option Int} {L : List Lf} {e : Eg} (h : OpenL now f L) (ht : turnF now e false = some now') : ∃ (j : Nat) (s : Int), f e = some (j : Int) ∧ L[j]? = some (e, s, -1) := h.1 e (turn_go ht).1
theorem open_go {now now' : List Eg} {f : Eg → Option Int} {L : List Lf} {t s : Int} {e : Eg} {j : Nat} (h : OpenL now f L) (ht : turnF now e false = some now') (h0 : 0 ≤ t) (hf : f e = some (j : Int)) (hj : L[j]? = some (e, s, -1)) : OpenL now' f (L.set j (e, s, t)) := by
  have hjl := (List.getElem?_eq_some_iff.1 hj).1
  refine ⟨fun x hx => ?_, fun i z hz hq => ?_⟩
  · rcases (mem_turn ht x).1 hx with ⟨h1, h2⟩ | ⟨h1, -⟩
    · obtain ⟨i, s', h3, h4⟩ := h.1 x h1
      have hij : j ≠ i := fun hij => by
        subst hij
        rw [hj] at h4
        simp only [Option.some.injEq, Prod.mk.injEq] at h4
        exact h2 h4.1.symm
      exact ⟨i, s', h3, by rw [List.getElem?_set_ne hij]; exact h4⟩
    · cases h1
  · by_cases hij : j = i
    · subst hij
      rw [List.getElem?_set_self hjl] at hz
      simp only [Option.some.injEq] at hz
      subst hz
      dsimp only at hq
      omega
    · rw [List.getElem?_set_ne hij] at hz
      obtain ⟨h1, h2⟩ := h.2 i z hz hq
      refine ⟨(mem_turn ht _).2 (.inl ⟨h1, fun he => ?_⟩), h2⟩
      rw [he, hf] at h2
      simp only [Option.some.injEq] at h2
      omega
theorem fill_go {now : List Eg} {f : Eg → Option Int} {L : List Lf} {t s : Int} {e : Eg} {j : Nat} {r : List Ev} (h : OpenL now f L) (h0 : 0 ≤ t) (hf : f e = some (j : Int)) (hj : L[j]? = some (e, s, -1)) :
    fillL (L.set j (e, s, t)) r ++ addsL r = fillL L ((t, e, false) :: r) ++ addsL ((t, e, false) :: r) := by
  have h2 : addsL ((t, e, false) :: r) = addsL r := if_neg (by simp)
  have hjl := (List.getElem?_eq_some_iff.1 hj).1
  have h1 : fillL (L.set j (e, s, t)) r = fillL L ((t, e, false) :: r) := by
    refine List.ext_getElem? (fun i => ?_)
    unfold fillL
    rw [List.getElem?_map, List.getElem?_map]
    by_cases hij : j = i
    · subst hij
      rw [List.getElem?_set_self hjl, hj]
      have e1 : ¬ t = -1 := by omega
      simp only [Option.map_some, if_neg e1, if_true]
      rw [endF_eq (x := (t, e, false)) (r := r) rfl]
    · rw [List.getElem?_set_ne hij]
      cases hz : L[i]? with
      | none => rfl
      | some z =>
        simp only [Option.map_some, Option.some.injEq]
        split
        · rename_i hq
          rw [endF_ne (x := (t, e, false)) (r := r) (fun he => by
            obtain ⟨-, h3⟩ := h.2 i z hz hq
            dsimp only at he
            rw [← he, hf] at h3
            simp only [Option.some.injEq] at h3
            omega)]
        · rfl
  rw [h1, h2]

end Go.Proofs.YtnffjafddbbjaaaGreatDoor

/-
  The contract of life's lived: its walk.
-/
namespace Go.Proofs.YtnffjafddbbjaaaGreatDoor
open Go.RowKit Go.Maps

theorem iZero (w : World) : (zeroValue 3).run Tryz.prog w = .ok (.int .i64 0) w := by kernel_rfl

set_option maxRecDepth 4000 in
set_option maxHeartbeats 1600000 in
theorem lived_any (n : Nat) (v : Value) (evs : List Ev) (w : World) (h : RdV w v evs) (hg : Good n [] evs) (hl : evs.length ≤ 1000000) (hfit : ∀ x ∈ evs, EvFit x) : Calls Tryz.prog 54 #[v] w fun r w' => (∃ v', r = .returned v' ∧ OwnL w' v' (addsL evs) ∧ ∀ k, v'.ownBlock = some k → w.heap.size ≤ k) ∧ Fr w w' (fun _ => False) := by
  obtain ⟨a0, c0, rfl, hc0⟩ := h.form
  obtain ⟨m, hm⟩ : ∃ m, m = evs.length := ⟨_, rfl⟩
  rw [← hm] at h hl hc0 ⊢
  obtain ⟨A, hA⟩ : ∃ A, A = addsL evs := ⟨_, rfl⟩
  rw [← hA]
  have HA : Hid _ := hA
  have Hr : Hid (RdV w (.slice a0 m c0) evs) := h
  have Hm : Hid _ := hm
  have HGd : Hid _ := hg
  have Hfit : Hid _ := hfit
  clear h hm hA hg hfit
  go_enter Tryz.func54, Tryz.ntmps54
  have hmm := @run_makeMap Tryz.prog
  go_upto_region 3 with fail
  obtain ⟨b, hb⟩ : ∃ b, b = w.heap.size := ⟨_, rfl⟩
  obtain ⟨wb, hwb⟩ : ∃ x, x = w.alloc (.map #[] 0) := ⟨_, rfl⟩
  rw [← hwb, ← hb]
  have Hmap : Hid (OwnI 3 wb b 0 (fun _ => none)) := by show OwnI _ _ _ _ _; rw [hwb, hb]; exact ownI_new _ w
  have Hwb : Hid (Fr w wb (fun _ => False)) := by show Fr _ _ _; rw [hwb]; exact (Fr.refl _ _).alloc _
  have Hb : Hid (w.heap.size = b) := hb.symm
  have Hbs : Hid (wb.heap.size = b + 1) := by show _ = _; rw [hwb, hb]; simp
  clear hb hwb hmm
  go_wp2_with fail
  go_loopg [3, 10] m (fun g V I wr => ∃ (i : Nat) (now : List Eg) (f : Eg → Option Int) (L : List Lf), g = m - i ∧ i ≤ m ∧ I = .int .i64 (i : Int) ∧ OwnL wr V L ∧ (∀ k, V.ownBlock = some k → b < k) ∧ OwnI 3 wr b i f ∧ Good n now (evs.drop i) ∧ OpenL now f L ∧ L.length ≤ i ∧ fillL L (evs.drop i) ++ addsL (evs.drop i) = A ∧ Fr w wr (fun _ => False))
  case atStart => exact ⟨0, [], fun _ => none, [], by omega, by omega, rfl, OwnL.nil _, fun k hk => (by simp [Value.ownBlock] at hk), Hmap.out, HGd.out, ⟨fun e h => (by cases h), fun j z h => (by simp at h)⟩, by simp, HA.out.symm, Hwb.out⟩
  case round =>
    obtain ⟨i, now, f, L, hg, hi, rfl, hov, hvn, hmap, hgd, hop, hLl, hst, hf⟩ := hrel
    have Hg : Hid _ := hg
    have Hov : Hid (OwnL wr u3 L) := hov
    have Hvn : Hid (∀ k, u3.ownBlock = some k → b < k) := hvn
    have Hmap : Hid (OwnI 3 wr b i f) := hmap
    have Hgd : Hid _ := hgd
    have Hop : Hid (OpenL now f L) := hop
    have Hst : Hid _ := hst
    have Hf : Hid (Fr w wr (fun _ => False)) := hf
    obtain ⟨a3, c3, hu3, -⟩ := hov.rd.form
    obtain ⟨n3, hn3⟩ : ∃ n, n = L.length := ⟨_, rfl⟩
    rw [← hn3] at hu3
    subst hu3
    have Hn3 : Hid _ := hn3
    have Hn3b : Hid (n3 ≤ i) := by show _ ≤ _; omega
    clear hg hov hvn hmap hgd hop hst hf hLl hn3
    by_cases hlt : i < m
    · have hin : (i : Int) < (m : Int) := by omega
      have hin' : decide (i < m) = true := decide_eq_true hlt
      obtain ⟨⟨t, ⟨e1, e2⟩, ad⟩, ha⟩ : ∃ a, evs[i]? = some a := ⟨_, List.getElem?_eq_getElem (by rw [← Hm.out]; omega)⟩
      have Hx : Hid (EvFit (t, (e1, e2), ad)) := Hfit.out _ (List.mem_of_getElem? ha)
      have Hdr : Hid (evs.drop i = (t, (e1, e2), ad) :: evs.drop (i + 1)) := drop_at ha
      have hgd := Hgd.out
      rw [Hdr.out] at hgd
      obtain ⟨⟨ht0, -, -⟩, now', htn, hgd'⟩ := hgd
      have Ht0 : Hid (0 ≤ t) := ht0
      have Htn : Hid (turnF now (e1, e2) ad = some now') := htn
      have Hgd2 : Hid _ := hgd'
      obtain ⟨bk, off, cap, e3, hbk, hca⟩ := Hr.out.get i _ ha
      rw [← Hm.out] at e3
      simp only [Value.slice.injEq] at e3
      obtain ⟨rfl, -, rfl⟩ := e3
      obtain ⟨k0, k1, k2, k3⟩ := hca wr (Hf.out.mono (fun _ _ h => h.elim))
      have hi0 : (0 : Int) ≤ (i : Int) := by omega
      clear hca ha hbk ht0 htn hgd'
      go_upto_region 6 with fail
      obtain ⟨pe, hpe⟩ : ∃ p, p = wr.heap.size := ⟨_, rfl⟩
      obtain ⟨wE, hwE⟩ : ∃ x, x = wr.alloc (.cells #[.int .i64 t, .int .u32 (e1 : Int), .int .u32 (e2 : Int), .bool ad] 60) := ⟨_, rfl⟩
      rw [← hwE, ← hpe]
      have Hpe : Hid (wE.heap[pe]? = some (.cells #[.int .i64 t, .int .u32 (e1 : Int), .int .u32 (e2 : Int), .bool ad] 60 (0, 0))) := by show _ = _; rw [hwE, hpe]; exact heap_alloc_new _ _
      have HrE : Hid (Fr wr wE (fun _ => False)) := by show Fr _ _ _; rw [hwE]; exact (Fr.refl _ _).alloc _
      have Hpw : Hid (wr.heap.size = pe) := hpe.symm
      have HbE : Hid (b < pe) := by show _ < _; rw [hpe]; exact Hmap.out.lt
      have HbP : Hid (w.heap.size ≤ b) := by show _ ≤ _; have := Hb.out; omega
      clear k0 k1 k2 k3 hwE hpe
      have Ef : Hid (EgFit (e1, e2)) := Hx.out.2
      obtain ⟨k0, k1, k2, k3⟩ := four_cells Hpe.out
      obtain ⟨D, ho, hD⟩ := Hmap.out
      have HD : Hid (AtE D f) := hD
      have Hmo : Hid (∀ z S, Fr wE z S → ¬ S b → z.ownsMap Tryz.prog 58 (plainElem Tryz.prog 3) b i D) := fun z S hz hs => by
        obtain ⟨es, clock, hb, r⟩ := ho
        exact ⟨es, clock, hz.kept (HrE.out.kept hb (fun h => h)) hs, r⟩
      have HisD : Hid (IsMap D) := (Hmo.out wE (fun _ => False) (Fr.refl _ _) (fun h => h)).isMap
      clear ho hD
      cases ad with
      | true =>
        have hmx : i < maxLen := by unfold maxLen; omega
        have hwf : (Lit.int .i64 (n3 : Int)).wf = true := by
          have := Hn3b.out
          have hmin : IntKind.i64.min = -9223372036854775808 := by decide
          have hmax : IntKind.i64.max = 9223372036854775807 := by decide
          simp [Lit.wf, hmin, hmax]
          omega
        go_upto_region 8 with (first | (at_mapUpdate; refine wpList_mapUpdate_in _ rfl _ _ _ 137 rfl 58 3 mLaw Tryz.underlying137 (plainElem Tryz.prog 3) b i D rfl (Hmo.out wE (fun _ => False) (Fr.refl _ _) (fun h => h)) hmx (edgeV (e1, e2)) (.int .i64 (n3 : Int)) _ rfl rfl (eKey_is _ Ef.out) (.lit (.int .i64 (n3 : Int))) [] (plainElem_int Tryz.underlying3 hwf) ?_; intro w3 hown3 hturn3) | fail)
        have hft := fr_turned hturn3
        have Hrw3 : Hid (Fr wr w3 (fun k => k = b)) := (HrE.out.mono (fun _ _ h => h.elim)).trans hft (fun _ _ h => h)
        have Hpe3 : Hid (w3.heap[pe]? = some (.cells #[.int .i64 t, .int .u32 (e1 : Int), .int .u32 (e2 : Int), .bool true] 60 (0, 0))) := hft.kept Hpe.out (fun h => by have := HbE.out; omega)
        have Hov3 : Hid (OwnL w3 (.slice a3 n3 c3) L) := Hov.out.frame Hrw3.out (fun k hk h => by have := Hvn.out k hk; omega)
        obtain ⟨v4, w4, hrun4, ho4, hf4, hm4⟩ := app_life w3 (.slice a3 n3 c3) L ((e1, e2), t, -1) Hov3.out (by have := Hn3.out; have := Hn3b.out; omega)
        obtain ⟨ao4, l4, cp4, rfl⟩ : ∃ a l c, v4 = .slice a l c := by obtain ⟨a, c, e, -⟩ := ho4.rd.form; exact ⟨a, _, c, e⟩
        have Hw34 : Hid (Fr w3 w4 (fun k => (Value.slice a3 n3 c3).ownBlock = some k)) := ((Fr.refl w3 (fun k => (Value.slice a3 n3 c3).ownBlock = some k)).alloc _).trans hf4 (fun _ _ h => h)
        have Ho4 : Hid (OwnL w4 (.slice ao4 l4 cp4) (L ++ [((e1, e2), t, -1)])) := ho4
        have Hvn4 : Hid (∀ k, (Value.slice ao4 l4 cp4).ownBlock = some k → b < k) := fun k hk => by
          rcases hm4 k hk with h2 | h2
          · exact Hvn.out k h2
          · have h3 := Hrw3.out.size; have h4 := HbE.out; have h5 := Hpw.out; omega
        have Hmap4 : Hid (OwnI 3 w4 b (i + 1) (fun x => if x = (e1, e2) then some (n3 : Int) else f x)) := by
          obtain ⟨es, clock, hb, r⟩ := hown3
          exact ⟨_, ⟨es, clock, Hw34.out.kept hb (fun h => by have := Hvn.out b h; omega), r⟩, atE_put Ef.out HisD.out HD.out⟩
        have Hfin : Hid (Fr w w4 (fun _ => False)) := (Hf.out.newer Hrw3.out (fun k hk => by have := HbP.out; omega)).newer Hw34.out (fun k hk => by have := Hvn.out k hk; have := HbP.out; omega)
        have Hop4 : Hid (OpenL now' (fun x => if x = (e1, e2) then some (n3 : Int) else f x) (L ++ [((e1, e2), t, -1)])) := by
          have := open_come (t := t) Hop.out Htn.out
          rw [← Hn3.out] at this
          exact this
        have Hst4 : Hid (fillL (L ++ [((e1, e2), t, -1)]) (evs.drop (i + 1)) ++ addsL (evs.drop (i + 1)) = A) := by
          show _ = _
          rw [fill_come (t := t) Hop.out Htn.out, ← Hdr.out, Hst.out]
        have Hln4 : Hid ((L ++ [((e1, e2), t, (-1 : Int))]).length ≤ i + 1) := by
          show _ ≤ _
          rw [List.length_append, List.length_singleton]
          have := Hn3.out
          have := Hn3b.out
          omega
        clear hown3 hturn3 hft ho4 hf4 hm4 k0 k1 k2 k3 hmx hwf
        obtain ⟨k0, k1, k2, k3⟩ := four_cells Hpe3.out
        go_wp2_with (at_builtin; refine wpList_append_run rfl (.tmp 21) (.tmp 27) 51 rfl rfl rfl hrun4 ?_)
        go_roundg (m - (i + 1))
        case rel => exact ⟨i + 1, now', _, _, rfl, by omega, by go_num, Ho4.out, Hvn4.out, Hmap4.out, Hgd2.out, Hop4.out, Hln4.out, Hst4.out, Hfin.out⟩
        case measure => rw [Hg.out]; omega
      | false =>
        obtain ⟨j, s, hfj, hLj⟩ := open_place Hop.out Htn.out
        have hjn : j < n3 := by rw [Hn3.out]; exact (List.getElem?_eq_some_iff.1 hLj).1
        obtain ⟨g, cg, hsl⟩ : ∃ g cg, Value.slice a3 n3 c3 = .slice (some ⟨g, 0, none⟩) n3 cg := by
          rcases Hov.out.2 with ⟨h1, h0⟩ | ⟨g, cg, cur, h1, -⟩
          · have := Hn3.out; omega
          · rw [← Hn3.out] at h1
            exact ⟨g, cg, h1⟩
        simp only [Value.slice.injEq, true_and] at hsl
        obtain ⟨rfl, rfl⟩ := hsl
        have hgo : b < g := Hvn.out g rfl
        have hgp : g < pe := by have h1 := Hov.out.lt g rfl; have h2 := Hpw.out; omega
        have HovE : Hid (OwnL wE.drew (.slice (some ⟨g, 0, none⟩) n3 c3) L) := Hov.out.frame (HrE.out.drew) (fun _ _ h => h)
        obtain ⟨c, hrun, hat, hwc⟩ := (Hmo.out wE.drew (fun _ => False) (Fr.refl _ _).drew (fun h => h)).lookup_int mLaw Tryz.underlying137 Tryz.underlying3 (iZero _) (eKey_is _ Ef.out)
        have hcj := atE_look Ef.out HD.out hat
        rw [hfj] at hcj
        simp only [Option.getD_some] at hcj
        subst hcj
        unfold edgeV at hrun
        dsimp only at hrun
        have Hput : Hid (OwnL (wE.drew.setCell ⟨g, j * 4 + 3, none⟩ (.int .i64 t)) (.slice (some ⟨g, 0, none⟩) n3 c3) (L.set j ((e1, e2), s, t))) := OwnL.put HovE.out Hn3.out.symm (k := 3) hLj (by omega) rfl
        have hc3 : wE.drew.cell? ⟨g, j * 4 + 3, none⟩ = some (.int .i64 (-1)) := (OwnL.cells4 HovE.out Hn3.out.symm hLj).2.2.2
        have hfz : wE.drew.frozen? ⟨g, j * 4 + 3, none⟩ = false := OwnL.free HovE.out Hn3.out.symm _
        have Hfx : Hid (Fr wE (wE.drew.setCell ⟨g, j * 4 + 3, none⟩ (.int .i64 t)) (fun k => k = g)) := (Fr.refl wE (fun k => k = g)).drew.trans (fr_cell _ _ _ _) (fun _ _ h => h)
        have Hfin : Hid (Fr w (wE.drew.setCell ⟨g, j * 4 + 3, none⟩ (.int .i64 t)) (fun _ => False)) := (Hf.out.none HrE.out).newer Hfx.out (fun k hk => by have := HbP.out; omega)
        have Hmap4 : Hid (OwnI 3 (wE.drew.setCell ⟨g, j * 4 + 3, none⟩ (.int .i64 t)) b (i + 1) f) := by
          have h1 := Hmo.out _ _ Hfx.out (fun h => by omega)
          exact ⟨D, h1.mono (by omega), HD.out⟩
        have Hop4 : Hid (OpenL now' f (L.set j ((e1, e2), s, t))) := open_go Hop.out Htn.out Ht0.out hfj hLj
        have Hst4 : Hid (fillL (L.set j ((e1, e2), s, t)) (evs.drop (i + 1)) ++ addsL (evs.drop (i + 1)) = A) := by
          show _ = _
          rw [fill_go Hop.out Ht0.out hfj hLj, ← Hdr.out, Hst.out]
        have Hln4 : Hid ((L.set j ((e1, e2), s, t)).length ≤ i + 1) := by
          show _ ≤ _
          rw [List.length_set]
          have := Hn3.out
          have := Hn3b.out
          omega
        have ka : ∀ z, Fr wE.drew z (fun k => k = g) → z.cell? ⟨pe, 0, none⟩ = some (.int .i64 t) := fun z hz => (four_cells ((Fr.refl wE (fun k => k = g)).drew.trans hz (fun _ _ h => h) |>.kept Hpe.out (fun h => by omega))).1
        have kb : ∀ z, Fr wE.drew z (fun k => k = g) → z.cell? ⟨pe, 1, none⟩ = some (.int .u32 (e1 : Int)) := fun z hz => (four_cells ((Fr.refl wE (fun k => k = g)).drew.trans hz (fun _ _ h => h) |>.kept Hpe.out (fun h => by omega))).2.1
        have kc : ∀ z, Fr wE.drew z (fun k => k = g) → z.cell? ⟨pe, 2, none⟩ = some (.int .u32 (e2 : Int)) := fun z hz => (four_cells ((Fr.refl wE (fun k => k = g)).drew.trans hz (fun _ _ h => h) |>.kept Hpe.out (fun h => by omega))).2.2.1
        have kd : ∀ z, Fr wE.drew z (fun k => k = g) → z.cell? ⟨pe, 3, none⟩ = some (.bool false) := fun z hz => (four_cells ((Fr.refl wE (fun k => k = g)).drew.trans hz (fun _ _ h => h) |>.kept Hpe.out (fun h => by omega))).2.2.2
        have hj1 : (j : Int) < (n3 : Int) := by omega
        have hj0 : (0 : Int) ≤ (j : Int) := by omega
        clear hat hwc hfj hLj
        go_upto_region 9 with fail
        clear k0 k1 k2 k3
        refine wp_region_tree (fun k => k = g) (.take 0 (.take 1 (.take 2 (.take 3 (.take 5 (.take 6 (.one 4 (.take 7 (.take 8 (.one 9 .nil)))))))))) (by kernel_rfl) (by kernel_rfl) (by decide) (by kernel_rfl) ?_
        iterate 6 (refine wpT_take (v := ?_) rfl rfl (fun x hx => ?_) ?_; rotate_left; (focus (go_simp; with_reducible rfl)); simp only [Act.put, List.setIfInBounds_toArray, List.set_cons_zero, List.set_cons_succ])
        refine wpT_one rfl rfl (fun K hK => ?_)
        go_simp
        refine hK _ _ (Fr.refl _ _) ?_
        clear hK K
        iterate 2 (refine wpT_take (v := ?_) rfl rfl (fun x hx => ?_) ?_; rotate_left; (focus (go_simp; with_reducible rfl)); simp only [Act.put, List.setIfInBounds_toArray, List.set_cons_zero, List.set_cons_succ])
        refine wpT_one rfl rfl (fun K hK => ?_)
        go_simp
        refine hK _ _ (fr_cell _ _ _ _) ?_
        clear hK K ka kb kc kd hrun hc3 hfz
        unfold wpT
        have e9 : wE.drew.setCell ⟨g, j * 4 + 3, none⟩ (.int .i64 t) = (wE.setCell ⟨g, j * 4 + 3, none⟩ (.int .i64 t)).drew := rfl
        rw [e9] at Hput Hfin Hmap4
        clear Hfx e9
        generalize (wE.setCell ⟨g, j * 4 + 3, none⟩ (.int .i64 t)).drew = w9 at Hput Hfin Hmap4 ⊢
        go_wp2_with fail
        go_roundg (m - (i + 1))
        case rel => exact ⟨i + 1, now', f, _, rfl, by omega, by go_num, Hput.out, Hvn.out, Hmap4.out, Hgd2.out, Hop4.out, Hln4.out, Hst4.out, Hfin.out⟩
        case measure => rw [Hg.out]; omega
    · have hin : ¬ (i : Int) < (m : Int) := by omega
      have hin' : decide (i < m) = false := decide_eq_false hlt
      have Hall : Hid (L = A) := by
        show _ = _
        have := Hst.out
        rw [List.drop_eq_nil_of_le (by rw [← Hm.out]; omega), fill_end] at this
        simpa [addsL] using this
      have Hov2 : Hid (OwnL wr (.slice a3 n3 c3) A) := by show OwnL _ _ _; rw [← Hall.out]; exact Hov.out
      have Hvn2 : Hid (∀ k, (Value.slice a3 n3 c3).ownBlock = some k → w.heap.size ≤ k) := fun k hk => by have h1 := Hvn.out k hk; have h2 := Hb.out; omega
      go_wp2_with fail
      go_ret
      exact ⟨⟨_, rfl, Hov2.out, Hvn2.out⟩, Hf.out⟩

end Go.Proofs.YtnffjafddbbjaaaGreatDoor

/-
  The contracts of sort.Search over Upto's closure, and of history's Upto.
-/
import Derived.Test.YthdlhdeaeaahoaaJ2
import Derived.Deep.CutRange
namespace Go.Proofs.Ythdlhdeaeaahoaa
open Go.RowKit

theorem upto_le (evs : List Ev) (t : Int) : uptoF evs t ≤ evs.length := by
  unfold uptoF
  exact (List.takeWhile_sublist _).length_le
theorem upto_before {evs : List Ev} {t : Int} {i : Nat} {x : Ev} (h : i < uptoF evs t) (hx : evs[i]? = some x) : x.1 ≤ t := by
  unfold uptoF at h
  induction evs generalizing i with
  | nil => simp at h
  | cons y l ih =>
    rw [List.takeWhile_cons] at h
    split at h
    · rename_i hy
      cases i with
      | zero => simp at hx; subst hx; simpa using hy
      | succ i => exact ih (i := i) (by simpa using h) (by simpa using hx)
    · simp at h
theorem upto_behind {evs : List Ev} {t : Int} (hs : SortedT evs) {i : Nat} {x : Ev} (h : uptoF evs t ≤ i) (hx : evs[i]? = some x) : t < x.1 := by
  unfold uptoF at h
  induction evs generalizing i with
  | nil => simp at hx
  | cons y l ih =>
    have hs' := List.pairwise_cons.1 hs
    rw [List.takeWhile_cons] at h
    split at h
    · cases i with
      | zero => simp at h
      | succ i => exact ih hs'.2 (i := i) (by simpa using h) (by simpa using hx)
    · rename_i hy
      have hy : t < y.1 := by simpa using hy
      cases i with
      | zero => simp at hx; subst hx; exact hy
      | succ i =>
        have := hs'.1 x (List.mem_of_getElem? (i := i) (by simpa using hx))
        omega

set_option maxRecDepth 4000 in
set_option maxHeartbeats 400000 in
theorem search_any (c0 c1 : Value) (n k : Nat) (p : Nat → Bool) (w : World) (hn : n ≤ 1000000) (hk : k ≤ n) (h1 : ∀ i, i < k → p i = false) (h2 : ∀ i, k ≤ i → i < n → p i = true)
    (hf : ∀ z (i : Nat), Fr w z (fun _ => False) → i < n → Calls Try.prog 43 #[.int .i64 (i : Int), c0, c1] z fun e w' => e = .returned (.bool (p i)) ∧ Fr z w' (fun _ => False)) :
    Calls Try.prog 36 #[.int .i64 (n : Int), .func (.func 43) #[] #[c0, c1]] w fun e w' => e = .returned (.int .i64 (k : Int)) ∧ Fr w w' (fun _ => False) := by
  have HF : Hid _ := hf
  have H1 : Hid _ := h1
  have H2 : Hid _ := h2
  have Hn : Hid _ := hn
  have Hk : Hid _ := hk
  clear hf h1 h2 hk
  go_enter Try.func36, Try.ntmps36
  go_wp2
  go_loopg [5, 6] n (fun g s5 s6 wr => ∃ lo hi : Nat, g = hi - lo ∧ s5 = .int .i64 (lo : Int) ∧ s6 = .int .i64 (hi : Int) ∧ lo ≤ k ∧ k ≤ hi ∧ hi ≤ n ∧ Fr w wr (fun _ => False))
  case atStart => exact ⟨0, n, by omega, rfl, rfl, by omega, Hk.out, Nat.le_refl _, Fr.refl w _⟩
  case round =>
    obtain ⟨lo, hi, hg, rfl, rfl, hlk, hkh, hin, hf⟩ := hrel
    have Hf : Hid (Fr w wr (fun _ => False)) := hf
    clear hf
    by_cases hlt : lo < hi
    · have hc := HF.out wr ((lo + hi) / 2) Hf.out (by omega)
      rw [show (((lo + hi) / 2 : Nat) : Int) = ((lo : Int) + (hi : Int)) / 2 by omega] at hc
      cases hp : p ((lo + hi) / 2) <;> rw [hp] at hc
      · have HP : Hid (p ((lo + hi) / 2) = false) := hp
        clear hp
        go_wp2_with fail
        refine hc.mono ?_
        rintro e w1 ⟨rfl, g1⟩
        have G1 : Hid (Fr w w1 (fun _ => False)) := Hf.out.none g1
        clear g1
        go_wp2_with fail
        go_roundg (hi - ((lo + hi) / 2 + 1))
        case measure => omega
        case rel =>
          have hkk : (lo + hi) / 2 + 1 ≤ k := by
            refine Nat.lt_of_not_le fun hle => ?_
            have := H2.out _ hle (by omega)
            rw [HP.out] at this
            cases this
          exact ⟨(lo + hi) / 2 + 1, hi, rfl, by rw [show ((lo : Int) + (hi : Int)) / 2 + 1 = (((lo + hi) / 2 + 1 : Nat) : Int) by omega], rfl, hkk, hkh, hin, G1.out⟩
      · have HP : Hid (p ((lo + hi) / 2) = true) := hp
        clear hp
        go_wp2_with fail
        refine hc.mono ?_
        rintro e w1 ⟨rfl, g1⟩
        have G1 : Hid (Fr w w1 (fun _ => False)) := Hf.out.none g1
        clear g1
        go_wp2_with fail
        go_roundg ((lo + hi) / 2 - lo)
        case measure => omega
        case rel =>
          have hkk : k ≤ (lo + hi) / 2 := by
            refine Nat.le_of_not_lt fun hle => ?_
            have := H1.out _ hle
            rw [HP.out] at this
            cases this
          exact ⟨lo, (lo + hi) / 2, rfl, rfl, by rw [show ((lo : Int) + (hi : Int)) / 2 = (((lo + hi) / 2 : Nat) : Int) by omega], hlk, hkk, by omega, G1.out⟩
    · obtain rfl : lo = k := by omega
      go_wp2
      go_ret
      exact ⟨rfl, Hf.out⟩

set_option maxRecDepth 4000 in
set_option maxHeartbeats 400000 in
theorem uptoClosure_any (p q n m i : Nat) (v : Value) (T : TypeId) (t : Int) (evs : List Ev) (x : Ev) (w : World) (hp : w.heap[p]? = some (.cells #[.int .u64 (n : Int), v] T (0, 0))) (hq : w.cell? ⟨q, 0, none⟩ = some (.int .i64 t)) (h : RdV w v evs) (hm : evs.length = m) (hx : evs[i]? = some x) :
    Calls Try.prog 43 #[.int .i64 (i : Int), .pointer (some ⟨p, 0, none⟩), .pointer (some ⟨q, 0, none⟩)] w fun e w' => e = .returned (.bool (decide (t < x.1))) ∧ Fr w w' (fun _ => False) := by
  obtain ⟨x0, x1, x2⟩ := x
  obtain ⟨bk, off, cap, rfl, hbk, hca⟩ := h.get i _ hx
  have hlt : i < evs.length := (List.getElem?_eq_some_iff.1 hx).1
  rw [hm] at hlt hp
  have hin : (i : Int) < (m : Int) := by omega
  have hi0 : (0 : Int) ≤ (i : Int) := by omega
  obtain ⟨k0, -, -, -⟩ := hca w (Fr.refl _ _)
  have c1 := two_cell1 hp
  obtain ⟨B, hB⟩ : ∃ B, decide (t < x0) = B := ⟨_, rfl⟩
  dsimp only at k0 ⊢
  rw [hB]
  clear hca hx hp h hm hlt hbk
  go_enter Try.func43, Try.ntmps43
  go_wp2_with fail
  go_quiet (fail)
  go_wp2
  go_ret
  exact ⟨rfl, (Fr.refl w _).drewN _⟩

set_option maxRecDepth 4000 in
set_option maxHeartbeats 400000 in
theorem upto_any (n : Nat) (v : Value) (evs : List Ev) (t : Int) (w : World) (h : RdV w v evs) (hs : SortedT evs) (hl : evs.length ≤ 1000000) : Calls Try.prog 28 #[histV n v, .int .i64 t] w fun r w' =>
    r = .returned (.int .i64 ((uptoF evs t : Nat) : Int)) ∧ Fr w w' (fun _ => False) := by
  obtain ⟨a0, c0, rfl, hc0⟩ := h.form
  obtain ⟨m, hm⟩ : ∃ m, m = evs.length := ⟨_, rfl⟩
  rw [← hm] at h hl hc0 ⊢
  have Hr0 : Hid (RdV w (.slice a0 m c0) evs) := h
  have Hm : Hid _ := hm
  have Hl : Hid _ := hl
  have Hs : Hid _ := hs
  obtain ⟨R, hR⟩ : ∃ R, R = uptoF evs t := ⟨_, rfl⟩
  rw [← hR]
  have HR : Hid _ := hR
  clear h hm hl hs hR
  unfold histV
  go_enter Try.func28, Try.ntmps28
  go_upto_region 1 with fail
  obtain ⟨p, hp⟩ : ∃ p, p = w.heap.size := ⟨_, rfl⟩
  obtain ⟨q, hq⟩ : ∃ q, q = p + 1 := ⟨_, rfl⟩
  obtain ⟨wa, hwa⟩ : ∃ wa, wa = (w.alloc (.cells #[.int .u64 (n : Int), .slice a0 m c0] 25)).alloc (.cells #[.int .i64 t] 2) := ⟨_, rfl⟩
  rw [← hwa, ← hp, ← hq]
  have Hpb : Hid (∀ z, Fr wa z (fun _ => False) → z.heap[p]? = some (.cells #[.int .u64 (n : Int), .slice a0 m c0] 25 (0, 0))) := fun z hz => hz.kept (by rw [hwa, hp]; exact blk_alloc _ (heap_alloc_new _ _)) (fun h => h)
  have Hqb : Hid (∀ z, Fr wa z (fun _ => False) → z.cell? ⟨q, 0, none⟩ = some (.int .i64 t)) := fun z hz => by
    have h1 : wa.heap[q]? = some (.cells #[.int .i64 t] 2 (0, 0)) := by
      have h0 := heap_alloc_new (w.alloc (.cells #[.int .u64 (n : Int), .slice a0 m c0] 25)) (.cells #[.int .i64 t] 2)
      rw [hwa, hq, hp]
      simpa using h0
    have h2 := hz.kept h1 (fun h => h)
    simp [World.cell?, h2]
  have Hwa : Hid (Fr w wa (fun _ => False)) := by show Fr _ _ _; rw [hwa]; exact ((Fr.refl _ _).alloc _).alloc _
  have Hr : Hid (∀ z, Fr wa z (fun _ => False) → RdV z (.slice a0 m c0) evs) := fun z hz => Hr0.out.keep (Hwa.out.none hz)
  clear hp hq hwa Hr0
  have ca := two_cell1 (Hpb.out wa (Fr.refl _ _))
  go_wp2_with fail
  refine (search_any _ _ m R (fun i => match evs[i]? with | some x => decide (t < x.1) | none => false) wa Hl.out (by rw [HR.out, Hm.out]; exact upto_le _ _) ?_ ?_ ?_).mono ?_
  · intro i hi
    obtain ⟨x, hx⟩ : ∃ x, evs[i]? = some x := ⟨_, List.getElem?_eq_getElem (by have := upto_le evs t; rw [← HR.out] at this; omega)⟩
    have := upto_before (by rw [← HR.out]; exact hi) hx
    show (match evs[i]? with | some x => decide (t < x.1) | none => false) = false
    rw [hx]
    exact decide_eq_false (by omega)
  · intro i hi hin
    obtain ⟨x, hx⟩ : ∃ x, evs[i]? = some x := ⟨_, List.getElem?_eq_getElem (by rw [← Hm.out]; exact hin)⟩
    have := upto_behind Hs.out (by rw [← HR.out]; exact hi) hx
    show (match evs[i]? with | some x => decide (t < x.1) | none => false) = true
    rw [hx]
    exact decide_eq_true this
  · intro z i hz hin
    obtain ⟨x, hx⟩ : ∃ x, evs[i]? = some x := ⟨_, List.getElem?_eq_getElem (by rw [← Hm.out]; exact hin)⟩
    have := uptoClosure_any p q n m i _ 25 t evs x z (Hpb.out z hz) (Hqb.out z hz) (Hr.out z hz) Hm.out.symm hx
    show Calls _ _ _ _ fun e w' => e = .returned (.bool (match evs[i]? with | some x => decide (t < x.1) | none => false)) ∧ _
    rw [hx]
    exact this
  rintro r x1 ⟨rfl, g⟩
  have G : Hid (Fr w x1 (fun _ => False)) := Hwa.out.none g
  clear g ca
  go_wp2
  go_ret
  exact ⟨rfl, G.out⟩

end Go.Proofs.Ythdlhdeaeaahoaa

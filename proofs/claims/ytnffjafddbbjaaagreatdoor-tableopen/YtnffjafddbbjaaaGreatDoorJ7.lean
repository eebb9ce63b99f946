/-
  Texts of ours, joined: GFlat GState GIns GPivot GChoose.
-/
import Derived.Test.YtnffjafddbbjaaaGreatDoorJ1
import Derived.Test.YtnffjafddbbjaaaGreatDoorRows
import Derived.Test.YtnffjafddbbjaaaGreatDoorJ2
import Derived.Shelf.GgSortFunc.RowK
import Derived.Sort.AssemblyPlain
import Derived.Deep.LoopGhost
import Derived.BigCall
import Derived.BigGuard
import Derived.Deep.CutRange

/-
  A slice that the call owns, whatever its elements (of k cells each), as the row that the library's sorts speak of.
-/
namespace Go.Proofs.YtnffjafddbbjaaaGreatDoor
open Go.RowKit
open Go.Sort (flatK get_flatK size_flatK HoldsK putRowK putRow putCells mapBlock onCells grow SWO PermIn SortedIn heap_grow_old)

theorem flatMap_len {α : Type} {enc : α → List Value} {k : Nat} (hk : ∀ x, (enc x).length = k) (d : List α) : (d.flatMap enc).length = d.length * k := by
  induction d with
  | nil => simp
  | cons x r ih => rw [List.flatMap_cons, List.length_append, ih, hk, List.length_cons, Nat.succ_mul]; omega
section
variable {α : Type} [Inhabited α] {enc : α → List Value} {k : Nat}
theorem flatMap_at (hk : ∀ x, (enc x).length = k) (h0 : 0 < k) : ∀ (d : List α) (t : Nat), t < d.length * k → (d.flatMap enc)[t]? = (enc (d[t / k]!))[t % k]?
  | [], t, h => by simp at h
  | x :: r, t, h => by
    rw [List.flatMap_cons]
    rcases Nat.lt_or_ge t k with ht | ht
    · rw [List.getElem?_append_left (by rw [hk]; exact ht), Nat.div_eq_of_lt ht, Nat.mod_eq_of_lt ht]
      rfl
    · obtain ⟨s, rfl⟩ : ∃ s, t = s + k := ⟨t - k, by omega⟩
      rw [List.getElem?_append_right (by rw [hk]; omega), hk, Nat.add_sub_cancel, Nat.add_div_right _ h0, Nat.add_mod_right]
      have := flatMap_at hk h0 r s (by rw [List.length_cons, Nat.succ_mul] at h; omega)
      rw [this]
      simp
theorem flat_is (hk : ∀ x, (enc x).length = k) (h0 : 0 < k) (d : List α) : (flatK enc k d.toArray).toList = d.flatMap enc := by
  apply List.ext_getElem?
  intro t
  rcases Nat.lt_or_ge t (d.length * k) with h | h
  · have e1 : (flatK enc k d.toArray).toList[t]? = some ((enc d.toArray[t / k]!)[t % k]!) := by
      have := get_flatK enc k d.toArray t (by simpa using h)
      rw [getElem!_pos _ t (by simpa using h)] at this
      rw [Array.getElem?_toList, Array.getElem?_eq_getElem (by simpa using h), this]
    have hm : t % k < k := Nat.mod_lt _ h0
    rw [e1, flatMap_at hk h0 d t h]
    have e2 : d.toArray[t / k]! = d[t / k]! := by simp
    rw [e2, List.getElem?_eq_getElem (by rw [hk]; exact hm), getElem!_pos _ _ (by rw [hk]; exact hm)]
  · rw [List.getElem?_eq_none (by simpa using h), List.getElem?_eq_none (by rw [flatMap_len hk]; exact h)]
theorem flat_at (hk : ∀ x, (enc x).length = k) (h0 : 0 < k) (d : List α) (t : Nat) (h : t < d.length * k) : (d.flatMap enc)[t]? = some ((flatK enc k d.toArray)[t]!) := by
  rw [← flat_is hk h0, Array.getElem?_toList, getElem!_pos _ t (by simpa using h), Array.getElem?_eq_getElem (by simpa using h)]
theorem own_holdsG {w : World} {T : TypeId} {g cap : Nat} {d : List α} (hk : ∀ x, (enc x).length = k) (h0 : 0 < k) (h : w.ownsRow 0 T k (.slice (some ⟨g, 0, none⟩) d.length cap) d.length (d.flatMap enc)) : HoldsK enc k w g 0 d.toArray := by
  intro j hj
  have hj' : j < d.length * k := by simpa using hj
  have h1 := World.ownsRow.cellAt h j hj'
  have h2 := World.ownsRow.frozenAt h j
  rw [flat_at hk h0 d j hj'] at h1
  rw [Nat.zero_add]
  exact ⟨h1, h2⟩
theorem own_sortedG {w : World} {T : TypeId} {g cap : Nat} {d : List α} (hk : ∀ x, (enc x).length = k) (h0 : 0 < k) (h : w.ownsRow 0 T k (.slice (some ⟨g, 0, none⟩) d.length cap) d.length (d.flatMap enc)) (d' : Array α) (hl : d'.size = d.length) (n : Nat) (os : Array Obj) :
    (grow (putRowK enc k (Go.Sort.ahead w n) g 0 d') os).ownsRow 0 T k (.slice (some ⟨g, 0, none⟩) d.length cap) d.length (d'.toList.flatMap enc) ∧ Fr w (grow (putRowK enc k (Go.Sort.ahead w n) g 0 d') os) (fun j => j = g) := by
  rcases h.2 with ⟨h', _⟩ | ⟨g', cap', cur, h', hb, hg, hnc, hcm, hcs, htake⟩
  · simp at h'
  · simp only [Value.slice.injEq, Option.some.injEq, Addr.mk.injEq, and_true, true_and] at h'
    obtain ⟨rfl, rfl⟩ := h'
    have hgs : g < w.heap.size := lt_of_block hg
    have hm : ∀ j, (putRowK enc k (Go.Sort.ahead w n) g 0 d').heap[j]? = if g = j then (w.heap[j]?).map (onCells (putCells id 0 (flatK enc k d'))) else w.heap[j]? := fun j => by
      show ((w.heap.modify g (onCells (putCells id 0 (flatK enc k d'))))[j]?) = _
      rw [Array.getElem?_modify]
    have hsz : (putRowK enc k (Go.Sort.ahead w n) g 0 d').heap.size = w.heap.size := by
      show (w.heap.modify g (onCells (putCells id 0 (flatK enc k d')))).size = _
      simp
    have hkk : ∀ j, j < w.heap.size → (grow (putRowK enc k (Go.Sort.ahead w n) g 0 d') os).heap[j]? = if g = j then (w.heap[j]?).map (onCells (putCells id 0 (flatK enc k d'))) else w.heap[j]? := fun j hj => by
      rw [heap_grow_old _ _ (by rw [hsz]; exact hj), hm]
    refine ⟨⟨by rw [flatMap_len hk]; simp [hl], .inr ⟨g, cap, putCells id 0 (flatK enc k d') cur, rfl, Nat.zero_le _, ?_, hnc, hcm, by simpa [putCells] using hcs, ?_⟩⟩, ⟨rfl, rfl, rfl, ?_, fun j hk1 hk2 => ?_⟩⟩
    · rw [hkk g hgs, if_pos rfl, hg]
      rfl
    · apply List.ext_getElem?
      intro t
      have e0 : d'.toList.toArray = d' := by simp
      rw [← flat_is hk h0 d'.toList, List.getElem?_take, e0]
      by_cases ht : t < d.length * k
      · rw [if_pos ht, Array.getElem?_toList, Array.getElem?_toList]
        have ht' : t < (flatK enc k d').size := by rw [size_flatK, hl]; exact ht
        have htc : t < cur.size := by rw [hcs]; have := Nat.mul_le_mul_right k hnc; omega
        simp only [putCells, Array.getElem?_mapIdx]
        rw [Array.getElem?_eq_getElem htc, Option.map_some, if_pos (by omega), Array.getElem?_eq_getElem ht', getElem!_pos _ _ (by simpa using ht')]
        simp
      · rw [if_neg ht, List.getElem?_eq_none (by rw [Array.length_toList, size_flatK, hl]; omega)]
    · rw [Go.Sort.size_grow, hsz]
      omega
    · rw [hkk j hk1, if_neg (fun e => hk2 e.symm)]
end

end Go.Proofs.YtnffjafddbbjaaaGreatDoor

/-
  A call of the library's sort over a slice that the call owns: its order, its function of two places (which may lay new blocks), its swap; what each of its parts is asked.
-/
namespace Go.Proofs.YtnffjafddbbjaaaGreatDoor
open Go.RowKit Go.Sort

structure SortC (α : Type) where
  enc : α → List Value
  k : Nat
  T : TypeId
  lt : α → α → Bool
  b : Nat
  cap : Nat
  n : Nat
  g : Nat
  lb : Array Value
  sf : Nat
  sb : Array Value

section
variable {α : Type} [Inhabited α]
/-- The slice, as it lies. -/
def SortC.own (C : SortC α) (w : World) (d : Array α) : Prop := d.size = C.n ∧ w.ownsRow 0 C.T C.k (.slice (some ⟨C.b, 0, none⟩) C.n C.cap) C.n (d.toList.flatMap C.enc)
/-- A world that the sort may come to, from w0. -/
def SortC.At (C : SortC α) (w0 w : World) (d : Array α) : Prop := C.own w d ∧ Fr w0 w (fun j => j = C.b)
/-- What the sort is handed, as a value, as a block's cells. -/
def SortC.dat (C : SortC α) : Array Value := #[.func (.func C.g) #[] C.lb, .func (.func C.sf) #[] C.sb]
/-- What is asked, w0 being the world of the call. -/
structure SortC.Ok (C : SortC α) (w0 : World) : Prop where
  swo : SWO C.lt
  hn : C.n ≤ 1000000000
  hb : C.b < w0.heap.size
  eg : ∀ args w, (callFunc C.g args).run Tryz.prog w = .ok (.enter C.g args) w
  less : ∀ (w : World) (d : Array α), C.At w0 w d → ∀ i j : Nat, i < C.n → j < C.n → Calls Tryz.prog C.g (#[.int .i64 i, .int .i64 j] ++ C.lb) w fun e w' => e = .returned (.bool (C.lt d[i]! d[j]!)) ∧ Fr w w' (fun _ => False)
  swap : ∀ (w : World) (d : Array α), C.own w d → ∀ i j : Nat, i < C.n → j < C.n → ∃ w', (callFunc C.sf (#[.int .i64 i, .int .i64 j] ++ C.sb)).run Tryz.prog w = .ok (.value (.tuple #[])) w' ∧ C.own w' (swp d i j) ∧ Fr w w' (fun j => j = C.b)
  holds : ∀ (w : World) (d : Array α), C.own w d → HoldsK C.enc C.k w C.b 0 d

end

theorem SortC.At.none {α : Type} {C : SortC α} {w0 w w' : World} {d : Array α} (h : C.At w0 w d) (f : Fr w w' (fun _ => False)) : C.At w0 w' d :=
  ⟨⟨h.1.1, f.owns h.1.2 (fun _ _ h => h)⟩, h.2.none f⟩
theorem SortC.own.frame {α : Type} {C : SortC α} {w w' : World} {d : Array α} {S : Nat → Prop} (h : C.own w d) (f : Fr w w' S) (hs : ¬ S C.b) : C.own w' d :=
  ⟨h.1, f.owns h.2 (fun k hk => by simp only [Value.ownBlock, Option.some.injEq] at hk; subst hk; exact hs)⟩
theorem SortC.At.then {α : Type} {C : SortC α} {w0 w w' : World} {d d' : Array α} (h : C.At w0 w d) (h' : C.own w' d') (f : Fr w w' (fun j => j = C.b)) : C.At w0 w' d' :=
  ⟨h', h.2.trans f (fun _ _ h => h)⟩

end Go.Proofs.YtnffjafddbbjaaaGreatDoor

/-
  The library's insertion sort, by a function of two places that may lay new blocks.
-/
namespace Go.Proofs.YtnffjafddbbjaaaGreatDoor
open Go.RowKit Go.Sort

theorem box_cells {w1 z : World} {p : Nat} {x y : Value} {T : TypeId} {S : Nat → Prop} (h : w1.heap[p]? = some (.cells #[x, y] T (0, 0))) (f : Fr w1 z S) (hs : ¬ S p) : z.cell? ⟨p, 0, none⟩ = some x ∧ z.cell? ⟨p, 1, none⟩ = some y :=
  ⟨two_cell0 (f.kept h hs), two_cell1 (f.kept h hs)⟩
section
variable {α : Type} [Inhabited α]

set_option maxRecDepth 4000 in
set_option maxHeartbeats 800000 in
theorem gIns_any (C : SortC α) (w0 : World) (hO : C.Ok w0) (a b : Nat) (d : Array α) (w : World) (hA : C.At w0 w d) (hab : a ≤ b) (hb : b ≤ C.n) :
    Calls Tryz.prog 112 #[.agg #[.func (.func C.g) #[] C.lb, .func (.func C.sf) #[] C.sb], .int .i64 (a : Int), .int .i64 (b : Int)] w fun e w' => e = .returned (.tuple #[]) ∧ C.own w' (insertionSort C.lt d a b) ∧ Fr w w' (fun j => j = C.b) := by
  have eg := hO.eg
  have hn := hO.hn
  have hbw : C.b < w.heap.size := Nat.lt_of_lt_of_le hO.hb hA.2.size
  have HO : Hid (C.Ok w0) := hO
  have HA : Hid (C.At w0 w d) := hA
  clear hO hA
  go_enter Tryz.func112, Tryz.ntmps112
  go_wp2
  obtain ⟨p, hp⟩ : ∃ p, p = w.heap.size := ⟨_, rfl⟩
  obtain ⟨w1, hw1⟩ : ∃ x, x = w.alloc (.cells #[.func (.func C.g) #[] C.lb, .func (.func C.sf) #[] C.sb] 150) := ⟨_, rfl⟩
  rw [← hw1, ← hp]
  have HB : Hid (w1.heap[p]? = some (.cells #[.func (.func C.g) #[] C.lb, .func (.func C.sf) #[] C.sb] 150 (0, 0))) := by show _ = _; rw [hw1, hp]; exact heap_alloc_new _ _
  have HF : Hid (Fr w w1 (fun j => j = C.b)) := by show Fr _ _ _; rw [hw1]; exact (Fr.refl _ _).alloc _
  have HW : Hid (C.own w1 d) := by show C.own _ _; rw [hw1]; exact HA.out.1.frame ((Fr.refl _ (fun _ => False)).alloc _) (fun h => h)
  have hpb : p ≠ C.b := by omega
  clear hp hw1 hbw
  go_loopg [6] (b + 1 - (a + 1)) (fun g s6 wr => ∃ (i : Nat) (dk : Array α), g = b + 1 - i ∧ s6 = .int .i64 (i : Int) ∧ a < i ∧ i ≤ b + 1 ∧ C.own wr dk ∧ Fr w1 wr (fun j => j = C.b) ∧ insOuter C.lt a b i dk = insOuter C.lt a b (a + 1) d)
  case atStart => exact ⟨a + 1, d, by omega, by go_num, by omega, by omega, HW.out, Fr.refl _ _, rfl⟩
  case round =>
    obtain ⟨i, dk, hg, rfl, hai, hib, hown, hfr, hins⟩ := hrel
    have Hg : Hid _ := hg
    have Hown : Hid (C.own wr dk) := hown
    have Hfr : Hid (Fr w1 wr (fun j => j = C.b)) := hfr
    have Hins : Hid _ := hins
    clear hg hown hfr hins
    by_cases hlt : i < b
    · have hin : (i : Int) < (b : Int) := by omega
      have hin' : decide (i < b) = true := decide_eq_true hlt
      go_wp2_with fail
      go_loopg [7] i (fun g s7 wx => ∃ (j : Nat) (dj : Array α), g = j ∧ s7 = .int .i64 (j : Int) ∧ a ≤ j ∧ j ≤ i ∧ C.own wx dj ∧ Fr w1 wx (fun j => j = C.b) ∧ insInner C.lt a j dj = insInner C.lt a i dk)
      case atStart => exact ⟨i, dk, rfl, rfl, by omega, Nat.le_refl _, Hown.out, Hfr.out, rfl⟩
      case round =>
        obtain ⟨j, dj, hg2, rfl, haj, hji, hown, hfr, hi2⟩ := hrel
        have Hg2 : Hid _ := hg2
        have Hown2 : Hid (C.own wr dj) := hown
        have Hfr2 : Hid (Fr w1 wr (fun j => j = C.b)) := hfr
        have Hi2 : Hid _ := hi2
        clear hg2 hown hfr hi2
        have HOUT : Hid ((j ≤ a ∨ C.lt dj[j]! dj[j - 1]! = false) → insOuter C.lt a b (i + 1) dj = insOuter C.lt a b (a + 1) d) := fun hs => by
          rw [← Hins.out, insOuter_go _ _ _ _ _ hlt, ← Hi2.out, insInner_stop _ _ _ _ hs]
        have hAt : C.At w0 wr dj := (HA.out.then HW.out HF.out).then Hown2.out Hfr2.out
        obtain ⟨c0, c1⟩ := box_cells HB.out Hfr2.out hpb
        by_cases hja : a < j
        · have hja2 : (a : Int) < (j : Int) := by omega
          have hl := HO.out.less wr dj hAt j (j - 1) (by omega) (by omega)
          rw [show (((j - 1 : Nat) : Int)) = (j : Int) - 1 by omega] at hl
          clear hAt
          cases hlv : C.lt dj[j]! dj[j - 1]! with
          | true =>
            rw [hlv] at hl
            have Hlv : Hid _ := hlv
            clear hlv
            go_wp2_with fail
            refine hl.mono ?_
            rintro e w' ⟨rfl, hf'⟩
            obtain ⟨-, c1'⟩ := box_cells HB.out (Hfr2.out.none hf') hpb
            obtain ⟨w2, hs, hown', hf2⟩ := HO.out.swap w' dj (Hown2.out.frame hf' (fun h => h)) j (j - 1) (by omega) (by omega)
            rw [show (((j - 1 : Nat) : Int)) = (j : Int) - 1 by omega] at hs
            have HA2 : Hid (C.own w2 (swp dj j (j - 1)) ∧ Fr w1 w2 (fun j => j = C.b)) := ⟨hown', (Hfr2.out.none hf').trans hf2 (fun _ _ h => h)⟩
            clear hown' hf2 hf' hl c0 c1
            go_wp2_with fail
            go_roundg (j - 1)
            case rel => exact ⟨j - 1, swp dj j (j - 1), rfl, by congr 1; omega, by omega, by omega, HA2.out.1, HA2.out.2, by rw [← Hi2.out, insInner_go _ _ _ _ hja Hlv.out]⟩
            case measure => rw [Hg2.out]; omega
          | false =>
            rw [hlv] at hl
            have HOUT := HOUT.out (.inr hlv)
            have HOUT2 : Hid _ := HOUT
            clear hlv HOUT
            go_wp2_with fail
            refine hl.mono ?_
            rintro e w' ⟨rfl, hf'⟩
            have HA2 : Hid (C.own w' dj ∧ Fr w1 w' (fun j => j = C.b)) := ⟨Hown2.out.frame hf' (fun h => h), Hfr2.out.none hf'⟩
            clear hf' hl c0 c1
            go_wp2_with fail
            go_roundg (b + 1 - (i + 1))
            case rel => exact ⟨i + 1, dj, rfl, by go_num, by omega, by omega, HA2.out.1, HA2.out.2, HOUT2.out⟩
            case measure => rw [Hg.out]; omega
        · have HOUT := HOUT.out (.inl (by omega))
          have HOUT2 : Hid _ := HOUT
          clear HOUT
          have hja2 : ¬ (a : Int) < (j : Int) := by omega
          clear c0 c1 hAt
          go_wp2_with fail
          go_roundg (b + 1 - (i + 1))
          case rel => exact ⟨i + 1, dj, rfl, by go_num, by omega, by omega, Hown2.out, Hfr2.out, HOUT2.out⟩
          case measure => rw [Hg.out]; omega
    · have hin : ¬ (i : Int) < (b : Int) := by omega
      have hin' : decide (i < b) = false := decide_eq_false hlt
      go_wp2_with fail
      go_end0
      exact ⟨rfl, by unfold insertionSort; rw [← Hins.out, insOuter_stop _ _ _ _ _ hlt]; exact Hown.out, HF.out.trans Hfr.out (fun _ _ h => h)⟩
end

end Go.Proofs.YtnffjafddbbjaaaGreatDoor

/-
  How the library's sort chooses a pivot, by a function of two places that may lay new blocks: which of those that it looks at is left open.
-/
namespace Go.Proofs.YtnffjafddbbjaaaGreatDoor
open Go.RowKit Go.Sort

section
variable {α : Type} [Inhabited α]

theorem one_cell {w : World} {b : Nat} {x : Value} {t : TypeId} (h : w.heap[b]? = some (.cells #[x] t (0, 0))) : w.cell? ⟨b, 0, none⟩ = some x ∧ w.frozen? ⟨b, 0, none⟩ = false := by simp [World.cell?, World.frozen?, h]
theorem one_set {w : World} {b : Nat} {x u : Value} {t : TypeId} (h : w.heap[b]? = some (.cells #[x] t (0, 0))) : (w.setCell ⟨b, 0, none⟩ u).heap[b]? = some (.cells #[u] t (0, 0)) := by
  have := heap_setCell_same w b 0 #[x] t u h
  simpa using this

set_option maxRecDepth 4000 in
set_option maxHeartbeats 1600000 in
theorem gOrder_any (C : SortC α) (w0 : World) (hO : C.Ok w0) (a b q s : Nat) (d : Array α) (w : World) (hA : C.At w0 w d) (ha : a < C.n) (hb : b < C.n) (hq : w0.heap.size ≤ q) (hc : w.heap[q]? = some (.cells #[.int .i64 (s : Int)] 3 (0, 0))) (hs : s ≤ 100) :
    Calls Tryz.prog 137 #[.agg #[.func (.func C.g) #[] C.lb, .func (.func C.sf) #[] C.sb], .int .i64 (a : Int), .int .i64 (b : Int), .pointer (some ⟨q, 0, none⟩)] w fun e w' => (∃ x y : Nat, e = .returned (.tuple #[.int .i64 (x : Int), .int .i64 (y : Int)]) ∧ (x = a ∧ y = b ∨ x = b ∧ y = a)) ∧ ∃ s' : Nat, s' ≤ s + 1 ∧ w'.heap[q]? = some (.cells #[.int .i64 (s' : Int)] 3 (0, 0)) ∧ C.own w' d ∧ Fr w w' (fun j => j = q) := by
  have hqw : q < w.heap.size := lt_of_block hc
  have hqb : q ≠ C.b := by have := hO.hb; omega
  have HC : Hid (w.heap[q]? = some (.cells #[.int .i64 (s : Int)] 3 (0, 0))) := hc
  have Hb0 : Hid (C.b < w0.heap.size) := hO.hb
  clear hc
  have eg := hO.eg
  have hn := hO.hn
  have hbw : C.b < w.heap.size := Nat.lt_of_lt_of_le hO.hb hA.2.size
  have HO : Hid (C.Ok w0) := hO
  have HA : Hid (C.At w0 w d) := hA
  clear hO hA
  go_enter Tryz.func137, Tryz.ntmps137
  go_upto_region 1 with fail
  obtain ⟨p, hp⟩ : ∃ p, p = w.heap.size := ⟨_, rfl⟩
  obtain ⟨w1, hw1⟩ : ∃ x, x = w.alloc (.cells #[.func (.func C.g) #[] C.lb, .func (.func C.sf) #[] C.sb] 150) := ⟨_, rfl⟩
  rw [← hw1, ← hp]
  have HB : Hid (w1.heap[p]? = some (.cells #[.func (.func C.g) #[] C.lb, .func (.func C.sf) #[] C.sb] 150 (0, 0))) := by show _ = _; rw [hw1, hp]; exact heap_alloc_new _ _
  have HF : Hid (Fr w w1 (fun j => j = C.b)) := by show Fr _ _ _; rw [hw1]; exact (Fr.refl _ _).alloc _
  have HW : Hid (C.own w1 d) := by show C.own _ _; rw [hw1]; exact HA.out.1.frame ((Fr.refl _ (fun _ => False)).alloc _) (fun h => h)
  have hpb : p ≠ C.b := by omega
  have hpq : p ≠ q := by omega
  have HC1 : Hid (w1.heap[q]? = some (.cells #[.int .i64 (s : Int)] 3 (0, 0))) := by show _ = _; rw [hw1]; exact blk_alloc _ HC.out
  have HF1 : Hid (Fr w w1 (fun j => j = q)) := by show Fr _ _ _; rw [hw1]; exact (Fr.refl _ _).alloc _
  clear hp hw1 hbw hqw
  obtain ⟨c0, c1⟩ := box_cells HB.out (Fr.refl w1 (fun j => j = C.b)) hpb
  have hl := HO.out.less w1 d ((HA.out.then HW.out HF.out).then HW.out (Fr.refl _ _)) (b) (a) (by omega) (by omega)
  rw [show ((b : Nat) : Int) = (b : Int) by omega, show ((a : Nat) : Int) = (a : Int) by omega] at hl
  cases hlv : C.lt d[b]! d[a]! with
  | true =>
    rw [hlv] at hl
    clear hlv
    go_wp2_with fail
    refine hl.mono ?_
    rintro e w2 ⟨rfl, hf2⟩
    obtain ⟨k0, k1⟩ := one_cell (hf2.kept HC1.out (fun h => h))
    have HZ : Hid (w2.heap[q]? = some (.cells #[.int .i64 (s : Int)] 3 (0, 0)) ∧ C.own w2 d ∧ Fr w w2 (fun j => j = q)) := ⟨hf2.kept HC1.out (fun h => h), HW.out.frame hf2 (fun h => h), HF1.out.none hf2⟩
    clear hf2 hl c0 c1
    go_wp2_with fail
    go_ret2
    exact ⟨⟨b, a, rfl, .inr ⟨rfl, rfl⟩⟩, s + 1, Nat.le_refl _, by have := one_set (u := .int .i64 ((s : Int) + 1)) HZ.out.1; simpa using this, HZ.out.2.1.frame ((Fr.refl _ (fun j => j = q)).setCell _ (fun _ => rfl) _) (fun h => hqb h.symm), HZ.out.2.2.trans ((Fr.refl _ (fun j => j = q)).setCell _ (fun _ => rfl) _) (fun _ _ h => h)⟩
  | false =>
    rw [hlv] at hl
    clear hlv
    go_wp2_with fail
    refine hl.mono ?_
    rintro e w2 ⟨rfl, hf2⟩
    have HZ : Hid (w2.heap[q]? = some (.cells #[.int .i64 (s : Int)] 3 (0, 0)) ∧ C.own w2 d ∧ Fr w w2 (fun j => j = q)) := ⟨hf2.kept HC1.out (fun h => h), HW.out.frame hf2 (fun h => h), HF1.out.none hf2⟩
    clear hf2 hl c0 c1
    go_wp2_with fail
    go_ret2
    exact ⟨⟨a, b, rfl, .inl ⟨rfl, rfl⟩⟩, s, Nat.le_succ s, HZ.out.1, HZ.out.2.1, HZ.out.2.2⟩

set_option maxRecDepth 4000 in
set_option maxHeartbeats 1600000 in
theorem gMedian_any (C : SortC α) (w0 : World) (hO : C.Ok w0) (a b c q s : Nat) (d : Array α) (w : World) (hA : C.At w0 w d) (ha : a < C.n) (hb : b < C.n) (hc3 : c < C.n) (hq : w0.heap.size ≤ q) (hc : w.heap[q]? = some (.cells #[.int .i64 (s : Int)] 3 (0, 0))) (hs : s ≤ 90) :
    Calls Tryz.prog 132 #[.agg #[.func (.func C.g) #[] C.lb, .func (.func C.sf) #[] C.sb], .int .i64 (a : Int), .int .i64 (b : Int), .int .i64 (c : Int), .pointer (some ⟨q, 0, none⟩)] w fun e w' => (∃ x : Nat, e = .returned (.int .i64 (x : Int)) ∧ (x = a ∨ x = b ∨ x = c)) ∧ ∃ s' : Nat, s' ≤ s + 3 ∧ w'.heap[q]? = some (.cells #[.int .i64 (s' : Int)] 3 (0, 0)) ∧ C.own w' d ∧ Fr w w' (fun j => j = q) := by
  have hqw : q < w.heap.size := lt_of_block hc
  have hqb : q ≠ C.b := by have := hO.hb; omega
  have HC : Hid (w.heap[q]? = some (.cells #[.int .i64 (s : Int)] 3 (0, 0))) := hc
  have Hq : Hid (w0.heap.size ≤ q) := hq
  clear hc hq
  have eg := hO.eg
  have hn := hO.hn
  have hbw : C.b < w.heap.size := Nat.lt_of_lt_of_le hO.hb hA.2.size
  have HO : Hid (C.Ok w0) := hO
  have HA : Hid (C.At w0 w d) := hA
  clear hO hA
  go_enter Tryz.func132, Tryz.ntmps132
  go_upto_region 1 with fail
  obtain ⟨p, hp⟩ : ∃ p, p = w.heap.size := ⟨_, rfl⟩
  obtain ⟨w1, hw1⟩ : ∃ x, x = w.alloc (.cells #[.func (.func C.g) #[] C.lb, .func (.func C.sf) #[] C.sb] 150) := ⟨_, rfl⟩
  rw [← hw1, ← hp]
  have HB : Hid (w1.heap[p]? = some (.cells #[.func (.func C.g) #[] C.lb, .func (.func C.sf) #[] C.sb] 150 (0, 0))) := by show _ = _; rw [hw1, hp]; exact heap_alloc_new _ _
  have HF : Hid (Fr w w1 (fun j => j = C.b)) := by show Fr _ _ _; rw [hw1]; exact (Fr.refl _ _).alloc _
  have HW : Hid (C.own w1 d) := by show C.own _ _; rw [hw1]; exact HA.out.1.frame ((Fr.refl _ (fun _ => False)).alloc _) (fun h => h)
  have hpb : p ≠ C.b := by omega
  have hpq : p ≠ q := by omega
  have HC1 : Hid (w1.heap[q]? = some (.cells #[.int .i64 (s : Int)] 3 (0, 0))) := by show _ = _; rw [hw1]; exact blk_alloc _ HC.out
  have HF1 : Hid (Fr w w1 (fun j => j = q)) := by show Fr _ _ _; rw [hw1]; exact (Fr.refl _ _).alloc _
  clear hp hw1 hbw hqw
  have G0 : Hid (w1.heap[q]? = some (.cells #[.int .i64 (s : Int)] 3 (0, 0)) ∧ C.own w1 d ∧ Fr w1 w1 (fun j => j = q)) := ⟨HC1.out, HW.out, Fr.refl _ _⟩
  obtain ⟨c0, c1⟩ := box_cells HB.out G0.out.2.2 hpq
  have hcall := gOrder_any C w0 HO.out a b q s d w1 ⟨G0.out.2.1, HA.out.2.newer (HF1.out.trans G0.out.2.2 (fun _ _ h => h)) (fun i hi => hi ▸ Hq.out)⟩ (by omega) (by omega) Hq.out G0.out.1 (by omega)
  go_wp2_with fail
  refine hcall.mono ?_
  rintro e x1 ⟨⟨a1, b1, rfl, hor1⟩, s1, hs1, hc, ho, hf⟩
  have G1 : Hid (x1.heap[q]? = some (.cells #[.int .i64 (s1 : Int)] 3 (0, 0)) ∧ C.own x1 d ∧ Fr w1 x1 (fun j => j = q)) := ⟨hc, ho, G0.out.2.2.trans hf (fun _ _ h => h)⟩
  clear hcall c0 c1 hc ho hf
  obtain ⟨c0, c1⟩ := box_cells HB.out G1.out.2.2 hpq
  have hcall := gOrder_any C w0 HO.out b1 c q s1 d x1 ⟨G1.out.2.1, HA.out.2.newer (HF1.out.trans G1.out.2.2 (fun _ _ h => h)) (fun i hi => hi ▸ Hq.out)⟩ (by omega) (by omega) Hq.out G1.out.1 (by omega)
  go_wp2_with fail
  refine hcall.mono ?_
  rintro e x2 ⟨⟨b12, c2, rfl, hor2⟩, s2, hs2, hc, ho, hf⟩
  have G2 : Hid (x2.heap[q]? = some (.cells #[.int .i64 (s2 : Int)] 3 (0, 0)) ∧ C.own x2 d ∧ Fr w1 x2 (fun j => j = q)) := ⟨hc, ho, G1.out.2.2.trans hf (fun _ _ h => h)⟩
  clear hcall c0 c1 hc ho hf
  obtain ⟨c0, c1⟩ := box_cells HB.out G2.out.2.2 hpq
  have hcall := gOrder_any C w0 HO.out a1 b12 q s2 d x2 ⟨G2.out.2.1, HA.out.2.newer (HF1.out.trans G2.out.2.2 (fun _ _ h => h)) (fun i hi => hi ▸ Hq.out)⟩ (by omega) (by omega) Hq.out G2.out.1 (by omega)
  go_wp2_with fail
  refine hcall.mono ?_
  rintro e x3 ⟨⟨a13, b123, rfl, hor3⟩, s3, hs3, hc, ho, hf⟩
  have G3 : Hid (x3.heap[q]? = some (.cells #[.int .i64 (s3 : Int)] 3 (0, 0)) ∧ C.own x3 d ∧ Fr w1 x3 (fun j => j = q)) := ⟨hc, ho, G2.out.2.2.trans hf (fun _ _ h => h)⟩
  clear hcall c0 c1 hc ho hf
  go_wp2_with fail
  go_ret
  exact ⟨⟨b123, rfl, by omega⟩, s3, by omega, G3.out.1, G3.out.2.1, HF1.out.trans G3.out.2.2 (fun _ _ h => h)⟩

set_option maxRecDepth 4000 in
set_option maxHeartbeats 1600000 in
theorem gAdj_any (C : SortC α) (w0 : World) (hO : C.Ok w0) (a q s : Nat) (d : Array α) (w : World) (hA : C.At w0 w d) (ha : 1 ≤ a) (hb : a + 1 < C.n) (hq : w0.heap.size ≤ q) (hc : w.heap[q]? = some (.cells #[.int .i64 (s : Int)] 3 (0, 0))) (hs : s ≤ 90) :
    Calls Tryz.prog 131 #[.agg #[.func (.func C.g) #[] C.lb, .func (.func C.sf) #[] C.sb], .int .i64 (a : Int), .pointer (some ⟨q, 0, none⟩)] w fun e w' => (∃ x : Nat, e = .returned (.int .i64 (x : Int)) ∧ a ≤ x + 1 ∧ x ≤ a + 1) ∧ ∃ s' : Nat, s' ≤ s + 3 ∧ w'.heap[q]? = some (.cells #[.int .i64 (s' : Int)] 3 (0, 0)) ∧ C.own w' d ∧ Fr w w' (fun j => j = q) := by
  have hqw : q < w.heap.size := lt_of_block hc
  have hqb : q ≠ C.b := by have := hO.hb; omega
  have HC : Hid (w.heap[q]? = some (.cells #[.int .i64 (s : Int)] 3 (0, 0))) := hc
  have Hq : Hid (w0.heap.size ≤ q) := hq
  clear hc hq
  have eg := hO.eg
  have hn := hO.hn
  have hbw : C.b < w.heap.size := Nat.lt_of_lt_of_le hO.hb hA.2.size
  have HO : Hid (C.Ok w0) := hO
  have HA : Hid (C.At w0 w d) := hA
  clear hO hA
  go_enter Tryz.func131, Tryz.ntmps131
  go_upto_region 1 with fail
  obtain ⟨p, hp⟩ : ∃ p, p = w.heap.size := ⟨_, rfl⟩
  obtain ⟨w1, hw1⟩ : ∃ x, x = w.alloc (.cells #[.func (.func C.g) #[] C.lb, .func (.func C.sf) #[] C.sb] 150) := ⟨_, rfl⟩
  rw [← hw1, ← hp]
  have HB : Hid (w1.heap[p]? = some (.cells #[.func (.func C.g) #[] C.lb, .func (.func C.sf) #[] C.sb] 150 (0, 0))) := by show _ = _; rw [hw1, hp]; exact heap_alloc_new _ _
  have HF : Hid (Fr w w1 (fun j => j = C.b)) := by show Fr _ _ _; rw [hw1]; exact (Fr.refl _ _).alloc _
  have HW : Hid (C.own w1 d) := by show C.own _ _; rw [hw1]; exact HA.out.1.frame ((Fr.refl _ (fun _ => False)).alloc _) (fun h => h)
  have hpb : p ≠ C.b := by omega
  have hpq : p ≠ q := by omega
  have HC1 : Hid (w1.heap[q]? = some (.cells #[.int .i64 (s : Int)] 3 (0, 0))) := by show _ = _; rw [hw1]; exact blk_alloc _ HC.out
  have HF1 : Hid (Fr w w1 (fun j => j = q)) := by show Fr _ _ _; rw [hw1]; exact (Fr.refl _ _).alloc _
  clear hp hw1 hbw hqw
  obtain ⟨c0, c1⟩ := box_cells HB.out (Fr.refl w1 (fun j => j = q)) hpq
  have hcall := gMedian_any C w0 HO.out (a - 1) a (a + 1) q s d w1 ⟨HW.out, HA.out.2.newer HF1.out (fun i hi => hi ▸ Hq.out)⟩ (by omega) (by omega) (by omega) Hq.out HC1.out (by omega)
  rw [show (((a - 1 : Nat)) : Int) = (a : Int) - 1 by omega, show (((a + 1 : Nat)) : Int) = (a : Int) + 1 by omega] at hcall
  go_wp2_with fail
  refine hcall.mono ?_
  rintro e x1 ⟨⟨r, rfl, hor⟩, s1, hs1, hc, ho, hf⟩
  have G1 : Hid (x1.heap[q]? = some (.cells #[.int .i64 (s1 : Int)] 3 (0, 0)) ∧ C.own x1 d ∧ Fr w1 x1 (fun j => j = q)) := ⟨hc, ho, hf⟩
  clear hcall c0 c1 hc ho hf
  go_wp2_with fail
  go_ret
  exact ⟨⟨r, rfl, by omega, by omega⟩, s1, by omega, G1.out.1, G1.out.2.1, HF1.out.trans G1.out.2.2 (fun _ _ h => h)⟩

end

end Go.Proofs.YtnffjafddbbjaaaGreatDoor

/-
  Which pivot the library's sort chooses is left open: one of the part's.
-/
namespace Go.Proofs.YtnffjafddbbjaaaGreatDoor
open Go.RowKit Go.Sort

section
variable {α : Type} [Inhabited α]

set_option maxRecDepth 4000 in
set_option maxHeartbeats 1600000 in
theorem gChoose_any (C : SortC α) (w0 : World) (hO : C.Ok w0) (a b : Nat) (d : Array α) (w : World) (hA : C.At w0 w d) (hab : a + 12 < b) (hb : b ≤ C.n) :
    Calls Tryz.prog 115 #[.agg #[.func (.func C.g) #[] C.lb, .func (.func C.sf) #[] C.sb], .int .i64 (a : Int), .int .i64 (b : Int)] w fun e w' => (∃ (j h : Nat), e = .returned (.tuple #[.int .i64 (j : Int), .int .i64 (h : Int)]) ∧ (a ≤ j ∧ j < b) ∧ h ≤ 2) ∧ C.own w' d ∧ Fr w w' (fun _ => False) := by
  have eg := hO.eg
  have hn := hO.hn
  have hbw : C.b < w.heap.size := Nat.lt_of_lt_of_le hO.hb hA.2.size
  have HO : Hid (C.Ok w0) := hO
  have HA : Hid (C.At w0 w d) := hA
  clear hO hA
  go_enter Tryz.func115, Tryz.ntmps115
  go_upto_region 1 with fail
  obtain ⟨p, hp⟩ : ∃ p, p = w.heap.size := ⟨_, rfl⟩
  obtain ⟨w1, hw1⟩ : ∃ x, x = w.alloc (.cells #[.func (.func C.g) #[] C.lb, .func (.func C.sf) #[] C.sb] 150) := ⟨_, rfl⟩
  rw [← hw1, ← hp]
  have HB : Hid (w1.heap[p]? = some (.cells #[.func (.func C.g) #[] C.lb, .func (.func C.sf) #[] C.sb] 150 (0, 0))) := by show _ = _; rw [hw1, hp]; exact heap_alloc_new _ _
  have HF : Hid (Fr w w1 (fun j => j = C.b)) := by show Fr _ _ _; rw [hw1]; exact (Fr.refl _ _).alloc _
  have HW : Hid (C.own w1 d) := by show C.own _ _; rw [hw1]; exact HA.out.1.frame ((Fr.refl _ (fun _ => False)).alloc _) (fun h => h)
  have hpb : p ≠ C.b := by omega
  have HG : Hid (Fr w w1 (fun _ => False)) := by show Fr _ _ _; rw [hw1]; exact (Fr.refl _ _).alloc _
  clear hp hw1 hbw
  obtain ⟨L, hL⟩ : ∃ L, b = a + L := ⟨b - a, by omega⟩
  subst hL
  obtain ⟨Q, hQ⟩ : ∃ Q, Q = L / 4 := ⟨_, rfl⟩
  have eQ : ((a : Int) + (L : Int) - (a : Int)) / 4 = (Q : Int) := by omega
  have hQ1 : 3 ≤ Q := by omega
  have hQ2 : 4 * Q ≤ L := by omega
  go_upto_region 6 with fail
  obtain ⟨q, hq⟩ : ∃ q, q = w1.heap.size := ⟨_, rfl⟩
  obtain ⟨x0, hx0⟩ : ∃ x, x = w1.alloc (.cells #[.int .i64 0] 3) := ⟨_, rfl⟩
  rw [← hx0, ← hq]
  have hw01 : w0.heap.size ≤ w1.heap.size := (HA.out.2.trans HF.out (fun _ _ h => h)).size
  have hpw : p < w1.heap.size := lt_of_block HB.out
  have HQ : Hid (w0.heap.size ≤ q) := by show _ ≤ _; omega
  have hpq : p ≠ q := by omega
  have HN : Hid (w1.heap.size ≤ q) := by show _ ≤ _; omega
  have HBx : Hid (x0.heap[p]? = some (.cells #[.func (.func C.g) #[] C.lb, .func (.func C.sf) #[] C.sb] 150 (0, 0))) := by show _ = _; rw [hx0]; exact blk_alloc _ HB.out
  have H0 : Hid (x0.heap[q]? = some (.cells #[.int .i64 ((0 : Nat) : Int)] 3 (0, 0)) ∧ C.own x0 d ∧ Fr x0 x0 (fun j => j = q)) := by
    refine ⟨?_, ?_, Fr.refl _ _⟩
    · rw [hx0, hq]; exact heap_alloc_new _ _
    · rw [hx0]; exact HW.out.frame ((Fr.refl _ (fun _ => False)).alloc _) (fun h => h)
  have HX0 : Hid (Fr w1 x0 (fun _ => False)) := by show Fr _ _ _; rw [hx0]; exact (Fr.refl _ _).alloc _
  have HAt : Hid (∀ z, Fr x0 z (fun j => j = q) → Fr w0 z (fun j => j = C.b)) := fun z hz =>
    ((HA.out.2.trans HF.out (fun _ _ h => h)).none HX0.out).newer hz (fun i hi => hi ▸ HQ.out)
  have HEnd : Hid (∀ z, Fr x0 z (fun j => j = q) → Fr w z (fun _ => False)) := fun z hz =>
    (HG.out.none HX0.out).trans hz (fun i hi h => by have := HN.out; have := HG.out.size; omega)
  clear hq hx0 hw01 hpw
  have h8 : (8 : Int) ≤ (a : Int) + (L : Int) - (a : Int) := by omega
  have hq1 : ((a + Q : Nat) : Int) = (a : Int) + (L : Int) / 4 := by omega
  have hq2 : ((a + Q * 2 : Nat) : Int) = (a : Int) + (L : Int) / 4 * 2 := by omega
  have hq3 : ((a + Q * 3 : Nat) : Int) = (a : Int) + (L : Int) / 4 * 3 := by omega
  have hQ3 : Q * 3 + 2 ≤ L := by omega
  have HQ1 : Hid _ := hq1
  have HQ2 : Hid _ := hq2
  have HQ3 : Hid _ := hq3
  clear hq1 hq2 hq3 eQ hQ
  by_cases h50 : 50 ≤ L
  · have h50i : (50 : Int) ≤ (a : Int) + (L : Int) - (a : Int) := by omega
    obtain ⟨c0, c1⟩ := box_cells HBx.out H0.out.2.2 hpq
    have hcall := gAdj_any C w0 HO.out (a + Q) q 0 d x0 ⟨H0.out.2.1, HAt.out _ H0.out.2.2⟩ (by omega) (by omega) HQ.out H0.out.1 (by omega)
    rw [HQ1.out] at hcall
    go_wp2_with fail
    refine hcall.mono ?_
    rintro e x1 ⟨⟨i1, rfl, hi1, hj1⟩, s1, hs1, hc, ho, hf⟩
    have H1 : Hid (x1.heap[q]? = some (.cells #[.int .i64 (s1 : Int)] 3 (0, 0)) ∧ C.own x1 d ∧ Fr x0 x1 (fun j => j = q)) := ⟨hc, ho, H0.out.2.2.trans hf (fun _ _ h => h)⟩
    clear hcall c0 c1 hc ho hf
    obtain ⟨c0, c1⟩ := box_cells HBx.out H1.out.2.2 hpq
    have hcall := gAdj_any C w0 HO.out (a + Q * 2) q s1 d x1 ⟨H1.out.2.1, HAt.out _ H1.out.2.2⟩ (by omega) (by omega) HQ.out H1.out.1 (by omega)
    rw [HQ2.out] at hcall
    go_wp2_with fail
    refine hcall.mono ?_
    rintro e x2 ⟨⟨i2, rfl, hi2, hj2⟩, s2, hs2, hc, ho, hf⟩
    have H2 : Hid (x2.heap[q]? = some (.cells #[.int .i64 (s2 : Int)] 3 (0, 0)) ∧ C.own x2 d ∧ Fr x0 x2 (fun j => j = q)) := ⟨hc, ho, H1.out.2.2.trans hf (fun _ _ h => h)⟩
    clear hcall c0 c1 hc ho hf
    obtain ⟨c0, c1⟩ := box_cells HBx.out H2.out.2.2 hpq
    have hcall := gAdj_any C w0 HO.out (a + Q * 3) q s2 d x2 ⟨H2.out.2.1, HAt.out _ H2.out.2.2⟩ (by omega) (by omega) HQ.out H2.out.1 (by omega)
    rw [HQ3.out] at hcall
    go_wp2_with fail
    refine hcall.mono ?_
    rintro e x3 ⟨⟨i3, rfl, hi3, hj3⟩, s3, hs3, hc, ho, hf⟩
    have H3 : Hid (x3.heap[q]? = some (.cells #[.int .i64 (s3 : Int)] 3 (0, 0)) ∧ C.own x3 d ∧ Fr x0 x3 (fun j => j = q)) := ⟨hc, ho, H2.out.2.2.trans hf (fun _ _ h => h)⟩
    clear hcall c0 c1 hc ho hf
    obtain ⟨c0, c1⟩ := box_cells HBx.out H3.out.2.2 hpq
    have hcall := gMedian_any C w0 HO.out i1 i2 i3 q s3 d x3 ⟨H3.out.2.1, HAt.out _ H3.out.2.2⟩ (by omega) (by omega) (by omega) HQ.out H3.out.1 (by omega)
    go_wp2_with fail
    refine hcall.mono ?_
    rintro e x4 ⟨⟨j, rfl, hj⟩, s4, hs4, hc, ho, hf⟩
    have H4 : Hid (x4.heap[q]? = some (.cells #[.int .i64 (s4 : Int)] 3 (0, 0)) ∧ C.own x4 d ∧ Fr x0 x4 (fun j => j = q)) := ⟨hc, ho, H3.out.2.2.trans hf (fun _ _ h => h)⟩
    have hjr : a ≤ j ∧ j < a + L := by omega
    obtain ⟨k0, -⟩ := one_cell hc
    clear hcall c0 c1 hc ho hf hj
    by_cases z0 : s4 = 0
    · subst z0
      go_wp2_with fail
      go_ret2
      exact ⟨⟨j, 1, rfl, hjr, by omega⟩, H4.out.2.1, HEnd.out _ H4.out.2.2⟩
    · have z0i : ((s4 : Int) == 0) = false := by rw [beq_eq_false_iff_ne]; omega
      have z0n : (s4 == 0) = false := by rw [beq_eq_false_iff_ne]; exact z0
      by_cases z1 : s4 = 12
      · subst z1
        go_wp2_with fail
        go_ret2
        exact ⟨⟨j, 2, rfl, hjr, by omega⟩, H4.out.2.1, HEnd.out _ H4.out.2.2⟩
      · have z1i : ((s4 : Int) == 12) = false := by rw [beq_eq_false_iff_ne]; omega
        have z1n : (s4 == 12) = false := by rw [beq_eq_false_iff_ne]; exact z1
        go_wp2_with fail
        go_ret2
        exact ⟨⟨j, 0, rfl, hjr, by omega⟩, H4.out.2.1, HEnd.out _ H4.out.2.2⟩
  · have h50i : ¬ (50 : Int) ≤ (a : Int) + (L : Int) - (a : Int) := by omega
    obtain ⟨c0, c1⟩ := box_cells HBx.out H0.out.2.2 hpq
    have hcall := gMedian_any C w0 HO.out (a + Q) (a + Q * 2) (a + Q * 3) q 0 d x0 ⟨H0.out.2.1, HAt.out _ H0.out.2.2⟩ (by omega) (by omega) (by omega) HQ.out H0.out.1 (by omega)
    rw [HQ1.out, HQ2.out, HQ3.out] at hcall
    go_wp2_with fail
    refine hcall.mono ?_
    rintro e x4 ⟨⟨j, rfl, hj⟩, s4, hs4, hc, ho, hf⟩
    have H4 : Hid (x4.heap[q]? = some (.cells #[.int .i64 (s4 : Int)] 3 (0, 0)) ∧ C.own x4 d ∧ Fr x0 x4 (fun j => j = q)) := ⟨hc, ho, H0.out.2.2.trans hf (fun _ _ h => h)⟩
    have hjr : a ≤ j ∧ j < a + L := by omega
    obtain ⟨k0, -⟩ := one_cell hc
    clear hcall c0 c1 hc ho hf hj
    by_cases z0 : s4 = 0
    · subst z0
      go_wp2_with fail
      go_ret2
      exact ⟨⟨j, 1, rfl, hjr, by omega⟩, H4.out.2.1, HEnd.out _ H4.out.2.2⟩
    · have z0i : ((s4 : Int) == 0) = false := by rw [beq_eq_false_iff_ne]; omega
      have z0n : (s4 == 0) = false := by rw [beq_eq_false_iff_ne]; exact z0
      by_cases z1 : s4 = 12
      · subst z1
        go_wp2_with fail
        go_ret2
        exact ⟨⟨j, 2, rfl, hjr, by omega⟩, H4.out.2.1, HEnd.out _ H4.out.2.2⟩
      · have z1i : ((s4 : Int) == 12) = false := by rw [beq_eq_false_iff_ne]; omega
        have z1n : (s4 == 12) = false := by rw [beq_eq_false_iff_ne]; exact z1
        go_wp2_with fail
        go_ret2
        exact ⟨⟨j, 0, rfl, hjr, by omega⟩, H4.out.2.1, HEnd.out _ H4.out.2.2⟩

end

end Go.Proofs.YtnffjafddbbjaaaGreatDoor

/-
  The library's sort.Slice over a slice that the call owns, whatever its elements (of k cells each), by a function of two places that may lay new blocks: it leaves them in order, the same ones.
-/
import Derived.Test.YtnffjafddbbjaaaGreatDoorGPdq
import Derived.Test.YtnffjafddbbjaaaGreatDoorGLay
import Derived.Shelf.GgSortFunc.Tiny
import Derived.Shelf.GgSortFunc.SmallK
import Derived.Shelf.SlSortFuncK.BreakPatternsK
namespace Go.Proofs.YtnffjafddbbjaaaGreatDoor
open Go.RowKit Go.Sort Go.Shelf Go.Lib

section
variable {α : Type} [Inhabited α]
theorem fr_grow (w : World) (os : Array Obj) (S : Nat → Prop) : Fr w (grow w os) S := ⟨rfl, rfl, rfl, by rw [size_grow]; omega, fun j hj _ => heap_grow_old _ _ hj⟩

/-- What must be known of a slice's type t of elements of type e (struct values of k cells; kk: which of the library's swappers serves). -/
structure SlT (t e : TypeId) (k : Nat) (i ie : TypeInfo) (ke kk : Nat) : Prop where
  hi : Tryz.prog.info? t = some i
  hd : i.desc = .slice e
  hpk : Tryz.prog.packed t = false
  hie : Tryz.prog.info? e = some ie
  hke : ∀ w, (Extern.Rtype.kind e).run Tryz.prog w = .ok ke w
  hs : ie.size = k
  hagg : ∀ w, (isAgg e).run Tryz.prog w = .ok true w
  hp : ie.hasPointers = false
  hb : (match ie.bytes with | 8 => 5 | 4 => 6 | 2 => 7 | 1 => 8 | _ => 9) = kk
theorem SlT.k9 {t e : TypeId} {k : Nat} {i ie : TypeInfo} {ke kk : Nat} (h : SlT t e k i ie ke kk) (n : Nat) (h2 : 2 ≤ n) : swapperK n ie ke = kk := by
  have c : (n == 0) = false := by simp; omega
  have d : (n == 1) = false := by simp; omega
  unfold swapperK
  rw [c, d, h.hp]
  simp only [Bool.false_eq_true, if_false, Bool.false_and]
  exact h.hb

theorem SlT.k1 {t e : TypeId} {k : Nat} {i ie : TypeInfo} {ke kk : Nat} (_ : SlT t e k i ie ke kk) (n : Nat) (h2 : ¬ 2 ≤ n) : swapperK n ie ke = n + 1 := by
  rcases Nat.eq_zero_or_pos n with h0 | h0
  · rw [h0]; rfl
  · obtain h1 : n = 1 := by omega
    rw [h1]; rfl
/-- .. off the program's types. -/
theorem slT_of {t e : TypeId} {k ke bytes kk : Nat} (hbk : (match bytes with | 8 => 5 | 4 => 6 | 2 => 7 | 1 => 8 | _ => 9) = kk) (h1 : (Tryz.prog.info? t).map (fun i => i.desc) = some (.slice e)) (h2 : (Tryz.prog.info? e).map (fun i => (i.size, i.hasPointers, i.bytes)) = some (k, false, bytes)) (hpk : Tryz.prog.packed t = false)
    (hke : ∀ w, (Extern.Rtype.kind e).run Tryz.prog w = .ok ke w) (hagg : ∀ w, (isAgg e).run Tryz.prog w = .ok true w) : ∃ i ie, SlT t e k i ie ke kk := by
  cases hi : Tryz.prog.info? t with
  | none => rw [hi] at h1; cases h1
  | some i =>
    cases hie : Tryz.prog.info? e with
    | none => rw [hie] at h2; cases h2
    | some ie =>
      rw [hi] at h1
      rw [hie] at h2
      simp only [Option.map_some, Option.some.injEq, Prod.mk.injEq] at h1 h2
      exact ⟨i, ie, hi, h1, hpk, hie, hke, h2.1, hagg, h2.2.1, by rw [h2.2.2]; exact hbk⟩

theorem swap_own (C : SortC α) (hk : ∀ x, (C.enc x).length = C.k) (h0 : 0 < C.k) (hsw : SwapSwapsK Tryz.prog C.sf C.sb C.enc C.k C.b 0 C.n) (w : World) (d : Array α) (ho : C.own w d) (i j : Nat) (hi : i < C.n) (hj : j < C.n) :
    ∃ w', (callFunc C.sf (#[.int .i64 i, .int .i64 j] ++ C.sb)).run Tryz.prog w = .ok (.value (.tuple #[])) w' ∧ C.own w' (swp d i j) ∧ Fr w w' (fun j => j = C.b) := by
  obtain ⟨hs, hr⟩ := ho
  have hl : C.n = d.toList.length := by simpa using hs.symm
  have hr2 : w.ownsRow 0 C.T C.k (.slice (some ⟨C.b, 0, none⟩) d.toList.length C.cap) d.toList.length (d.toList.flatMap C.enc) := hl ▸ hr
  have hh := own_holdsG hk h0 hr2
  have e0 : d.toList.toArray = d := by simp
  rw [e0] at hh
  have hrun := hsw w d hh hs i j hi hj
  have hsz : (swp d i j).size = d.toList.length := by rw [size_swp]; simp
  obtain ⟨k1, k2⟩ := own_sortedG hk h0 hr2 (swp d i j) hsz 0 #[]
  rw [grow_empty] at k1 k2
  have ew : (w.setCells C.b (0 + i * C.k) (C.enc d[j]!)).setCells C.b (0 + j * C.k) (C.enc d[i]!) = putRowK C.enc C.k (Sort.ahead w 0) C.b 0 (swp d i j) := by
    rw [← putRowK_swp C.enc C.k hk (Sort.ahead w 0) C.b 0 d i j (by omega) (by omega)]
    rw [putRowK_self C.enc C.k (Sort.ahead w 0) C.b 0 d hh]
    rfl
  rw [ew] at hrun
  exact ⟨_, hrun, ⟨by rw [size_swp]; exact hs, by rw [hl]; exact k1⟩, k2⟩

theorem own_world (C : SortC α) (hk : ∀ x, (C.enc x).length = C.k) (h0 : 0 < C.k) (w : World) (d d' : Array α) (ho : C.own w d) (hs' : d'.size = d.size) (n : Nat) (os : Array Obj) :
    C.own (sortWorldK C.enc C.k w C.b 0 n d' os) d' ∧ Fr w (sortWorldK C.enc C.k w C.b 0 n d' os) (fun j => j = C.b) := by
  obtain ⟨hs, hr⟩ := ho
  have hl : C.n = d.toList.length := by simpa using hs.symm
  have hr2 : w.ownsRow 0 C.T C.k (.slice (some ⟨C.b, 0, none⟩) d.toList.length C.cap) d.toList.length (d.toList.flatMap C.enc) := hl ▸ hr
  obtain ⟨k1, k2⟩ := own_sortedG hk h0 hr2 d' (by rw [hs']; simp) n os
  exact ⟨⟨hs'.trans hs, by rw [hl]; exact k1⟩, k2⟩

/-- sort.Slice. -/
theorem gSlice_any {t e : TypeId} {i ie : TypeInfo} {ke kk : Nat} {gS : Bool} (C : SortC α) (hT : SlT t e C.k i ie ke kk) (hk : ∀ x, (C.enc x).length = C.k) (h0 : 0 < C.k) (h1 : ∀ x, ∀ v ∈ C.enc x, v.oneCell' = true) (hO : SWO C.lt) (hn : C.n ≤ 1000000000)
    (hsb : C.sb = #[.slice (some ⟨C.b, 0, none⟩) C.n C.cap, typeHandle Tryz.prog e])
    (hx : ∀ args W, (callFunc C.sf args).run Tryz.prog W = ((Extern.ReflectliteSwapper.swap gS args).run Tryz.prog W).andThen fun v w' => .ok (.value v) w')
    (eg : ∀ args w, (callFunc C.g args).run Tryz.prog w = .ok (.enter C.g args) w) (w : World) (d : Array α) (hd : C.own w d) (h2 : 2 ≤ C.n)
    (hA : ∀ R : World → Prop, Calls Tryz.prog 85 #[.agg #[.func (.func C.g) #[] C.lb, .func (.func C.sf) #[] (sliceBound Tryz.prog e ie ke (some ⟨C.b, 0, none⟩) C.n C.cap)], .int .i64 0, .int .i64 C.n, .int .i64 (Lib.bitLen C.n)] (sliceWorld Tryz.prog sortSl_ren t (some ⟨C.b, 0, none⟩) C.n C.cap w) (fun e w' => e = .returned (.tuple #[]) ∧ R w') →
      Calls Tryz.prog 55 #[.iface t (.slice (some ⟨C.b, 0, none⟩) C.n C.cap), .func (.func C.g) #[] C.lb] w fun e w' => e = .returned (.tuple #[]) ∧ R w')
    (hless : ∀ (z : World) (d : Array α), C.At w z d → ∀ i j : Nat, i < C.n → j < C.n → Calls Tryz.prog C.g (#[.int .i64 i, .int .i64 j] ++ C.lb) z fun e w' => e = .returned (.bool (C.lt d[i]! d[j]!)) ∧ Fr z w' (fun _ => False)) :
    Calls Tryz.prog 55 #[.iface t (.slice (some ⟨C.b, 0, none⟩) C.n C.cap), .func (.func C.g) #[] C.lb] w fun e w' => e = .returned (.tuple #[]) ∧ ∃ d' : Array α, d'.toList.Perm d.toList ∧ d'.toList.Pairwise (fun a b => C.lt b a = false) ∧ C.own w' d' ∧ Fr w w' (fun j => j = C.b) := by
  have hds := hd.1
  have hbw : C.b < w.heap.size := (World.ownsRow.lt hd.2 C.b rfl).2
  have hsw : SwapSwapsK Tryz.prog C.sf C.sb C.enc C.k C.b 0 C.n := by
    rw [hsb]
    exact swapSwapsK_of_literal gS C.sf hx e ie hT.hie C.enc C.k hk hT.hs hT.hagg h1 C.b 0 C.n C.cap
  refine hA (fun w' => ∃ d' : Array α, d'.toList.Perm d.toList ∧ d'.toList.Pairwise (fun a b => C.lt b a = false) ∧ C.own w' d' ∧ Fr w w' (fun j => j = C.b)) ?_
  have hB : sliceBound Tryz.prog e ie ke (some ⟨C.b, 0, none⟩) C.n C.cap = C.sb := by
    unfold sliceBound
    rw [if_neg (swapperK_gt _ _ _ h2), hsb]
  obtain ⟨w0, hw0⟩ : ∃ x, x = sliceWorld Tryz.prog sortSl_ren t (some ⟨C.b, 0, none⟩) C.n C.cap w := ⟨_, rfl⟩
  have hf0 : Fr w w0 (fun _ => False) := by rw [hw0]; unfold sliceWorld; exact ((Fr.refl _ _).alloc _).alloc _
  rw [hB, ← hw0]
  clear hw0
  have ho0 : C.own w0 d := hd.frame hf0 (fun h => h)
  have hOk : C.Ok w0 := ⟨hO, hn, Nat.lt_of_lt_of_le hbw hf0.size, eg, fun z d hz i j hi hj => hless z d ⟨hz.1, (hf0.mono (fun _ _ h => h.elim)).trans hz.2 (fun _ _ h => h)⟩ i j hi hj, fun z d hz i j hi hj => swap_own C hk h0 hsw z d hz i j hi hj, fun z d hz => by
    have hl : C.n = d.toList.length := by simpa using hz.1.symm
    have hr2 : z.ownsRow 0 C.T C.k (.slice (some ⟨C.b, 0, none⟩) d.toList.length C.cap) d.toList.length (d.toList.flatMap C.enc) := hl ▸ hz.2
    have hh := own_holdsG hk h0 hr2
    have e0 : d.toList.toArray = d := by simp
    rwa [e0] at hh⟩
  have hSh : C.Shelf w0 := by
    refine ⟨fun a b d z hz hab hb => ?_, fun a b d z hz hab hb => ?_⟩
    · have hbz : C.b < z.heap.size := Nat.lt_of_lt_of_le hOk.hb hz.2.size
      have hsw' : SwapSwapsK Tryz.prog C.sf C.sb C.enc C.k C.b 0 d.size := by rw [hz.1.1]; exact hsw
      have := Any.breakPatterns_func_cells_w (P := Tryz.prog) (ρ := sortSl_ren) { sortSl with } C.enc C.k hk (.func C.g) #[] C.lb C.sf C.sb C.b 0 a b d z hsw' (hOk.holds z d hz.1) hbz hab (by rw [hz.1.1]; exact hb) (by rw [hz.1.1]; omega)
      refine Calls.mono this ?_
      rintro e w' ⟨rfl, n, os, rfl⟩
      obtain ⟨k1, k2⟩ := own_world C hk h0 z d (breakPatterns d a b) hz.1 (breakPatterns_holds d a b hab (by rw [hz.1.1]; exact hb)).1 n os
      exact ⟨rfl, k1, k2⟩
    · have hbz : C.b < z.heap.size := Nat.lt_of_lt_of_le hOk.hb hz.2.size
      have hsw' : SwapSwapsK Tryz.prog C.sf C.sb C.enc C.k C.b 0 d.size := by rw [hz.1.1]; exact hsw
      have := Any.reverseRange_func_cells_w (P := Tryz.prog) (ρ := sortSl_ren) { sortSl with } C.enc C.k hk (.func C.g) #[] C.lb C.sf C.sb C.b 0 a b d z hsw' (hOk.holds z d hz.1) hbz hab (by rw [hz.1.1]; exact hb) (by rw [hz.1.1]; omega)
      refine Calls.mono this ?_
      rintro e w' ⟨rfl, n, os, rfl⟩
      obtain ⟨k1, k2⟩ := own_world C hk h0 z d (reverseRange d a b) hz.1 (reverseRange_holds d a b hab (by rw [hz.1.1]; exact hb)).1 n os
      exact ⟨rfl, k1, k2⟩
  have hlim : Lib.bitLen C.n ≤ 1000000000 := Nat.le_trans (Lib.bitLen_le C.n 62 (by omega) (by omega)) (by omega)
  have hp := gPdq_any C w0 hOk hSh (C.n + 1) 0 C.n (Lib.bitLen C.n) d w0 (by omega) ⟨ho0, Fr.refl _ _⟩ (Nat.zero_le _) (Nat.le_refl _) hlim (Or.inl rfl)
  refine Calls.mono hp ?_
  rintro e w' ⟨rfl, ⟨d', hq, hso, ho⟩, hf⟩
  refine ⟨rfl, d', ?_, ?_, ho, (hf0.mono (fun _ _ h => h.elim)).trans hf (fun _ _ h => h)⟩
  · have h3 := hq.2.2
    have e1 : d'.extract 0 C.n = d' := by rw [← ho.1]; exact Array.extract_size
    have e2 : d.extract 0 C.n = d := by rw [← hds]; exact Array.extract_size
    rw [e1, e2] at h3
    exact h3
  · rw [List.pairwise_iff_getElem]
    intro i j hi hj hij
    have hi' : i < d'.size := by simpa using hi
    have hj' : j < d'.size := by simpa using hj
    have := hso i j (Nat.zero_le _) hij (by rw [← ho.1]; exact hj')
    rw [getElem!_pos d' j hj', getElem!_pos d' i hi'] at this
    simpa using this
end

end Go.Proofs.YtnffjafddbbjaaaGreatDoor

/-
  Texts of ours, joined: Wide EMath XMath XSeatM EOwn ERef XRow XFind ERise XTurn XCheck XAfD XGood XPartD.
-/
import Derived.Test.YtnffjafddbbjaaaGreatDoorJ1
import Derived.Test.YtnffjafddbbjaaaGreatDoorRows
import Derived.Deep.LoopGhost
import Derived.Deep.CutRange

/-
  Slices whose elements take several cells each: read, and appended to. No program is named here.
-/
namespace Go.Proofs.YtnffjafddbbjaaaGreatDoor
open Go.RowKit

/-- A slice of m elements of so many cells each that can be read: the cells xs. -/
def HoldsN (size : Nat) (w : World) (v : Value) (m : Nat) (xs : List Value) : Prop :=
  xs.length = m * size ∧ ∃ ao cap, v = .slice ao m cap ∧ m ≤ cap ∧ (0 < m → ∃ b off, ao = some ⟨b, off, none⟩ ∧ ∀ j u, xs[j]? = some u → w.cell? ⟨b, off + j, none⟩ = some u)

theorem HoldsN.keep {size : Nat} {w w' : World} {v : Value} {m : Nat} {xs : List Value} (h : HoldsN size w v m xs) (f : Fr w w' (fun _ => False)) : HoldsN size w' v m xs := by
  obtain ⟨hl, ao, cap, rfl, hlc, hc⟩ := h
  refine ⟨hl, ao, cap, rfl, hlc, fun hp => ?_⟩
  obtain ⟨b, off, rfl, hcell⟩ := hc hp
  refine ⟨b, off, rfl, fun j u hj => ?_⟩
  have h1 := hcell j u hj
  have h2 := World.block_lt_of_cell? _ _ h1
  rw [World.cell?_of_block (w := w) (f.block _ h2 (fun h => h))]
  exact h1
theorem HoldsN.frame {size : Nat} {w w' : World} {v : Value} {m : Nat} {xs : List Value} {S : Nat → Prop} (h : HoldsN size w v m xs) (f : Fr w w' S) (hs : 0 < m → ∀ k, v.ownBlock = some k → ¬ S k) : HoldsN size w' v m xs := by
  obtain ⟨hl, ao, cap, rfl, hlc, hc⟩ := h
  refine ⟨hl, ao, cap, rfl, hlc, fun hp => ?_⟩
  obtain ⟨b, off, rfl, hcell⟩ := hc hp
  refine ⟨b, off, rfl, fun j u hj => ?_⟩
  have h1 := hcell j u hj
  have h2 := World.block_lt_of_cell? _ _ h1
  rw [World.cell?_of_block (w := w) (f.block _ h2 (hs hp _ rfl))]
  exact h1
theorem holdsN_own {size : Nat} {w : World} {e : TypeId} {v : Value} {n : Nat} {xs : List Value} (h : w.ownsRow 0 e size v n xs) : HoldsN size w v n xs := by
  refine ⟨h.1, ?_⟩
  rcases h.2 with ⟨rfl, h0⟩ | ⟨g, cap, cur, rfl, _, _, hcc, _⟩
  · exact ⟨_, 0, by rw [h0], by omega, fun hp => by omega⟩
  · exact ⟨some ⟨g, 0, _⟩, cap, rfl, hcc, fun _ => ⟨g, 0, rfl, fun j u hj => by have := h.cells rfl j u hj; rwa [add_none] at this⟩⟩
theorem HoldsN.take {size : Nat} {w : World} {ao : Option Addr} {len cap : Nat} {xs : List Value} (h : HoldsN size w (.slice ao len cap) len xs) (n : Nat) (hn : n ≤ len) : HoldsN size w (.slice ao n cap) n (xs.take (n * size)) := by
  obtain ⟨hl, ao', cap0, e, hlc, hc⟩ := h
  simp only [Value.slice.injEq, true_and] at e
  obtain ⟨rfl, rfl⟩ := e
  have hle : n * size ≤ len * size := Nat.mul_le_mul_right _ hn
  refine ⟨by rw [List.length_take]; omega, ao, cap, rfl, by omega, fun hp => ?_⟩
  obtain ⟨b, off, rfl, hcell⟩ := hc (by omega)
  refine ⟨b, off, rfl, fun j u hj => hcell j u ?_⟩
  rw [List.getElem?_take] at hj
  split at hj
  · exact hj
  · cases hj
theorem holdsN_lit (size : Nat) (w : World) (e : TypeId) (n : Nat) (cs : List Value) (hl : cs.length = n * size) (h : n ≤ 1000) : HoldsN size (w.alloc (.cells cs.toArray e)) (.slice (some ⟨w.heap.size, 0, Option.none⟩) n n) n cs := by
  have := World.ownsRow_lit (e := e) (size := size) (base := 0) w cs.toArray n (Nat.zero_le _) (by unfold maxLen; omega) (by simpa using hl)
  have := holdsN_own this
  simpa using this

/-- append onto a slice that the call owns, of a slice that can be read. -/
theorem run_append_wide {P : Program} (w : World) (t ty e : TypeId) (i : TypeInfo) (z : Value) (size bytes : Nat) (ht : P.underlying t = some (.slice e)) (hi : P.info? e = some i) (hz : i.zero = some z)
    (hsize : i.size = size) (hby : i.bytes = bytes) (hzs : z.cells.size = size) (hsz : 0 < size) (hb8 : bytes ≤ 1000) (v : Value) (n : Nat) (xs : List Value) (hown : w.ownsRow 0 e size v n xs) (u : Value) (m : Nat) (ys : List Value) (hu : HoldsN size w u m ys)
    (h1 : ∀ y ∈ ys, y.oneCell' = true) (hb : n + m ≤ 100000000000) :
    ∃ v' w', (Builtin.append_ #[t, t] ty #[v, u]).run P w = .ok v' w' ∧ w'.ownsRow 0 e size v' (n + m) (xs ++ ys) ∧ Fr w w' (fun k => v.ownBlock = some k) ∧ Moved w v v' := by
  obtain ⟨hl, ao, cap, rfl, hlc, hc⟩ := hu
  have hbb : (n + m) * bytes ≤ 140737488355328 := by
    have := Nat.mul_le_mul hb hb8
    omega
  by_cases h0 : 0 < m
  · obtain ⟨b, off, rfl, hcell⟩ := hc h0
    have hnews : ∀ j u, ys[j]? = some u → w.cell? ((⟨b, off, Option.none⟩ : Addr).add j) = some u := fun j u hj => by rw [add_none]; exact hcell j u hj
    obtain ⟨v', w', hr, ho, hg, _, hat⟩ := run_append_own_at (P := P) w 0 t ty e i z size bytes ht hi hz hsize hby hzs hsz v n xs hown ⟨b, off, Option.none⟩ m cap ys hl hnews h1 (by unfold maxLen; omega) hbb (Nat.zero_le _)
    refine ⟨v', w', hr, ho, (Fr.refl w _).grown hg (fun k hk _ => hk), fun k hk => ?_⟩
    rcases hat with hat | hat
    · exact .inl (hat ▸ hk)
    · rw [hat] at hk; simp at hk; exact .inr (by omega)
  · have e0 : m = 0 := by omega
    subst e0
    have e1 : ys = [] := List.eq_nil_of_length_eq_zero (by omega)
    subst e1
    refine ⟨v, w, ?_, by simpa using hown, Fr.refl _ _, Moved.refl _ _⟩
    cases ao with
    | none =>
      by_cases hc0 : cap = 0
      · subst hc0
        exact run_append_owned_none (P := P) w 0 t ty e i size ht hi v n xs hown
      · rcases hown.2 with ⟨rfl, rfl⟩ | ⟨g, cp, cur, rfl, _, _, hnc, _⟩
        · simp [Builtin.append_, run_underlying ht, sizeOf, typeInfo, hi, Builtin.lenOf, Builtin.firstCells]
        · simp [Builtin.append_, run_underlying ht, sizeOf, typeInfo, hi, Builtin.lenOf, Builtin.firstCells, hnc, storeCells]
    | some a =>
      rcases hown.2 with ⟨rfl, rfl⟩ | ⟨g, cp, cur, rfl, _, _, hnc, _⟩
      · simp [Builtin.append_, run_underlying ht, sizeOf, typeInfo, hi, Builtin.lenOf, Builtin.firstCells, loadCells, loadCellsFrom]
      · simp [Builtin.append_, run_underlying ht, sizeOf, typeInfo, hi, Builtin.lenOf, Builtin.firstCells, loadCells, loadCellsFrom, hnc, storeCells]

end Go.Proofs.YtnffjafddbbjaaaGreatDoor

/-
  Edges and events: plain mathematics, no program; how they lie in memory.
-/
namespace Go.Proofs.YtnffjafddbbjaaaGreatDoor
open Go.RowKit

def eRight (u v n : Nat) : Bool := decide (u < v ∧ v < n)
def eLess (a b : Nat × Nat) : Bool := decide (a.1 < b.1 ∨ (a.1 = b.1 ∧ a.2 < b.2))
def eBefore (s t : Int) (a b : Nat × Nat) : Bool := decide (s < t ∨ (s = t ∧ eLess a b = true))
def eRising : List (Nat × Nat) → Bool
  | [] => true
  | [_] => true
  | a :: b :: r => eLess a b && eRising (b :: r)
theorem eRising_false {l : List (Nat × Nat)} {i : Nat} {a b : Nat × Nat} (ha : l[i]? = some a) (hb : l[i + 1]? = some b) (h : eLess a b = false) : eRising l = false := by
  induction l generalizing i with
  | nil => simp at ha
  | cons x l ih =>
    cases l with
    | nil => simp at hb
    | cons y r =>
      cases i with
      | zero =>
        simp at ha hb
        rw [eRising, ha, hb, h]
        rfl
      | succ i =>
        rw [eRising, ih (i := i) (by simpa using ha) (by simpa using hb)]
        simp
theorem eRising_true {l : List (Nat × Nat)} (h : ∀ i a b, l[i]? = some a → l[i + 1]? = some b → eLess a b = true) : eRising l = true := by
  induction l with
  | nil => rfl
  | cons x l ih =>
    cases l with
    | nil => rfl
    | cons y r =>
      rw [eRising, h 0 x y rfl rfl, ih (fun i a b ha hb => h (i + 1) a b (by simpa using ha) (by simpa using hb))]
      rfl

/-- An edge as a value, as cells; edges in a slice. -/
def edgeV (e : Nat × Nat) : Value := .agg #[.int .u32 (e.1 : Int), .int .u32 (e.2 : Int)]
def encE (x : Nat × Nat) : List Value := [.int .u32 (x.1 : Int), .int .u32 (x.2 : Int)]
def erow (xs : List (Nat × Nat)) : List Value := xs.flatMap encE
def RdE (w : World) (v : Value) (xs : List (Nat × Nat)) : Prop := HoldsN 2 w v xs.length (erow xs)
theorem erow_length (xs : List (Nat × Nat)) : (erow xs).length = xs.length * 2 := by
  induction xs with
  | nil => rfl
  | cons p ps ih => simp [erow, encE] at ih ⊢; omega
theorem erow_append (a b : List (Nat × Nat)) : erow (a ++ b) = erow a ++ erow b := by simp [erow]
theorem erow_drop : ∀ (ps : List (Nat × Nat)) (n : Nat), (erow ps).drop (n * 2) = erow (ps.drop n)
  | [], n => by simp [erow]
  | p :: ps, 0 => by simp [erow]
  | p :: ps, n + 1 => by
    have := erow_drop ps n
    simp only [erow, List.flatMap_cons, List.drop_succ_cons] at this ⊢
    rw [Nat.succ_mul, List.drop_append, List.drop_eq_nil_of_le (by simp [encE])]
    simp [this, encE]
theorem erow_get (ps : List (Nat × Nat)) (i : Nat) (p : Nat × Nat) (h : ps[i]? = some p) : (erow ps)[i * 2]? = some (.int .u32 (p.1 : Int)) ∧ (erow ps)[i * 2 + 1]? = some (.int .u32 (p.2 : Int)) := by
  have hd := erow_drop ps i
  have hi : i < ps.length := (List.getElem?_eq_some_iff.1 h).1
  have e : ps.drop i = p :: ps.drop (i + 1) := by
    rw [List.drop_eq_getElem_cons hi]
    rw [List.getElem?_eq_getElem hi] at h
    simp only [Option.some.injEq] at h
    rw [h]
  rw [e] at hd
  have h0 : ((erow ps).drop (i * 2))[0]? = some (.int .u32 (p.1 : Int)) := by rw [hd]; rfl
  have h1 : ((erow ps).drop (i * 2))[1]? = some (.int .u32 (p.2 : Int)) := by rw [hd]; rfl
  rw [List.getElem?_drop] at h0 h1
  exact ⟨h0, h1⟩
theorem erow_one (ps : List (Nat × Nat)) : ∀ u ∈ erow ps, u.oneCell' = true := by
  intro u hu
  simp only [erow, List.mem_flatMap] at hu
  obtain ⟨p, hp, hu⟩ := hu
  simp [encE] at hu
  rcases hu with rfl | rfl <;> rfl
theorem RdE.keep {w w' : World} {v : Value} {ps : List (Nat × Nat)} (h : RdE w v ps) (f : Fr w w' (fun _ => False)) : RdE w' v ps := HoldsN.keep h f
theorem RdE.form {w : World} {v : Value} {ps : List (Nat × Nat)} (h : RdE w v ps) : ∃ ao cap, v = .slice ao ps.length cap ∧ ps.length ≤ cap := by
  obtain ⟨-, ao, cap, h1, h2, -⟩ := h
  exact ⟨ao, cap, h1, h2⟩
theorem RdE.get {w : World} {v : Value} {ps : List (Nat × Nat)} (h : RdE w v ps) (i : Nat) (p : Nat × Nat) (hi : ps[i]? = some p) :
    ∃ b off cap, v = .slice (some ⟨b, off, none⟩) ps.length cap ∧ b < w.heap.size ∧ ∀ x, Fr w x (fun _ => False) → x.cell? ⟨b, off + i * 2, none⟩ = some (.int .u32 (p.1 : Int)) ∧ x.cell? ⟨b, off + i * 2 + 1, none⟩ = some (.int .u32 (p.2 : Int)) := by
  obtain ⟨-, ao, cap, rfl, h2, hc⟩ := h
  have hil := (List.getElem?_eq_some_iff.1 hi).1
  obtain ⟨b, off, rfl, hcell⟩ := hc (by omega)
  obtain ⟨h3, h4⟩ := erow_get ps i p hi
  have c3 := hcell _ _ h3
  have c4 := hcell _ _ h4
  have hb := World.block_lt_of_cell? _ _ c3
  refine ⟨b, off, cap, rfl, hb, fun x hx => ?_⟩
  exact ⟨(World.cell?_of_block (w := w) (hx.block b hb (fun h => h))).trans c3, (World.cell?_of_block (w := w) (hx.block b hb (fun h => h))).trans (by rw [Nat.add_assoc]; exact c4)⟩

end Go.Proofs.YtnffjafddbbjaaaGreatDoor

/-
  Events, graphs, histories: plain mathematics, no program.
-/
namespace Go.Proofs.YtnffjafddbbjaaaGreatDoor
open Go.RowKit

abbrev Eg := Nat × Nat
abbrev Ev := Int × Eg × Bool

theorem eLess_trans {a b c : Eg} (h : eLess a b = true) (k : eLess b c = true) : eLess a c = true := by
  unfold eLess at *
  simp only [decide_eq_true_eq] at *
  omega
theorem eLess_irrefl (a : Eg) : eLess a a = false := by unfold eLess; simp
theorem eLess_ne {a b : Eg} (h : eLess a b = false) (hne : a ≠ b) : eLess b a = true := by
  obtain ⟨a1, a2⟩ := a
  obtain ⟨b1, b2⟩ := b
  unfold eLess at *
  simp only [decide_eq_true_eq, decide_eq_false_iff_not, ne_eq, Prod.mk.injEq] at *
  omega
theorem eLess_asymm {a b : Eg} (h : eLess a b = true) : eLess b a = false := by
  unfold eLess at *
  simp only [decide_eq_true_eq, decide_eq_false_iff_not] at *
  omega

theorem eRising_pw {l : List Eg} : eRising l = true ↔ l.Pairwise (fun a b => eLess a b = true) := by
  induction l with
  | nil => simp [eRising]
  | cons x l ih =>
    cases l with
    | nil => simp [eRising]
    | cons y r =>
      rw [eRising, Bool.and_eq_true, ih]
      constructor
      · intro ⟨h1, h2⟩
        refine List.pairwise_cons.2 ⟨fun z hz => ?_, h2⟩
        rcases List.mem_cons.1 hz with rfl | hz
        · exact h1
        · exact eLess_trans h1 ((List.pairwise_cons.1 h2).1 z hz)
      · intro h
        have h := List.pairwise_cons.1 h
        exact ⟨h.1 y (List.mem_cons_self ..), h.2⟩
theorem rising_nodup {l : List Eg} (h : eRising l = true) : l.Nodup := by
  rw [eRising_pw] at h
  refine List.Pairwise.imp (fun {a b} hab e => ?_) h
  subst e
  rw [eLess_irrefl] at hab
  cases hab

/-- Where an edge would stand; what becomes of a graph. -/
def posF (l : List Eg) (e : Eg) : Nat := (l.takeWhile (fun x => eLess x e)).length
def turnF (l : List Eg) (e : Eg) (add : Bool) : Option (List Eg) :=
  if eRising l = false ∨ add = decide (e ∈ l) then none
  else if add = true then some (l.take (posF l e) ++ e :: l.drop (posF l e)) else some (l.take (l.idxOf e) ++ l.drop (l.idxOf e + 1))

theorem posF_le (l : List Eg) (e : Eg) : posF l e ≤ l.length := by
  unfold posF
  exact (List.takeWhile_sublist _).length_le
theorem posF_take (l : List Eg) (e : Eg) : l.take (posF l e) = l.takeWhile (fun x => eLess x e) := by
  unfold posF
  induction l with
  | nil => rfl
  | cons x l ih =>
    rw [List.takeWhile_cons]
    split
    · simp [ih]
    · rfl
theorem posF_drop (l : List Eg) (e : Eg) : l.drop (posF l e) = l.dropWhile (fun x => eLess x e) := by
  unfold posF
  induction l with
  | nil => rfl
  | cons x l ih =>
    rw [List.takeWhile_cons, List.dropWhile_cons]
    split
    · simp [ih]
    · rfl
/-- A place that has only lesser ones ahead, and no lesser one at it. -/
theorem posF_is {l : List Eg} {e : Eg} {k : Nat} (hk : k ≤ l.length) (h : ∀ j x, j < k → l[j]? = some x → eLess x e = true) (h2 : ∀ x, l[k]? = some x → eLess x e = false) : posF l e = k := by
  unfold posF
  induction l generalizing k with
  | nil => simp at hk; simp [hk]
  | cons y l ih =>
    cases k with
    | zero =>
      rw [List.takeWhile_cons, if_neg (by rw [h2 y rfl]; decide)]
      rfl
    | succ k =>
      rw [List.takeWhile_cons, if_pos (h 0 y (by omega) rfl)]
      rw [List.length_cons, ih (k := k) (by simpa using hk) (fun j x hj hx => h (j + 1) x (by omega) (by simpa using hx)) (fun x hx => h2 x (by simpa using hx))]

theorem mem_takeWhile_less {l : List Eg} {e x : Eg} (h : x ∈ l.takeWhile (fun x => eLess x e)) : eLess x e = true := by
  induction l with
  | nil => simp at h
  | cons y l ih =>
    rw [List.takeWhile_cons] at h
    split at h
    · rename_i hy
      rcases List.mem_cons.1 h with rfl | h
      · exact hy
      · exact ih h
    · simp at h
theorem dropWhile_great {l : List Eg} {e : Eg} (hr : eRising l = true) (hm : e ∉ l) : ∀ x ∈ l.dropWhile (fun x => eLess x e), eLess e x = true := by
  induction l with
  | nil => simp
  | cons y l ih =>
    rw [eRising_pw, List.pairwise_cons] at hr
    rw [List.dropWhile_cons]
    split
    · exact ih (eRising_pw.2 hr.2) (fun h => hm (List.mem_cons_of_mem _ h))
    · rename_i hy
      have hey : eLess e y = true := eLess_ne (by simpa using hy) (fun h => hm (h ▸ List.mem_cons_self ..))
      intro x hx
      rcases List.mem_cons.1 hx with rfl | hx
      · exact hey
      · exact eLess_trans hey (hr.1 x hx)

theorem erase_at (l : List Eg) (e : Eg) : l.take (l.idxOf e) ++ l.drop (l.idxOf e + 1) = l.eraseIdx (l.idxOf e) := (List.eraseIdx_eq_take_drop_succ ..).symm

theorem turn_rising {l l' : List Eg} {e : Eg} {add : Bool} (h : turnF l e add = some l') : eRising l' = true := by
  unfold turnF at h
  split at h
  · cases h
  · rename_i hn
    have hr : eRising l = true := by
      cases hh : eRising l with
      | true => rfl
      | false => exact absurd (.inl hh) hn
    split at h
    · rename_i ha
      simp only [Option.some.injEq] at h
      subst h
      have hm : e ∉ l := fun hm => hn (.inr (by rw [ha]; simp [hm]))
      rw [posF_take, posF_drop, eRising_pw]
      have hpw := eRising_pw.1 hr
      rw [List.pairwise_append]
      refine ⟨hpw.sublist (List.takeWhile_sublist _), ?_, ?_⟩
      · rw [List.pairwise_cons]
        exact ⟨dropWhile_great hr hm, hpw.sublist (List.dropWhile_sublist _)⟩
      · intro a ha b hb
        have hl := mem_takeWhile_less ha
        rcases List.mem_cons.1 hb with rfl | hb
        · exact hl
        · exact eLess_trans hl (dropWhile_great hr hm b hb)
    · simp only [Option.some.injEq] at h
      subst h
      rw [erase_at, eRising_pw]
      exact (eRising_pw.1 hr).sublist (List.eraseIdx_sublist ..)

/-- Which edges are there then. -/
theorem mem_turn {l l' : List Eg} {e : Eg} {add : Bool} (h : turnF l e add = some l') (x : Eg) : x ∈ l' ↔ (x ∈ l ∧ x ≠ e) ∨ (add = true ∧ x = e) := by
  unfold turnF at h
  split at h
  · cases h
  · rename_i hn
    have hr : eRising l = true := by
      cases hh : eRising l with
      | true => rfl
      | false => exact absurd (.inl hh) hn
    split at h
    · rename_i ha
      simp only [Option.some.injEq] at h
      subst h
      have hm : e ∉ l := fun hm => hn (.inr (by rw [ha]; simp [hm]))
      rw [List.mem_append, List.mem_cons, ha]
      have hs : x ∈ l ↔ x ∈ l.take (posF l e) ∨ x ∈ l.drop (posF l e) := by rw [← List.mem_append, List.take_append_drop]
      constructor
      · rintro (h | rfl | h)
        · exact .inl ⟨hs.2 (.inl h), fun hx => hm (hx ▸ hs.2 (.inl h))⟩
        · exact .inr ⟨rfl, rfl⟩
        · exact .inl ⟨hs.2 (.inr h), fun hx => hm (hx ▸ hs.2 (.inr h))⟩
      · rintro (⟨h, _⟩ | ⟨_, h⟩)
        · rcases hs.1 h with h | h
          · exact .inl h
          · exact .inr (.inr h)
        · exact .inr (.inl h)
    · rename_i ha
      simp only [Option.some.injEq] at h
      subst h
      have ha' : add = false := by cases add <;> simp_all
      have hm : e ∈ l := by
        cases Decidable.em (e ∈ l) with
        | inl h => exact h
        | inr h => exact absurd (.inr (by rw [ha']; simp [h])) hn
      rw [ha', erase_at]
      have hnd := rising_nodup hr
      rw [← List.erase_eq_eraseIdx_of_idxOf rfl, hnd.mem_erase_iff]
      simp [and_comm]
theorem turn_some {l : List Eg} {e : Eg} {add : Bool} (hr : eRising l = true) (h : add = !decide (e ∈ l)) : ∃ l', turnF l e add = some l' := by
  unfold turnF
  rw [if_neg (by rw [hr, h]; cases decide (e ∈ l) <;> simp)]
  split
  · exact ⟨_, rfl⟩
  · exact ⟨_, rfl⟩
theorem turn_length {l l' : List Eg} {e : Eg} {add : Bool} (h : turnF l e add = some l') : l'.length ≤ l.length + 1 := by
  unfold turnF at h
  split at h
  · cases h
  · split at h <;> simp only [Option.some.injEq] at h <;> subst h <;> simp <;> omega

/-- Ahead of it: by time, then by edge. -/
def eBef (a b : Ev) : Bool := eBefore a.1 b.1 a.2.1 b.2.1
theorem eBef_iff {a b : Ev} : eBef a b = true ↔ a.1 < b.1 ∨ (a.1 = b.1 ∧ eLess a.2.1 b.2.1 = true) := by unfold eBef eBefore; simp
theorem eBef_trans {a b c : Ev} (h : eBef a b = true) (k : eBef b c = true) : eBef a c = true := by
  rw [eBef_iff] at *
  rcases h with h | ⟨h, g⟩ <;> rcases k with k | ⟨k, f⟩
  · exact .inl (by omega)
  · exact .inl (by omega)
  · exact .inl (by omega)
  · exact .inr ⟨by omega, eLess_trans g f⟩
theorem eBef_asymm {a b : Ev} (h : eBef a b = true) : eBef b a = false := by
  rw [Bool.eq_false_iff, ne_eq, eBef_iff]
  rw [eBef_iff] at h
  rintro (k | ⟨k, g⟩) <;> rcases h with h | ⟨h, f⟩
  · omega
  · omega
  · omega
  · rw [eLess_asymm f] at g; cases g
theorem eBef_ne {a b : Ev} (h : eBef a b = false) (hne : ¬ (b.1 = a.1 ∧ b.2.1 = a.2.1)) : eBef b a = true := by
  rw [Bool.eq_false_iff, ne_eq, eBef_iff] at h
  rw [eBef_iff]
  by_cases h1 : b.1 < a.1
  · exact .inl h1
  · by_cases h2 : a.1 < b.1
    · exact absurd (.inl h2) h
    · have h3 : a.1 = b.1 := by omega
      refine .inr ⟨h3.symm, eLess_ne ?_ (fun e => hne ⟨h3.symm, e.symm⟩)⟩
      rw [Bool.eq_false_iff]
      exact fun g => h (.inr ⟨h3, g⟩)

/-- The first event that is wrong: its place, its error. -/
def chkF (n : Nat) : List Eg → Option Ev → Nat → List Ev → Nat × Nat
  | _, _, _, [] => (0, 0)
  | now, pv, i, x :: r =>
    if x.1 < 0 ∨ 4611686018427387903 < x.1 then (i, 26)
    else if eRight x.2.1.1 x.2.1.2 n = false then (i, 24)
    else if (pv.any fun p => !eBef p x) = true then (i, 23)
    else match turnF now x.2.1 x.2.2 with
      | none => (i, 25)
      | some now' => chkF n now' (some x) (i + 1) r
def checkF (n : Nat) (evs : List Ev) : Nat × Nat := if 4294967296 < n ∨ 2147483648 < evs.length then (0, 26) else chkF n [] none 0 evs

/-- A history of which nothing is wrong. -/
def RightH (n : Nat) (evs : List Ev) : Prop := checkF n evs = (0, 0)

/-- What is there behind events; how many have come. -/
def aftF (now : List Eg) : List Ev → List Eg
  | [] => now
  | x :: r => aftF ((turnF now x.2.1 x.2.2).getD []) r
def uptoF (evs : List Ev) (t : Int) : Nat := (evs.takeWhile (fun x => decide (x.1 ≤ t))).length
def SortedT (evs : List Ev) : Prop := evs.Pairwise (fun a b => a.1 ≤ b.1)

end Go.Proofs.YtnffjafddbbjaaaGreatDoor

/-
  The seat's histories, out of few numbers: plain mathematics, no program; that they are right.
-/
namespace Go.Proofs.YtnffjafddbbjaaaGreatDoor
open Go.RowKit

def vertF (k : Nat) : Nat := [8, 5, 2, 4294967296, 300, 12, 1048576, 3].getD (k % 8) 0
theorem vertF_bounds (k : Nat) : 2 ≤ vertF k ∧ vertF k ≤ 4294967296 := by
  unfold vertF
  have h : k % 8 < 8 := Nat.mod_lt _ (by omega)
  generalize k % 8 = m at h
  match m, h with
  | 0, _ => decide
  | 1, _ => decide
  | 2, _ => decide
  | 3, _ => decide
  | 4, _ => decide
  | 5, _ => decide
  | 6, _ => decide
  | 7, _ => decide
def edgeU (a n : Nat) : Nat := if 230 < a then n - 1 - a % min n 9 else a % min n 9
def edgeW (b n : Nat) : Nat := if 240 < b then n - 1 - b % min n 9 else b % min n 9
def seatEdge (a b n : Nat) : Option Eg := if edgeU a n = edgeW b n then none else some (min (edgeU a n) (edgeW b n), max (edgeU a n) (edgeW b n))
theorem edgeU_lt (a n : Nat) (h : 1 ≤ n) : edgeU a n < n := by
  have h1 : a % min n 9 < min n 9 := Nat.mod_lt _ (by omega)
  unfold edgeU
  split <;> omega
theorem edgeW_lt (a n : Nat) (h : 1 ≤ n) : edgeW a n < n := by
  have h1 : a % min n 9 < min n 9 := Nat.mod_lt _ (by omega)
  unfold edgeW
  split <;> omega
theorem seatEdge_right {a b n : Nat} {e : Eg} (hn : 1 ≤ n) (h : seatEdge a b n = some e) : eRight e.1 e.2 n = true := by
  unfold seatEdge at h
  have h1 := edgeU_lt a n hn
  have h2 := edgeW_lt b n hn
  split at h
  · cases h
  · simp only [Option.some.injEq] at h
    subst h
    unfold eRight
    exact decide_eq_true (by dsimp only; omega)

/-- Where an event is put in; is there one of its time and edge? -/
def befAt (l : List Ev) (e : Ev) (k : Nat) : Bool := (l[k]?.map (fun x => eBef e x)).getD false
def insK (l : List Ev) (e : Ev) : Nat → Nat
  | 0 => 0
  | k + 1 => if befAt l e k = true then insK l e k else k + 1
def alike (x e : Ev) : Bool := decide (x.1 = e.1 ∧ x.2.1 = e.2.1)
def sameAt (l : List Ev) (e : Ev) : Nat → Bool
  | 0 => false
  | k + 1 => (l[k]?.map (fun x => alike x e)).getD false
def insF (l : List Ev) (e : Ev) : List Ev := if sameAt l e (insK l e l.length) = true then l else l.take (insK l e l.length) ++ e :: l.drop (insK l e l.length)
theorem insK_le (l : List Ev) (e : Ev) : ∀ k, insK l e k ≤ k
  | 0 => Nat.le_refl _
  | k + 1 => by
    rw [insK]
    split
    · exact Nat.le_succ_of_le (insK_le l e k)
    · exact Nat.le_refl _
theorem insK_after (l : List Ev) (e : Ev) : ∀ k j x, insK l e k ≤ j → j < k → l[j]? = some x → eBef e x = true
  | 0, _, _, _, h, _ => by omega
  | k + 1, j, x, h1, h2, hx => by
    rw [insK] at h1
    split at h1
    · rename_i hb
      by_cases hj : j < k
      · exact insK_after l e k j x h1 hj hx
      · have : j = k := by omega
        subst this
        unfold befAt at hb
        rw [hx] at hb
        exact hb
    · omega
theorem insK_stop (l : List Ev) (e : Ev) : ∀ k j x, insK l e k = j + 1 → l[j]? = some x → eBef e x = false
  | 0, _, _, h, _ => by cases h
  | k + 1, j, x, h, hx => by
    rw [insK] at h
    split at h
    · exact insK_stop l e k j x h hx
    · rename_i hb
      have : k = j := by omega
      subst this
      unfold befAt at hb
      rw [hx] at hb
      simpa using hb
def Srt (l : List Ev) : Prop := l.Pairwise (fun a b => eBef a b = true)
theorem ins_sorted {l : List Ev} (e : Ev) (h : Srt l) : Srt (insF l e) := by
  unfold insF
  split
  · exact h
  · rename_i hs
    have hk := insK_le l e l.length
    have ha := insK_after l e l.length
    have hst := insK_stop l e l.length
    generalize insK l e l.length = k at hs hk ha hst
    have hdrop : ∀ b ∈ l.drop k, eBef e b = true := fun b hb => by
      obtain ⟨i, hi⟩ := List.getElem?_of_mem hb
      rw [List.getElem?_drop] at hi
      exact ha _ _ (by omega) (List.getElem?_eq_some_iff.1 hi).1 hi
    have htake : ∀ a ∈ l.take k, eBef a e = true := fun a hat => by
      obtain ⟨i, hi⟩ := List.getElem?_of_mem hat
      rw [List.getElem?_take] at hi
      split at hi
      · rename_i hik
        cases k with
        | zero => omega
        | succ k =>
          have hkl : k < l.length := by omega
          have hx : l[k]? = some l[k] := List.getElem?_eq_getElem hkl
          have hb : eBef l[k] e = true := by
            refine eBef_ne (hst k _ rfl hx) (fun hh => hs ?_)
            show (l[k]?.map (fun x => alike x e)).getD false = true
            rw [hx]
            exact decide_eq_true hh
          by_cases hik2 : i = k
          · subst hik2
            rw [hx] at hi
            simp only [Option.some.injEq] at hi
            rw [← hi]
            exact hb
          · have hil : i < l.length := by omega
            rw [List.getElem?_eq_getElem hil] at hi
            simp only [Option.some.injEq] at hi
            rw [← hi]
            exact eBef_trans (List.pairwise_iff_getElem.1 h i k hil hkl (by omega)) hb
      · cases hi
    unfold Srt
    rw [List.pairwise_append]
    refine ⟨h.sublist (List.take_sublist _ _), List.pairwise_cons.2 ⟨hdrop, h.sublist (List.drop_sublist _ _)⟩, fun a hat b hb => ?_⟩
    rcases List.mem_cons.1 hb with rfl | hb
    · exact htake a hat
    · exact eBef_trans (htake a hat) (hdrop b hb)
theorem ins_all {P : Ev → Prop} {l : List Ev} {e : Ev} (h : ∀ x ∈ l, P x) (he : P e) : ∀ x ∈ insF l e, P x := fun x hx => by
  unfold insF at hx
  split at hx
  · exact h x hx
  · rcases List.mem_append.1 hx with hx | hx
    · exact h x (List.mem_of_mem_take hx)
    · rcases List.mem_cons.1 hx with rfl | hx
      · exact he
      · exact h x (List.mem_of_mem_drop hx)
theorem ins_length (l : List Ev) (e : Ev) : (insF l e).length ≤ l.length + 1 := by
  unfold insF
  split
  · omega
  · simp; omega

/-- The times: three numbers each. -/
def nextT (t a : Nat) : Nat := t + a % 4 + if 240 < a then 2 ^ (a % 40) else 0
def stepF (n t : Nat) (ts : List Ev) (b c : Nat) : List Ev := match seatEdge b c n with
  | some e => insF ts ((t : Int), e, false)
  | none => ts
def timesF (n : Nat) : Nat → List Ev → List Nat → List Ev
  | t, ts, a :: b :: c :: r => if ts.length < 40 then timesF n (nextT t a) (stepF n (nextT t a) ts b c) r else ts
  | _, ts, _ => ts
/-- What each does: it comes, if it isn't there, else it goes. -/
def secondF : List Eg → List Ev → List Ev
  | _, [] => []
  | now, e :: r => (e.1, e.2.1, !decide (e.2.1 ∈ now)) :: secondF ((turnF now e.2.1 (!decide (e.2.1 ∈ now))).getD []) r
def histE (k : Nat) (l : List Nat) : List Ev := secondF [] (timesF (vertF k) (k % 3) [] l)

theorem nextT_le (t a : Nat) : nextT t a ≤ t + 3 * 1099511627776 := by
  have h : 2 ^ (a % 40) ≤ 2 ^ 39 := Nat.pow_le_pow_right (by omega) (by omega)
  unfold nextT
  split <;> omega
/-- A time, an edge that may be. -/
def TOk (n B : Nat) (x : Ev) : Prop := 0 ≤ x.1 ∧ x.1 ≤ (B : Int) ∧ eRight x.2.1.1 x.2.1.2 n = true
theorem TOk.mono {n B C : Nat} {x : Ev} (h : TOk n B x) (hBC : B ≤ C) : TOk n C x := ⟨h.1, by have := h.2.1; omega, h.2.2⟩
theorem step_good {n t : Nat} {ts : List Ev} {b c : Nat} (hn : 1 ≤ n) (hs : Srt ts) (h : ∀ x ∈ ts, TOk n t x) : Srt (stepF n t ts b c) ∧ (∀ x ∈ stepF n t ts b c, TOk n t x) ∧ (stepF n t ts b c).length ≤ ts.length + 1 := by
  unfold stepF
  split
  · rename_i e he
    exact ⟨ins_sorted _ hs, ins_all h ⟨by omega, Int.le_refl _, seatEdge_right hn he⟩, ins_length _ _⟩
  · exact ⟨hs, h, by omega⟩
theorem times_good (n : Nat) (hn : 1 ≤ n) : ∀ (t : Nat) (ts : List Ev) (l : List Nat), Srt ts → (∀ x ∈ ts, TOk n t x) → ts.length ≤ 40 →
    Srt (timesF n t ts l) ∧ (∀ x ∈ timesF n t ts l, TOk n (t + l.length * 1099511627776) x) ∧ (timesF n t ts l).length ≤ 40
  | t, ts, a :: b :: c :: r, hs, h, hl => by
    rw [timesF]
    split
    · rename_i hlt
      have ht := nextT_le t a
      obtain ⟨s1, s2, s3⟩ := step_good (t := nextT t a) (b := b) (c := c) hn hs (fun x hx => (h x hx).mono (by unfold nextT; omega))
      obtain ⟨g1, g2, g3⟩ := times_good n hn (nextT t a) (stepF n (nextT t a) ts b c) r s1 s2 (by omega)
      exact ⟨g1, fun x hx => (g2 x hx).mono (by simp only [List.length_cons]; omega), g3⟩
    · exact ⟨hs, fun x hx => (h x hx).mono (by omega), hl⟩
  | t, ts, [], hs, h, hl => ⟨hs, fun x hx => (h x hx).mono (by omega), hl⟩
  | t, ts, [_], hs, h, hl => ⟨hs, fun x hx => (h x hx).mono (by omega), hl⟩
  | t, ts, [_, _], hs, h, hl => ⟨hs, fun x hx => (h x hx).mono (by omega), hl⟩
theorem second_length : ∀ (now : List Eg) (l : List Ev), (secondF now l).length = l.length
  | _, [] => rfl
  | now, e :: r => by rw [secondF, List.length_cons, second_length, List.length_cons]
/-- What is so of an event whatever it does. -/
theorem second_all {P : Int → Eg → Prop} : ∀ (now : List Eg) (l : List Ev), (∀ x ∈ l, P x.1 x.2.1) → ∀ x ∈ secondF now l, P x.1 x.2.1
  | _, [], _, x, hx => by cases hx
  | now, e :: r, h, x, hx => by
    rw [secondF] at hx
    rcases List.mem_cons.1 hx with rfl | hx
    · exact h e (List.mem_cons_self ..)
    · exact second_all _ r (fun y hy => h y (List.mem_cons_of_mem _ hy)) x hx
theorem second_sorted : ∀ (now : List Eg) (l : List Ev), Srt l → Srt (secondF now l)
  | _, [], _ => List.Pairwise.nil
  | now, e :: r, h => by
    have h := List.pairwise_cons.1 h
    rw [secondF]
    refine List.pairwise_cons.2 ⟨fun b hb => ?_, second_sorted _ r h.2⟩
    exact second_all (P := fun t g => eBef (e.1, e.2.1, false) (t, g, false) = true) _ r (fun x hx => h.1 x hx) b hb
theorem second_right (n B : Nat) (hB : B ≤ 4611686018427387903) : ∀ (l : List Ev) (now : List Eg) (pv : Option Ev) (i : Nat), eRising now = true → Srt l → (∀ x ∈ l, TOk n B x) → (∀ p, pv = some p → ∀ x ∈ l, eBef p x = true) → chkF n now pv i (secondF now l) = (0, 0)
  | [], _, _, _, _, _, _, _ => by rw [secondF, chkF]
  | e :: r, now, pv, i, hr, hs, hg, hp => by
    have hs := List.pairwise_cons.1 hs
    obtain ⟨g1, g2, g3⟩ := hg e (List.mem_cons_self ..)
    obtain ⟨now', hn'⟩ := turn_some (l := now) (e := e.2.1) (add := !decide (e.2.1 ∈ now)) hr rfl
    rw [secondF, chkF, if_neg (by dsimp only; omega), if_neg (by rw [g3]; simp), if_neg]
    · dsimp only
      rw [hn']
      dsimp only
      rw [Option.getD_some]
      refine second_right n B hB r now' _ (i + 1) (turn_rising hn') hs.2 (fun x hx => hg x (List.mem_cons_of_mem _ hx)) (fun p hp x hx => ?_)
      simp only [Option.some.injEq] at hp
      subst hp
      exact hs.1 x hx
    · cases pv with
      | none => simp
      | some p =>
        have := hp p rfl e (List.mem_cons_self ..)
        simp only [Option.any_some, Bool.not_eq_true']
        rw [show eBef p (e.1, e.2.1, !decide (e.2.1 ∈ now)) = eBef p e from rfl, this]
        simp

theorem hist_times (k : Nat) (l : List Nat) : Srt (timesF (vertF k) (k % 3) [] l) ∧ (∀ x ∈ timesF (vertF k) (k % 3) [] l, TOk (vertF k) (k % 3 + l.length * 1099511627776) x) ∧ (timesF (vertF k) (k % 3) [] l).length ≤ 40 :=
  times_good (vertF k) (by have := vertF_bounds k; omega) (k % 3) [] l List.Pairwise.nil (fun x hx => by cases hx) (by simp)
theorem hist_length (k : Nat) (l : List Nat) : (histE k l).length ≤ 40 := by
  unfold histE
  rw [second_length]
  exact (hist_times k l).2.2
theorem hist_sorted (k : Nat) (l : List Nat) : Srt (histE k l) := second_sorted _ _ (hist_times k l).1
theorem hist_ok (k : Nat) (l : List Nat) : ∀ x ∈ histE k l, TOk (vertF k) (2 + l.length * 1099511627776) x := fun x hx => by
  have := second_all (P := fun t g => TOk (vertF k) (k % 3 + l.length * 1099511627776) (t, g, false)) [] _ (hist_times k l).2.1 x hx
  exact TOk.mono (x := x) this (by omega)
/-- A history of few numbers is right. -/
theorem hist_right (k : Nat) (l : List Nat) (hl : l.length ≤ 1000) : checkF (vertF k) (histE k l) = (0, 0) := by
  have h1 := vertF_bounds k
  have h2 := hist_length k l
  unfold checkF
  rw [if_neg (by omega)]
  exact second_right (vertF k) (k % 3 + l.length * 1099511627776) (by omega) _ [] none 0 rfl (hist_times k l).1 (hist_times k l).2.1 (fun p hp => by cases hp)
theorem sorted_times {l : List Ev} (h : Srt l) : SortedT l := List.Pairwise.imp (fun {a b} hab => by rw [eBef_iff] at hab; omega) h

end Go.Proofs.YtnffjafddbbjaaaGreatDoor

/-
  A slice of edges that the call owns: append.
-/
namespace Go.Proofs.YtnffjafddbbjaaaGreatDoor
open Go.RowKit

theorem infoEdge : (Tryz.prog.info? 58).map (fun i => (i.zero, i.size, i.bytes)) = some (some (.agg #[.int .u32 0, .int .u32 0]), 2, 8) := by kernel_rfl
def OwnE (w : World) (v : Value) (es : List (Nat × Nat)) : Prop := w.ownsRow 0 58 2 v es.length (erow es)
theorem OwnE.nil (w : World) : OwnE w (.slice none 0 0) [] := World.ownsRow_nil _ _ _ _
theorem OwnE.rd {w : World} {v : Value} {es : List (Nat × Nat)} (h : OwnE w v es) : RdE w v es := holdsN_own h
theorem OwnE.lt {w : World} {v : Value} {es : List (Nat × Nat)} (h : OwnE w v es) : ∀ k, v.ownBlock = some k → k < w.heap.size := fun k hk => (World.ownsRow.lt h k hk).2
theorem OwnE.alloc {w : World} {v : Value} {es : List (Nat × Nat)} (h : OwnE w v es) (o : Obj) : OwnE (w.alloc o) v es := World.ownsRow.alloc h o
theorem OwnE.frame {w w' : World} {v : Value} {es : List (Nat × Nat)} {S : Nat → Prop} (h : OwnE w v es) (f : Fr w w' S) (hs : ∀ k, v.ownBlock = some k → ¬ S k) : OwnE w' v es := f.owns h hs
theorem RdE.frame {w w' : World} {v : Value} {es : List (Nat × Nat)} {S : Nat → Prop} (h : RdE w v es) (f : Fr w w' S) (hs : 0 < es.length → ∀ k, v.ownBlock = some k → ¬ S k) : RdE w' v es := HoldsN.frame h f hs

/-- append onto edges that the call owns, of edges that can be read. -/
theorem app_edges (w : World) (v u : Value) (es fs : List (Nat × Nat)) (h : OwnE w v es) (hu : RdE w u fs) (hb : es.length + fs.length ≤ 100000000000) :
    ∃ v' w', (Builtin.append_ #[66, 66] 66 #[v, u]).run Tryz.prog w = .ok v' w' ∧ OwnE w' v' (es ++ fs) ∧ Fr w w' (fun k => v.ownBlock = some k) ∧ Moved w v v' := by
  obtain ⟨i0, hi, hz0, hz1, hz2⟩ := info_parts infoEdge
  obtain ⟨v', w', h1, h2, h3, h4⟩ := run_append_wide (P := Tryz.prog) w 66 66 58 i0 _ 2 8 Tryz.underlying66 hi hz0 hz1 hz2 rfl (by decide) (by decide) v _ _ h u _ _ hu (erow_one fs) hb
  refine ⟨v', w', h1, ?_, h3, h4⟩
  unfold OwnE
  rw [List.length_append, erow_append]
  exact h2
/-- .. of one edge that is written out. -/
theorem app_edge (w : World) (v : Value) (es : List (Nat × Nat)) (a b : Nat) (h : OwnE w v es) (hb : es.length ≤ 10000000) :
    ∃ v' w', (Builtin.append_ #[66, 66] 66 #[v, .slice (some ⟨w.heap.size, 0, none⟩) 1 1]).run Tryz.prog (w.alloc (.cells #[.int .u32 (a : Int), .int .u32 (b : Int)] 58)) = .ok v' w' ∧ OwnE w' v' (es ++ [(a, b)]) ∧ Fr (w.alloc (.cells #[.int .u32 (a : Int), .int .u32 (b : Int)] 58)) w' (fun k => v.ownBlock = some k) ∧ Moved w v v' := by
  obtain ⟨v', w', h1, h2, h3, h4⟩ := app_edges _ v _ es [(a, b)] (h.alloc (.cells #[.int .u32 (a : Int), .int .u32 (b : Int)] 58)) (holdsN_lit 2 w 58 1 (erow [(a, b)]) (by simp [erow, encE]) (by omega)) (by simp; omega)
  exact ⟨v', w', h1, h2, h3, h4.mono' (by simp)⟩

end Go.Proofs.YtnffjafddbbjaaaGreatDoor

/-
  The contracts of the reference's Right, Less, Before of edges and events.
-/
namespace Go.Proofs.YtnffjafddbbjaaaGreatDoor
open Go.RowKit

set_option maxRecDepth 4000 in
set_option maxHeartbeats 400000 in
theorem refRight8_any (u v n : Nat) (w : World) (hv : v < 4294967296) : Calls Tryz.prog 77 #[edgeV (u, v), .int .u64 (n : Int)] w fun e w' => e = .returned (.bool (eRight u v n)) ∧ Fr w w' (fun _ => False) := by
  unfold edgeV
  have wv : IntKind.u64.wrap (v : Int) = (v : Int) := by rw [IntKind.wrap_u64]; omega
  by_cases h1 : u < v
  · have d1 : decide ((u : Int) < (v : Int)) = true := decide_eq_true (by omega)
    have d1' : decide (u < v) = true := decide_eq_true h1
    by_cases h2 : v < n
    · have d2 : decide ((v : Int) < (n : Int)) = true := decide_eq_true (by omega)
      have d2' : decide (v < n) = true := decide_eq_true h2
      have Hr : Hid (eRight u v n = true) := decide_eq_true ⟨h1, h2⟩
      go_enter Tryz.func77, Tryz.ntmps77
      go_wp2
      go_ret
      exact ⟨by rw [Hr.out]; rfl, (Fr.refl w _).alloc _⟩
    · have d2 : decide ((v : Int) < (n : Int)) = false := decide_eq_false (by omega)
      have d2' : decide (v < n) = false := decide_eq_false h2
      have Hr : Hid (eRight u v n = false) := decide_eq_false (by omega)
      go_enter Tryz.func77, Tryz.ntmps77
      go_wp2
      go_ret
      exact ⟨by rw [Hr.out]; rfl, (Fr.refl w _).alloc _⟩
  · have d1 : decide ((u : Int) < (v : Int)) = false := decide_eq_false (by omega)
    have d1' : decide (u < v) = false := decide_eq_false h1
    have Hr : Hid (eRight u v n = false) := decide_eq_false (by omega)
    go_enter Tryz.func77, Tryz.ntmps77
    go_wp2
    go_ret
    exact ⟨by rw [Hr.out]; rfl, (Fr.refl w _).alloc _⟩

set_option maxRecDepth 4000 in
set_option maxHeartbeats 400000 in
theorem refLess8_any (a b : Nat × Nat) (w : World) : Calls Tryz.prog 52 #[edgeV a, edgeV b] w fun e w' => e = .returned (.bool (eLess a b)) ∧ Fr w w' (fun _ => False) := by
  obtain ⟨a1, a2⟩ := a
  obtain ⟨b1, b2⟩ := b
  unfold edgeV
  dsimp only
  by_cases h1 : a1 < b1
  · have d1 : decide ((a1 : Int) < (b1 : Int)) = true := decide_eq_true (by omega)
    have d1' : decide (a1 < b1) = true := decide_eq_true h1
    have Hr : Hid (eLess (a1, a2) (b1, b2) = true) := decide_eq_true (.inl h1)
    go_enter Tryz.func52, Tryz.ntmps52
    go_wp2
    go_ret
    exact ⟨by rw [Hr.out]; rfl, ((Fr.refl w _).alloc _).alloc _⟩
  · have d1 : decide ((a1 : Int) < (b1 : Int)) = false := decide_eq_false (by omega)
    have d1' : decide (a1 < b1) = false := decide_eq_false h1
    by_cases h2 : a1 = b1
    · have d2 : ((a1 : Int) == (b1 : Int)) = true := by simp [h2]
      have d2' : (a1 == b1) = true := by simp [h2]
      by_cases h3 : a2 < b2
      · have d3 : decide ((a2 : Int) < (b2 : Int)) = true := decide_eq_true (by omega)
        have d3' : decide (a2 < b2) = true := decide_eq_true h3
        have Hr : Hid (eLess (a1, a2) (b1, b2) = true) := decide_eq_true (.inr ⟨h2, h3⟩)
        clear h2
        go_enter Tryz.func52, Tryz.ntmps52
        go_wp2
        go_ret
        exact ⟨by rw [Hr.out]; rfl, ((Fr.refl w _).alloc _).alloc _⟩
      · have d3 : decide ((a2 : Int) < (b2 : Int)) = false := decide_eq_false (by omega)
        have d3' : decide (a2 < b2) = false := decide_eq_false h3
        have Hr : Hid (eLess (a1, a2) (b1, b2) = false) := decide_eq_false (by dsimp only; omega)
        clear h2
        go_enter Tryz.func52, Tryz.ntmps52
        go_wp2
        go_ret
        exact ⟨by rw [Hr.out]; rfl, ((Fr.refl w _).alloc _).alloc _⟩
    · have d2 : ((a1 : Int) == (b1 : Int)) = false := by rw [beq_eq_false_iff_ne]; omega
      have d2' : (a1 == b1) = false := by rw [beq_eq_false_iff_ne]; exact h2
      have Hr : Hid (eLess (a1, a2) (b1, b2) = false) := decide_eq_false (by dsimp only; omega)
      go_enter Tryz.func52, Tryz.ntmps52
      go_wp2
      go_ret
      exact ⟨by rw [Hr.out]; rfl, ((Fr.refl w _).alloc _).alloc _⟩

/-- An event as a value. -/
def eventV (t : Int) (e : Nat × Nat) (b : Bool) : Value := .agg #[.int .i64 t, .int .u32 (e.1 : Int), .int .u32 (e.2 : Int), .bool b]

set_option maxRecDepth 4000 in
set_option maxHeartbeats 800000 in
theorem refBefore8_any (s t : Int) (a b : Nat × Nat) (x y : Bool) (w : World) : Calls Tryz.prog 49 #[eventV s a x, eventV t b y] w fun e w' => e = .returned (.bool (eBefore s t a b)) ∧ Fr w w' (fun _ => False) := by
  unfold eventV
  by_cases h1 : s < t
  · have d1 : decide (s < t) = true := decide_eq_true h1
    have Hr : Hid (eBefore s t a b = true) := decide_eq_true (.inl h1)
    go_enter Tryz.func49, Tryz.ntmps49
    go_wp2
    go_ret
    exact ⟨by rw [Hr.out]; rfl, ((Fr.refl w _).alloc _).alloc _⟩
  · have d1 : decide (s < t) = false := decide_eq_false h1
    by_cases h2 : s = t
    · have d2 : (s == t) = true := by simp [h2]
      have Hr : Hid (eBefore s t a b = eLess a b) := by
        show _ = _
        unfold eBefore
        cases h : eLess a b <;> simp [h2]
      clear h2
      rw [Hr.out]
      obtain ⟨L, hL⟩ : ∃ L, L = eLess a b := ⟨_, rfl⟩
      rw [← hL]
      have HL : Hid _ := hL
      clear hL
      go_enter Tryz.func49, Tryz.ntmps49
      go_wp2_with fail
      refine (refLess8_any a b _).mono ?_
      rw [← HL.out]
      rintro e w1 ⟨rfl, hf1⟩
      have Hf1 : Hid (Fr w w1 (fun _ => False)) := (((Fr.refl w (fun _ => False)).alloc _).alloc _).none hf1
      clear hf1 Hr HL
      go_wp2
      go_ret
      exact ⟨rfl, Hf1.out⟩
    · have d2 : (s == t) = false := by rw [beq_eq_false_iff_ne]; exact h2
      have Hr : Hid (eBefore s t a b = false) := by
        show _ = _
        unfold eBefore
        simp [h1, h2]
      go_enter Tryz.func49, Tryz.ntmps49
      go_wp2
      go_ret
      exact ⟨by rw [Hr.out]; rfl, ((Fr.refl w _).alloc _).alloc _⟩

end Go.Proofs.YtnffjafddbbjaaaGreatDoor

/-
  Slices of events, of edges: how they lie in memory; parts of them; append.
-/
namespace Go.Proofs.YtnffjafddbbjaaaGreatDoor
open Go.RowKit

/-- An event as a value, as cells; events in a slice; a history. -/
def evV (x : Ev) : Value := eventV x.1 x.2.1 x.2.2
def encV (x : Ev) : List Value := [.int .i64 x.1, .int .u32 (x.2.1.1 : Int), .int .u32 (x.2.1.2 : Int), .bool x.2.2]
def vrow (xs : List Ev) : List Value := xs.flatMap encV
def RdV (w : World) (v : Value) (xs : List Ev) : Prop := HoldsN 4 w v xs.length (vrow xs)
def OwnV (w : World) (v : Value) (xs : List Ev) : Prop := w.ownsRow 0 60 4 v xs.length (vrow xs)
def histV (n : Nat) (v : Value) : Value := .agg #[.int .u64 (n : Int), v]
/-- The numbers fit. -/
def EvFit (x : Ev) : Prop := (-9223372036854775808 ≤ x.1 ∧ x.1 ≤ 9223372036854775807) ∧ x.2.1.1 < 4294967296 ∧ x.2.1.2 < 4294967296
def EgFit (x : Eg) : Prop := x.1 < 4294967296 ∧ x.2 < 4294967296

theorem vrow_length (xs : List Ev) : (vrow xs).length = xs.length * 4 := by
  induction xs with
  | nil => rfl
  | cons p ps ih => simp [vrow, encV] at ih ⊢; omega
theorem vrow_append (a b : List Ev) : vrow (a ++ b) = vrow a ++ vrow b := by simp [vrow]
theorem vrow_drop : ∀ (ps : List Ev) (n : Nat), (vrow ps).drop (n * 4) = vrow (ps.drop n)
  | [], n => by simp [vrow]
  | p :: ps, 0 => by simp [vrow]
  | p :: ps, n + 1 => by
    have := vrow_drop ps n
    simp only [vrow, List.flatMap_cons, List.drop_succ_cons] at this ⊢
    rw [Nat.succ_mul, List.drop_append, List.drop_eq_nil_of_le (by simp [encV])]
    simp [this, encV]
theorem vrow_take : ∀ (ps : List Ev) (n : Nat), (vrow ps).take (n * 4) = vrow (ps.take n)
  | [], n => by simp [vrow]
  | p :: ps, 0 => by simp [vrow]
  | p :: ps, n + 1 => by
    have := vrow_take ps n
    simp only [vrow, List.flatMap_cons, List.take_succ_cons] at this ⊢
    rw [Nat.succ_mul, List.take_append, List.take_of_length_le (by simp [encV])]
    simp [this, encV]
theorem erow_take : ∀ (ps : List Eg) (n : Nat), (erow ps).take (n * 2) = erow (ps.take n)
  | [], n => by simp [erow]
  | p :: ps, 0 => by simp [erow]
  | p :: ps, n + 1 => by
    have := erow_take ps n
    simp only [erow, List.flatMap_cons, List.take_succ_cons] at this ⊢
    rw [Nat.succ_mul, List.take_append, List.take_of_length_le (by simp [encE])]
    simp [this, encE]
theorem vrow_one (ps : List Ev) : ∀ u ∈ vrow ps, u.oneCell' = true := by
  intro u hu
  simp only [vrow, List.mem_flatMap] at hu
  obtain ⟨p, hp, hu⟩ := hu
  simp [encV] at hu
  rcases hu with rfl | rfl | rfl | rfl <;> rfl
theorem vrow_get (ps : List Ev) (i : Nat) (p : Ev) (h : ps[i]? = some p) : (vrow ps)[i * 4]? = some (.int .i64 p.1) ∧ (vrow ps)[i * 4 + 1]? = some (.int .u32 (p.2.1.1 : Int)) ∧ (vrow ps)[i * 4 + 2]? = some (.int .u32 (p.2.1.2 : Int)) ∧ (vrow ps)[i * 4 + 3]? = some (.bool p.2.2) := by
  have hd := vrow_drop ps i
  have hi : i < ps.length := (List.getElem?_eq_some_iff.1 h).1
  have e : ps.drop i = p :: ps.drop (i + 1) := by
    rw [List.drop_eq_getElem_cons hi]
    rw [List.getElem?_eq_getElem hi] at h
    simp only [Option.some.injEq] at h
    rw [h]
  rw [e] at hd
  have h0 : ((vrow ps).drop (i * 4))[0]? = some (.int .i64 p.1) := by rw [hd]; rfl
  have h1 : ((vrow ps).drop (i * 4))[1]? = some (.int .u32 (p.2.1.1 : Int)) := by rw [hd]; rfl
  have h2 : ((vrow ps).drop (i * 4))[2]? = some (.int .u32 (p.2.1.2 : Int)) := by rw [hd]; rfl
  have h3 : ((vrow ps).drop (i * 4))[3]? = some (.bool p.2.2) := by rw [hd]; rfl
  rw [List.getElem?_drop] at h0 h1 h2 h3
  exact ⟨h0, h1, h2, h3⟩

theorem HoldsN.drop {size : Nat} {w : World} {ao : Option Addr} {len cap : Nat} {xs : List Value} (h : HoldsN size w (.slice ao len cap) len xs) (n : Nat) (hn : n ≤ len) : HoldsN size w (.slice (if cap = n then ao else Option.map (fun x => x.add (n * size)) ao) (len - n) (cap - n)) (len - n) (xs.drop (n * size)) := by
  obtain ⟨hl, ao', cap0, e, hlc, hc⟩ := h
  simp only [Value.slice.injEq, true_and] at e
  obtain ⟨rfl, rfl⟩ := e
  refine ⟨by rw [List.length_drop, hl, Nat.sub_mul], _, _, rfl, by omega, fun hp => ?_⟩
  obtain ⟨b, off, rfl, hcell⟩ := hc (by omega)
  rw [if_neg (by omega)]
  refine ⟨b, off + n * size, by simp [add_none], fun j u hj => ?_⟩
  rw [List.getElem?_drop] at hj
  rw [Nat.add_assoc]
  exact hcell _ _ hj

theorem RdV.keep {w w' : World} {v : Value} {ps : List Ev} (h : RdV w v ps) (f : Fr w w' (fun _ => False)) : RdV w' v ps := HoldsN.keep h f
theorem RdV.frame {w w' : World} {v : Value} {es : List Ev} {S : Nat → Prop} (h : RdV w v es) (f : Fr w w' S) (hs : 0 < es.length → ∀ k, v.ownBlock = some k → ¬ S k) : RdV w' v es := HoldsN.frame h f hs
theorem RdV.form {w : World} {v : Value} {ps : List Ev} (h : RdV w v ps) : ∃ ao cap, v = .slice ao ps.length cap ∧ ps.length ≤ cap := by
  obtain ⟨-, ao, cap, h1, h2, -⟩ := h
  exact ⟨ao, cap, h1, h2⟩
theorem RdV.get {w : World} {v : Value} {ps : List Ev} (h : RdV w v ps) (i : Nat) (p : Ev) (hi : ps[i]? = some p) :
    ∃ b off cap, v = .slice (some ⟨b, off, none⟩) ps.length cap ∧ b < w.heap.size ∧ ∀ x, Fr w x (fun k => k ≠ b) → x.cell? ⟨b, off + i * 4, none⟩ = some (.int .i64 p.1) ∧ x.cell? ⟨b, off + i * 4 + 1, none⟩ = some (.int .u32 (p.2.1.1 : Int)) ∧ x.cell? ⟨b, off + i * 4 + 2, none⟩ = some (.int .u32 (p.2.1.2 : Int)) ∧ x.cell? ⟨b, off + i * 4 + 3, none⟩ = some (.bool p.2.2) := by
  obtain ⟨-, ao, cap, rfl, h2, hc⟩ := h
  have hil := (List.getElem?_eq_some_iff.1 hi).1
  obtain ⟨b, off, rfl, hcell⟩ := hc (by omega)
  obtain ⟨g0, g1, g2, g3⟩ := vrow_get ps i p hi
  have c0 := hcell _ _ g0
  have c1 := hcell _ _ g1
  have c2 := hcell _ _ g2
  have c3 := hcell _ _ g3
  have hb := World.block_lt_of_cell? _ _ c0
  refine ⟨b, off, cap, rfl, hb, fun x hx => ?_⟩
  have hbk := hx.block b hb (fun h => h rfl)
  refine ⟨(World.cell?_of_block (w := w) hbk).trans c0, (World.cell?_of_block (w := w) hbk).trans ?_, (World.cell?_of_block (w := w) hbk).trans ?_, (World.cell?_of_block (w := w) hbk).trans ?_⟩
  · rw [Nat.add_assoc]; exact c1
  · rw [Nat.add_assoc]; exact c2
  · rw [Nat.add_assoc]; exact c3
theorem RdV.take {w : World} {ao : Option Addr} {len cap : Nat} {xs : List Ev} (h : RdV w (.slice ao len cap) xs) (hl : xs.length = len) (n : Nat) (hn : n ≤ len) : RdV w (.slice ao n cap) (xs.take n) := by
  subst hl
  have := HoldsN.take (size := 4) h n hn
  rw [vrow_take] at this
  unfold RdV
  rw [List.length_take, Nat.min_eq_left hn]
  exact this
theorem RdV.drop {w : World} {ao : Option Addr} {len cap : Nat} {xs : List Ev} (h : RdV w (.slice ao len cap) xs) (hl : xs.length = len) (n : Nat) (hn : n ≤ len) : RdV w (.slice (if cap = n then ao else Option.map (fun x => x.add (n * 4)) ao) (len - n) (cap - n)) (xs.drop n) := by
  subst hl
  have := HoldsN.drop (size := 4) h n hn
  rw [vrow_drop] at this
  unfold RdV
  rw [List.length_drop]
  exact this
theorem RdE.take {w : World} {ao : Option Addr} {len cap : Nat} {xs : List Eg} (h : RdE w (.slice ao len cap) xs) (hl : xs.length = len) (n : Nat) (hn : n ≤ len) : RdE w (.slice ao n cap) (xs.take n) := by
  subst hl
  have := HoldsN.take (size := 2) h n hn
  rw [erow_take] at this
  unfold RdE
  rw [List.length_take, Nat.min_eq_left hn]
  exact this
theorem RdE.drop {w : World} {ao : Option Addr} {len cap : Nat} {xs : List Eg} (h : RdE w (.slice ao len cap) xs) (hl : xs.length = len) (n : Nat) (hn : n ≤ len) : RdE w (.slice (if cap = n then ao else Option.map (fun x => x.add (n * 2)) ao) (len - n) (cap - n)) (xs.drop n) := by
  subst hl
  have := HoldsN.drop (size := 2) h n hn
  rw [erow_drop] at this
  unfold RdE
  rw [List.length_drop]
  exact this
/-- No edges, no events: whatever the slice of none. -/
theorem RdE.nil (w : World) : RdE w (.slice none 0 0) [] := (OwnE.nil w).rd
theorem OwnV.nil (w : World) : OwnV w (.slice none 0 0) [] := World.ownsRow_nil _ _ _ _
theorem OwnV.rd {w : World} {v : Value} {es : List Ev} (h : OwnV w v es) : RdV w v es := holdsN_own h
theorem RdV.nil (w : World) : RdV w (.slice none 0 0) [] := (OwnV.nil w).rd
theorem OwnV.lt {w : World} {v : Value} {es : List Ev} (h : OwnV w v es) : ∀ k, v.ownBlock = some k → k < w.heap.size := fun k hk => (World.ownsRow.lt h k hk).2
theorem OwnV.alloc {w : World} {v : Value} {es : List Ev} (h : OwnV w v es) (o : Obj) : OwnV (w.alloc o) v es := World.ownsRow.alloc h o
theorem OwnV.frame {w w' : World} {v : Value} {es : List Ev} {S : Nat → Prop} (h : OwnV w v es) (f : Fr w w' S) (hs : ∀ k, v.ownBlock = some k → ¬ S k) : OwnV w' v es := f.owns h hs

theorem infoEvent : (Tryz.prog.info? 60).map (fun i => (i.zero, i.size, i.bytes)) = some (some (.agg #[.int .i64 0, .int .u32 0, .int .u32 0, .bool false]), 4, 24) := by kernel_rfl
/-- append onto events that the call owns, of events that can be read. -/
theorem app_events (w : World) (v u : Value) (es fs : List Ev) (h : OwnV w v es) (hu : RdV w u fs) (hb : es.length + fs.length ≤ 100000000000) :
    ∃ v' w', (Builtin.append_ #[23, 23] 23 #[v, u]).run Tryz.prog w = .ok v' w' ∧ OwnV w' v' (es ++ fs) ∧ Fr w w' (fun k => v.ownBlock = some k) ∧ Moved w v v' := by
  obtain ⟨i0, hi, hz0, hz1, hz2⟩ := info_parts infoEvent
  obtain ⟨v', w', h1, h2, h3, h4⟩ := run_append_wide (P := Tryz.prog) w 23 23 60 i0 _ 4 24 Tryz.underlying23 hi hz0 hz1 hz2 rfl (by decide) (by decide) v _ _ h u _ _ hu (vrow_one fs) hb
  refine ⟨v', w', h1, ?_, h3, h4⟩
  unfold OwnV
  rw [List.length_append, vrow_append]
  exact h2
theorem lit_event (w : World) (x : Ev) : RdV (w.alloc (.cells #[.int .i64 x.1, .int .u32 (x.2.1.1 : Int), .int .u32 (x.2.1.2 : Int), .bool x.2.2] 60)) (.slice (some ⟨w.heap.size, 0, none⟩) 1 1) [x] :=
  holdsN_lit 4 w 60 1 (vrow [x]) (by simp [vrow, encV]) (by omega)
/-- .. of one event that is written out. -/
theorem app_event (w : World) (v : Value) (es : List Ev) (x : Ev) (h : OwnV w v es) (hb : es.length ≤ 10000000) :
    ∃ v' w', (Builtin.append_ #[23, 23] 23 #[v, .slice (some ⟨w.heap.size, 0, none⟩) 1 1]).run Tryz.prog (w.alloc (.cells #[.int .i64 x.1, .int .u32 (x.2.1.1 : Int), .int .u32 (x.2.1.2 : Int), .bool x.2.2] 60)) = .ok v' w' ∧ OwnV w' v' (es ++ [x]) ∧ Fr (w.alloc (.cells #[.int .i64 x.1, .int .u32 (x.2.1.1 : Int), .int .u32 (x.2.1.2 : Int), .bool x.2.2] 60)) w' (fun k => v.ownBlock = some k) ∧ Moved w v v' := by
  obtain ⟨v', w', h1, h2, h3, h4⟩ := app_events _ v _ es [x] (h.alloc _) (lit_event w x) (by simp; omega)
  exact ⟨v', w', h1, h2, h3, h4.mono' (by simp)⟩

/-- What touches only blocks that are newer touches nothing that was there. -/
theorem Fr.old {w w' : World} {N : Nat} (h : Fr w w' (fun k => N ≤ k)) (hN : w.heap.size ≤ N) : Fr w w' (fun _ => False) := h.mono (fun i hi hs => by omega)
/-- append onto none; onto what is new. -/
theorem app_edges_nil (w : World) (u : Value) (fs : List Eg) (N : Nat) (hN : N ≤ w.heap.size) (hu : RdE w u fs) (hb : fs.length ≤ 100000000000) :
    ∃ v' w', (Builtin.append_ #[66, 66] 66 #[.slice none 0 0, u]).run Tryz.prog w = .ok v' w' ∧ OwnE w' v' fs ∧ Fr w w' (fun k => N ≤ k) ∧ (∀ k, v'.ownBlock = some k → N ≤ k) := by
  obtain ⟨v', w', h1, h2, h3, h4⟩ := app_edges w (.slice none 0 0) u [] fs (OwnE.nil w) hu (by simpa using hb)
  refine ⟨v', w', h1, by simpa using h2, h3.mono (fun i _ hi => by simp [Value.ownBlock] at hi), fun k hk => ?_⟩
  rcases h4 k hk with h | h
  · simp [Value.ownBlock] at h
  · omega
theorem app_edges_new (w : World) (v u : Value) (es fs : List Eg) (N : Nat) (hN : N ≤ w.heap.size) (h : OwnE w v es) (hv : ∀ k, v.ownBlock = some k → N ≤ k) (hu : RdE w u fs) (hb : es.length + fs.length ≤ 100000000000) :
    ∃ v' w', (Builtin.append_ #[66, 66] 66 #[v, u]).run Tryz.prog w = .ok v' w' ∧ OwnE w' v' (es ++ fs) ∧ Fr w w' (fun k => N ≤ k) ∧ (∀ k, v'.ownBlock = some k → N ≤ k) := by
  obtain ⟨v', w', h1, h2, h3, h4⟩ := app_edges w v u es fs h hu hb
  refine ⟨v', w', h1, h2, h3.mono (fun i _ hi => hv i hi), fun k hk => ?_⟩
  rcases h4 k hk with h | h
  · exact hv k h
  · omega
theorem app_events_nil (w : World) (u : Value) (fs : List Ev) (N : Nat) (hN : N ≤ w.heap.size) (hu : RdV w u fs) (hb : fs.length ≤ 100000000000) :
    ∃ v' w', (Builtin.append_ #[23, 23] 23 #[.slice none 0 0, u]).run Tryz.prog w = .ok v' w' ∧ OwnV w' v' fs ∧ Fr w w' (fun k => N ≤ k) ∧ (∀ k, v'.ownBlock = some k → N ≤ k) := by
  obtain ⟨v', w', h1, h2, h3, h4⟩ := app_events w (.slice none 0 0) u [] fs (OwnV.nil w) hu (by simpa using hb)
  refine ⟨v', w', h1, by simpa using h2, h3.mono (fun i _ hi => by simp [Value.ownBlock] at hi), fun k hk => ?_⟩
  rcases h4 k hk with h | h
  · simp [Value.ownBlock] at h
  · omega
theorem app_events_new (w : World) (v u : Value) (es fs : List Ev) (N : Nat) (hN : N ≤ w.heap.size) (h : OwnV w v es) (hv : ∀ k, v.ownBlock = some k → N ≤ k) (hu : RdV w u fs) (hb : es.length + fs.length ≤ 100000000000) :
    ∃ v' w', (Builtin.append_ #[23, 23] 23 #[v, u]).run Tryz.prog w = .ok v' w' ∧ OwnV w' v' (es ++ fs) ∧ Fr w w' (fun k => N ≤ k) ∧ (∀ k, v'.ownBlock = some k → N ≤ k) := by
  obtain ⟨v', w', h1, h2, h3, h4⟩ := app_events w v u es fs h hu hb
  refine ⟨v', w', h1, h2, h3.mono (fun i _ hi => hv i hi), fun k hk => ?_⟩
  rcases h4 k hk with h | h
  · exact hv k h
  · omega
theorem lit_edge (w : World) (a b : Nat) : RdE (w.alloc (.cells #[.int .u32 (a : Int), .int .u32 (b : Int)] 58)) (.slice (some ⟨w.heap.size, 0, none⟩) 1 1) [(a, b)] :=
  holdsN_lit 2 w 58 1 (erow [(a, b)]) (by simp [erow, encE]) (by omega)
theorem four_cells {w : World} {x0 x1 x2 x3 : Value} {T : TypeId} {p : Nat} (h : w.heap[p]? = some (.cells #[x0, x1, x2, x3] T (0, 0))) : w.cell? ⟨p, 0, none⟩ = some x0 ∧ w.cell? ⟨p, 1, none⟩ = some x1 ∧ w.cell? ⟨p, 2, none⟩ = some x2 ∧ w.cell? ⟨p, 3, none⟩ = some x3 := by
  refine ⟨?_, ?_, ?_, ?_⟩ <;> simp [World.cell?, h]

end Go.Proofs.YtnffjafddbbjaaaGreatDoor

/-
  The contracts of the reference's Find and Has.
-/
namespace Go.Proofs.YtnffjafddbbjaaaGreatDoor
open Go.RowKit

/-- Where an edge stands first; -1: nowhere. -/
def findF (l : List Eg) (e : Eg) : Int := if e ∈ l then (l.idxOf e : Int) else -1
theorem idxOf_first : ∀ {l : List Eg} {e : Eg} {i : Nat}, l[i]? = some e → (∀ j x, j < i → l[j]? = some x → x ≠ e) → l.idxOf e = i
  | [], _, _, h, _ => by simp at h
  | x :: l, e, 0, h, _ => by
    simp at h
    subst h
    simp
  | x :: l, e, i + 1, h, hn => by
    have hx : x ≠ e := hn 0 x (by omega) rfl
    rw [List.idxOf_cons, show (x == e) = false by simpa using hx, cond_false, idxOf_first (i := i) (by simpa using h) (fun j y hj hy => hn (j + 1) y (by omega) (by simpa using hy))]
theorem find_at {l : List Eg} {e : Eg} {i : Nat} (h : l[i]? = some e) (hn : ∀ j x, j < i → l[j]? = some x → x ≠ e) : findF l e = (i : Int) := by
  unfold findF
  rw [if_pos (List.mem_of_getElem? h), idxOf_first h hn]
theorem find_no {l : List Eg} {e : Eg} (hn : ∀ j x, j < l.length → l[j]? = some x → x ≠ e) : findF l e = -1 := by
  unfold findF
  refine if_neg fun h => ?_
  obtain ⟨i, hi⟩ := List.getElem?_of_mem h
  exact hn i e (List.getElem?_eq_some_iff.1 hi).1 hi rfl

set_option maxRecDepth 4000 in
set_option maxHeartbeats 400000 in
theorem refFind_any (v : Value) (es : List Eg) (e : Eg) (w : World) (h : RdE w v es) (hl : es.length ≤ 1000000) : Calls Tryz.prog 50 #[v, edgeV e] w fun r w' => r = .returned (.int .i64 (findF es e)) ∧ Fr w w' (fun _ => False) := by
  obtain ⟨a0, c0, rfl, hc0⟩ := h.form
  obtain ⟨n, hn⟩ : ∃ n, n = es.length := ⟨_, rfl⟩
  obtain ⟨e1, e2⟩ := e
  rw [← hn] at h hl hc0 ⊢
  have Hr : Hid (RdE w (.slice a0 n c0) es) := h
  have Hn : Hid _ := hn
  clear h hn
  unfold edgeV
  dsimp only
  go_enter Tryz.func50, Tryz.ntmps50
  go_wp2_with fail
  obtain ⟨p, hp⟩ : ∃ p, p = w.heap.size := ⟨_, rfl⟩
  obtain ⟨wa, hwa⟩ : ∃ wa, wa = w.alloc (.cells #[.int .u32 (e1 : Int), .int .u32 (e2 : Int)] 58) := ⟨_, rfl⟩
  rw [← hwa, ← hp]
  have Hpb : Hid (∀ z, Fr wa z (fun _ => False) → z.heap[p]? = some (.cells #[.int .u32 (e1 : Int), .int .u32 (e2 : Int)] 58 (0, 0))) := fun z hz => hz.kept (by rw [hwa, hp]; exact heap_alloc_new _ _) (fun h => h)
  have Hwa : Hid (Fr w wa (fun _ => False)) := by show Fr _ _ _; rw [hwa]; exact (Fr.refl _ _).alloc _
  clear hp hwa
  go_loopg [5] n (fun g I wr => ∃ i : Nat, g = n - i ∧ i ≤ n ∧ I = .int .i64 (i : Int) ∧ (∀ j x, j < i → es[j]? = some x → x ≠ (e1, e2)) ∧ Fr wa wr (fun _ => False))
  case atStart => exact ⟨0, by omega, by omega, rfl, fun j x hj => by omega, Fr.refl _ _⟩
  case round =>
    obtain ⟨i, hg, hi, rfl, hle, hf⟩ := hrel
    have Hg : Hid _ := hg
    have Hle : Hid _ := hle
    have Hf : Hid (Fr wa wr (fun _ => False)) := hf
    clear hg hle hf
    by_cases hlt : i < n
    · have hin : (i : Int) < (n : Int) := by omega
      have hin' : decide (i < n) = true := decide_eq_true hlt
      obtain ⟨⟨a, b⟩, ha⟩ : ∃ a, es[i]? = some a := ⟨_, List.getElem?_eq_getElem (by rw [← Hn.out]; omega)⟩
      obtain ⟨bk, off, cap, e3, hbk, hca⟩ := (Hr.out.keep Hwa.out).get i _ ha
      simp only [Value.slice.injEq] at e3
      obtain ⟨rfl, -, rfl⟩ := e3
      have Ha : Hid _ := ha
      have ka : ∀ z, Fr wr.drew z (fun _ => False) → z.cell? ⟨bk, off + i * 2, none⟩ = some (.int .u32 (a : Int)) := fun z hz => (hca z (Hf.out.drew.none hz)).1
      have kb : ∀ z, Fr wr.drew z (fun _ => False) → z.cell? ⟨bk, off + i * 2 + 1, none⟩ = some (.int .u32 (b : Int)) := fun z hz => (hca z (Hf.out.drew.none hz)).2
      have kc : ∀ z, Fr wr.drew z (fun _ => False) → z.cell? ⟨p, 0, none⟩ = some (.int .u32 (e1 : Int)) := fun z hz => two_cell0 (Hpb.out z (Hf.out.drew.none hz))
      have kd : ∀ z, Fr wr.drew z (fun _ => False) → z.cell? ⟨p, 1, none⟩ = some (.int .u32 (e2 : Int)) := fun z hz => two_cell1 (Hpb.out z (Hf.out.drew.none hz))
      have hi0 : (0 : Int) ≤ (i : Int) := by omega
      clear hca ha hbk
      go_wp2_with fail
      refine wp_region_tree (fun _ => False) (.take 0 (.take 1 (.take 2 (.take 3 (.take 4 (.take 5 .nil)))))) (by kernel_rfl) (by kernel_rfl) (by decide) (by kernel_rfl) ?_
      repeat (refine wpT_take (v := ?_) rfl rfl (fun x hx => ?_) ?_; rotate_left; (focus (go_simp; with_reducible rfl)); simp only [Act.put, List.setIfInBounds_toArray, List.set_cons_zero, List.set_cons_succ])
      obtain ⟨D, hD⟩ : ∃ D, D = decide ((a, b) = (e1, e2)) := ⟨_, rfl⟩
      refine wpT_take (v := .bool D) rfl rfl (fun x hx => ?_) ?_
      · rw [hD]
        go_simp
        by_cases h1 : a = e1 <;> by_cases h2 : b = e2 <;> simp [h1, h2, Int.ofNat_inj]
      simp only [Act.put, List.setIfInBounds_toArray, List.set_cons_zero, List.set_cons_succ]
      clear ka kb kc kd
      have Hf2 : Hid (Fr w wr.drew (fun _ => False)) := Hwa.out.none Hf.out.drew
      have Hf3 : Hid (Fr wa wr.drew (fun _ => False)) := Hf.out.drew
      unfold wpT
      cases D with
      | true =>
        have Hres : Hid (findF es (e1, e2) = (i : Int)) := find_at (by rw [Ha.out, of_decide_eq_true hD.symm]) Hle.out
        clear hD
        go_wp2
        go_ret
        exact ⟨by rw [Hres.out]; rfl, Hf2.out⟩
      | false =>
        have Hle2 : Hid (∀ j x, j < i + 1 → es[j]? = some x → x ≠ (e1, e2)) := fun j x hj hx => by
          by_cases h : j < i
          · exact Hle.out j x h hx
          · have e : j = i := by omega
            subst e
            rw [Ha.out] at hx
            simp only [Option.some.injEq] at hx
            rw [← hx]
            exact of_decide_eq_false hD.symm
        clear hD
        go_wp2_with fail
        go_roundg (n - (i + 1))
        case rel => exact ⟨i + 1, rfl, by omega, by go_num, Hle2.out, Hf3.out⟩
        case measure => rw [Hg.out]; omega
    · have hin : ¬ (i : Int) < (n : Int) := by omega
      have hin' : decide (i < n) = false := decide_eq_false hlt
      have Hres : Hid (findF es (e1, e2) = -1) := find_no (fun j x hj hx => Hle.out j x (by rw [← Hn.out] at hj; omega) hx)
      have Hf2 : Hid (Fr w wr (fun _ => False)) := Hwa.out.none Hf.out
      go_wp2_with fail
      go_ret
      exact ⟨by rw [Hres.out]; rfl, Hf2.out⟩

theorem findF_has (l : List Eg) (e : Eg) : decide ((0 : Int) ≤ findF l e) = decide (e ∈ l) := by
  unfold findF
  by_cases h : e ∈ l
  · rw [if_pos h, decide_eq_true h]
    exact decide_eq_true (by omega)
  · rw [if_neg h, decide_eq_false h]
    rfl

set_option maxRecDepth 4000 in
set_option maxHeartbeats 400000 in
theorem refHas_any (v : Value) (es : List Eg) (e : Eg) (w : World) (h : RdE w v es) (hl : es.length ≤ 1000000) : Calls Tryz.prog 24 #[v, edgeV e] w fun r w' => r = .returned (.bool (decide (e ∈ es))) ∧ Fr w w' (fun _ => False) := by
  obtain ⟨a0, c0, rfl, hc0⟩ := h.form
  obtain ⟨e1, e2⟩ := e
  have Hr : Hid (RdE w (.slice a0 es.length c0) es) := h
  obtain ⟨F, hF⟩ : ∃ F, F = findF es (e1, e2) := ⟨_, rfl⟩
  have hd : decide ((0 : Int) ≤ F) = decide ((e1, e2) ∈ es) := by rw [hF]; exact findF_has es (e1, e2)
  obtain ⟨D, hD⟩ : ∃ D, D = decide ((e1, e2) ∈ es) := ⟨_, rfl⟩
  rw [← hD] at hd
  rw [← hD]
  have HF : Hid _ := hF
  clear h hD hF
  unfold edgeV
  dsimp only
  go_enter Tryz.func24, Tryz.ntmps24
  go_wp2_with fail
  refine (refFind_any _ es (e1, e2) _ (Hr.out.keep ((Fr.refl _ _).alloc _)) hl).mono ?_
  rw [← HF.out]
  rintro r w1 ⟨rfl, hf1⟩
  have Hf1 : Hid (Fr w w1 (fun _ => False)) := ((Fr.refl w (fun _ => False)).alloc _).none hf1
  clear hf1
  go_wp2
  go_ret
  exact ⟨by first | rfl | rw [hd], Hf1.out⟩

end Go.Proofs.YtnffjafddbbjaaaGreatDoor

/-
  The contract of the reference's Rising.
-/
namespace Go.Proofs.YtnffjafddbbjaaaGreatDoor
open Go.RowKit

set_option maxRecDepth 4000 in
set_option maxHeartbeats 800000 in
theorem refRising8_any (v : Value) (es : List (Nat × Nat)) (w : World) (h : RdE w v es) (hl : es.length ≤ 1000000) : Calls Tryz.prog 51 #[v] w fun e w' => e = .returned (.bool (eRising es)) ∧ Fr w w' (fun _ => False) := by
  obtain ⟨a0, c0, rfl, hc0⟩ := h.form
  obtain ⟨n, hn⟩ : ∃ n, n = es.length := ⟨_, rfl⟩
  rw [← hn] at h hl hc0 ⊢
  have Hr : Hid (RdE w (.slice a0 n c0) es) := h
  have Hn : Hid _ := hn
  clear h hn
  go_enter Tryz.func51, Tryz.ntmps51
  go_wp2_with fail
  go_loopg [3] (n - 1) (fun g I wr => ∃ i : Nat, g = n - i ∧ 1 ≤ i ∧ (i ≤ n ∨ i = 1) ∧ I = .int .i64 (i : Int) ∧ (∀ j a b, j + 1 < i → es[j]? = some a → es[j + 1]? = some b → eLess a b = true) ∧ Fr w wr (fun _ => False))
  case atStart => exact ⟨1, by omega, by omega, .inr rfl, rfl, fun j a b hj => by omega, Fr.refl _ _⟩
  case round =>
    obtain ⟨i, hg, hi1, hi, rfl, hle, hf⟩ := hrel
    have Hg : Hid _ := hg
    have Hle : Hid _ := hle
    have Hf : Hid (Fr w wr (fun _ => False)) := hf
    clear hg hle hf
    by_cases hlt : i < n
    · have hin : (i : Int) < (n : Int) := by omega
      obtain ⟨i1, hi1e⟩ : ∃ k, i = k + 1 := ⟨i - 1, by omega⟩
      have hsub : (i : Int) - 1 = (i1 : Int) := by omega
      have hi1n : (i1 : Int) < (n : Int) := by omega
      have wsub : IntKind.i64.wrap (i1 : Int) = (i1 : Int) := IntWalk.i64_in _ (by omega)
      obtain ⟨a, ha⟩ : ∃ a, es[i1]? = some a := ⟨_, List.getElem?_eq_getElem (by rw [← Hn.out]; omega)⟩
      obtain ⟨b, hb⟩ : ∃ b, es[i]? = some b := ⟨_, List.getElem?_eq_getElem (by rw [← Hn.out]; omega)⟩
      obtain ⟨bk, off, cap, e1, hbk, hca⟩ := Hr.out.get i1 a ha
      obtain ⟨bk', off', cap', e2, -, hcb⟩ := Hr.out.get i b hb
      rw [e1] at e2
      simp only [Value.slice.injEq, Option.some.injEq, Addr.mk.injEq] at e1 e2
      obtain ⟨⟨rfl, rfl, -⟩, -, rfl⟩ := e2
      obtain ⟨rfl, -, rfl⟩ := e1
      have ka : ∀ z, Fr wr.drew z (fun _ => False) → z.cell? ⟨bk, off + i1 * 2, none⟩ = some (.int .u32 (a.1 : Int)) := fun z hz => (hca z (Hf.out.drew.none hz)).1
      have ka2 : ∀ z, Fr wr.drew z (fun _ => False) → z.cell? ⟨bk, off + i1 * 2 + 1, none⟩ = some (.int .u32 (a.2 : Int)) := fun z hz => (hca z (Hf.out.drew.none hz)).2
      have kb : ∀ z, Fr wr.drew z (fun _ => False) → z.cell? ⟨bk, off + i * 2, none⟩ = some (.int .u32 (b.1 : Int)) := fun z hz => (hcb z (Hf.out.drew.none hz)).1
      have kb2 : ∀ z, Fr wr.drew z (fun _ => False) → z.cell? ⟨bk, off + i * 2 + 1, none⟩ = some (.int .u32 (b.2 : Int)) := fun z hz => (hcb z (Hf.out.drew.none hz)).2
      have Hab : Hid (es[i1]? = some a ∧ es[i1 + 1]? = some b) := ⟨ha, by rw [← hi1e]; exact hb⟩
      have Hi1 : Hid _ := hi1e
      have hi0 : (0 : Int) ≤ (i1 : Int) := by omega
      clear hca hcb ha hb hi1e hbk
      go_wp2_with fail
      refine wp_region_tree (fun _ => False) (.take 0 (.take 1 (.take 2 (.take 3 (.take 4 (.take 5 (.take 6 (.take 7 (.take 8 (.one 9 (.take 10 .nil))))))))))) (by kernel_rfl) (by kernel_rfl) (by decide) (by kernel_rfl) ?_
      repeat (refine wpT_take (v := ?_) rfl rfl (fun x hx => ?_) ?_; rotate_left; (focus (go_simp; with_reducible rfl)); simp only [Act.put, List.setIfInBounds_toArray, List.set_cons_zero, List.set_cons_succ])
      refine wpT_one rfl rfl (fun K hK => ?_)
      go_simp
      refine (refLess8_any a b wr.drew).mono ?_
      rintro e w1 ⟨rfl, hf1⟩
      refine hK _ _ hf1 ?_
      clear hK K ka ka2 kb kb2
      have Hf1 : Hid (Fr w w1 (fun _ => False)) := Hf.out.drew.none hf1
      cases hL : eLess a b with
      | false =>
        have Hres : Hid (eRising es = false) := eRising_false Hab.out.1 Hab.out.2 hL
        clear hL hf1
        repeat (refine wpT_take (v := ?_) rfl rfl (fun x hx => ?_) ?_; rotate_left; (focus (go_simp; with_reducible rfl)); simp only [Act.put, List.setIfInBounds_toArray, List.set_cons_zero, List.set_cons_succ])
        unfold wpT
        go_wp2_with fail
        go_ret
        exact ⟨by rw [Hres.out]; rfl, Hf1.out⟩
      | true =>
        have Hle2 : Hid (∀ j a b, j + 1 < i + 1 → es[j]? = some a → es[j + 1]? = some b → eLess a b = true) := fun j x y hj hx hy => by
          by_cases h : j + 1 < i
          · exact Hle.out j x y h hx hy
          · have e : j = i1 := by have := Hi1.out; omega
            subst e
            rw [Hab.out.1] at hx
            rw [Hab.out.2] at hy
            simp only [Option.some.injEq] at hx hy
            rw [← hx, ← hy]
            exact hL
        clear hL hf1
        repeat (refine wpT_take (v := ?_) rfl rfl (fun x hx => ?_) ?_; rotate_left; (focus (go_simp; with_reducible rfl)); simp only [Act.put, List.setIfInBounds_toArray, List.set_cons_zero, List.set_cons_succ])
        unfold wpT
        go_wp2_with fail
        go_roundg (n - (i + 1))
        case rel => exact ⟨i + 1, rfl, by omega, .inl (by omega), by go_num, Hle2.out, Hf1.out⟩
        case measure => rw [Hg.out]; omega
    · have hin : ¬ (i : Int) < (n : Int) := by omega
      have Hres : Hid (eRising es = true) := eRising_true (fun j a b ha hb => Hle.out j a b (by
        have := (List.getElem?_eq_some_iff.1 hb).1
        rw [← Hn.out] at this
        omega) ha hb)
      go_wp2_with fail
      go_ret
      exact ⟨by rw [Hres.out]; rfl, Hf.out⟩

end Go.Proofs.YtnffjafddbbjaaaGreatDoor

/-
  The contract of the reference's Turn.
-/
namespace Go.Proofs.YtnffjafddbbjaaaGreatDoor
open Go.RowKit

/-- Is the edge at this place a lesser one? -/
def lessAt (l : List Eg) (e : Eg) (k : Nat) : Bool := (l[k]?.map (fun x => eLess x e)).getD false
theorem lessAt_end {l : List Eg} {e : Eg} {k : Nat} (hk : k ≤ l.length) (h : ∀ j x, j < k → l[j]? = some x → eLess x e = true) (h2 : lessAt l e k = false) : posF l e = k := by
  refine posF_is hk h (fun x hx => ?_)
  unfold lessAt at h2
  rw [hx] at h2
  exact h2

set_option maxRecDepth 4000 in
set_option maxHeartbeats 1600000 in
theorem refTurn_any (v : Value) (es : List Eg) (x : Ev) (w : World) (h : RdE w v es) (hl : es.length ≤ 1000000) : Calls Tryz.prog 25 #[v, evV x] w fun r w' => (∃ v', r = .returned (.tuple #[v', .bool (turnF es x.2.1 x.2.2).isSome]) ∧ RdE w' v' ((turnF es x.2.1 x.2.2).getD []) ∧ (∀ k, v'.ownBlock = some k → w.heap.size ≤ k)) ∧ Fr w w' (fun _ => False) := by
  obtain ⟨a0, c0, rfl, hc0⟩ := h.form
  obtain ⟨n, hn⟩ : ∃ n, n = es.length := ⟨_, rfl⟩
  obtain ⟨t, ⟨e1, e2⟩, ad⟩ := x
  rw [← hn] at h hl hc0 ⊢
  have Hr : Hid (RdE w (.slice a0 n c0) es) := h
  have Hn : Hid _ := hn
  have Hl : Hid (es.length ≤ 1000000) := by show _ ≤ _; omega
  clear h hn
  unfold evV eventV
  dsimp only
  obtain ⟨TF, hTF⟩ : ∃ T, T = turnF es (e1, e2) ad := ⟨_, rfl⟩
  rw [← hTF]
  have HTF : Hid _ := hTF
  obtain ⟨F, hF⟩ : ∃ F, F = findF es (e1, e2) := ⟨_, rfl⟩
  obtain ⟨D, hD⟩ : ∃ D, D = decide ((e1, e2) ∈ es) := ⟨_, rfl⟩
  have hd : decide ((0 : Int) ≤ F) = D := by rw [hF, hD]; exact findF_has es (e1, e2)
  obtain ⟨R, hR⟩ : ∃ R, R = eRising es := ⟨_, rfl⟩
  have HF : Hid _ := hF
  have HD : Hid _ := hD
  have HR : Hid _ := hR
  clear hF hD hR hTF
  go_enter Tryz.func25, Tryz.ntmps25
  go_wp2_with fail
  obtain ⟨p, hp⟩ : ∃ p, p = w.heap.size := ⟨_, rfl⟩
  obtain ⟨wa, hwa⟩ : ∃ wa, wa = w.alloc (.cells #[.int .i64 t, .int .u32 (e1 : Int), .int .u32 (e2 : Int), .bool ad] 60) := ⟨_, rfl⟩
  rw [← hwa]
  have Hpb : Hid (∀ z, Fr wa z (fun _ => False) → z.heap[p]? = some (.cells #[.int .i64 t, .int .u32 (e1 : Int), .int .u32 (e2 : Int), .bool ad] 60 (0, 0))) := fun z hz => hz.kept (by rw [hwa, hp]; exact heap_alloc_new _ _) (fun h => h)
  have Hwa : Hid (Fr w wa (fun _ => False)) := by show Fr _ _ _; rw [hwa]; exact (Fr.refl _ _).alloc _
  have Hr : Hid (∀ z, Fr wa z (fun _ => False) → RdE z (.slice a0 n c0) es) := fun z hz => Hr.out.keep (Hwa.out.none hz)
  refine (refFind_any _ es (e1, e2) _ (Hr.out wa (Fr.refl _ _)) Hl.out).mono ?_
  rw [← HF.out]
  rintro r x1 ⟨rfl, g⟩
  rw [← hp]
  clear hp hwa
  have G1 : Hid (Fr wa x1 (fun _ => False)) := g
  clear g
  obtain ⟨c0', c1, c2, c3⟩ := four_cells (Hpb.out x1 G1.out)
  go_wp2_with fail
  refine (refRising8_any _ es _ (Hr.out x1 G1.out) Hl.out).mono ?_
  rw [← HR.out]
  rintro r x2 ⟨rfl, g⟩
  have G2 : Hid (Fr wa x2 (fun _ => False)) := G1.out.none g
  have Hw2 : Hid (Fr w x2 (fun _ => False)) := Hwa.out.none G2.out
  clear g c0' c1 c2 c3
  obtain ⟨c0', c1, c2, c3⟩ := four_cells (Hpb.out x2 G2.out)
  cases R with
  | false =>
    have Hres : Hid (turnF es (e1, e2) ad = none) := by show _ = _; unfold turnF; rw [if_pos (.inl HR.out.symm)]
    obtain rfl := HTF.out.trans Hres.out
    go_wp2
    go_ret2
    exact ⟨⟨_, rfl, RdE.nil _, fun k hk => by simp [Value.ownBlock] at hk⟩, Hw2.out⟩
  | true =>
  have Hmem : Hid (D = decide ((e1, e2) ∈ es)) := HD.out
  cases D with
  | false =>
    cases ad with
    | false =>
      have Hres : Hid (turnF es (e1, e2) false = none) := by show _ = _; unfold turnF; rw [if_pos (.inr HD.out)]
      obtain rfl := HTF.out.trans Hres.out
      go_wp2
      go_ret2
      exact ⟨⟨_, rfl, RdE.nil _, fun k hk => by simp [Value.ownBlock] at hk⟩, Hw2.out⟩
    | true =>
      have Hres : Hid (turnF es (e1, e2) true = some (es.take (posF es (e1, e2)) ++ (e1, e2) :: es.drop (posF es (e1, e2)))) := by
        show _ = _
        unfold turnF
        rw [← HR.out, ← HD.out, if_neg (by simp), if_pos rfl]
      go_wp2_with fail
      clear c0' c1 c2 c3 hd
      go_loopg [6] n (fun g I wr => ∃ k : Nat, g = n - k ∧ k ≤ n ∧ I = .int .i64 (k : Int) ∧ (∀ j x, j < k → es[j]? = some x → eLess x (e1, e2) = true) ∧ Fr wa wr (fun _ => False))
      case atStart => exact ⟨0, by omega, by omega, rfl, fun j x hj => by omega, G2.out⟩
      case round =>
        obtain ⟨k, hg, hk, rfl, hle, hf⟩ := hrel
        have Hg : Hid _ := hg
        have Hle : Hid _ := hle
        have Hf : Hid (Fr wa wr (fun _ => False)) := hf
        clear hg hle hf
        obtain ⟨B, hB⟩ : ∃ B, B = lessAt es (e1, e2) k := ⟨_, rfl⟩
        have HB : Hid _ := hB
        clear hB
        go_upto_region 7 with fail
        go_cut [45] from 33 to 47 (fun V wx => V = .bool B ∧ Fr wr wx (fun _ => False))
        case first =>
          by_cases hlt : k < n
          · have hin : (k : Int) < (n : Int) := by omega
            have hin' : decide (k < n) = true := decide_eq_true hlt
            obtain ⟨⟨a, b⟩, ha⟩ : ∃ a, es[k]? = some a := ⟨_, List.getElem?_eq_getElem (by rw [← Hn.out]; omega)⟩
            have HB2 : Hid (eLess (a, b) (e1, e2) = B) := by
              show _ = _
              rw [HB.out]
              unfold lessAt
              rw [ha]
              rfl
            obtain ⟨bk, off, cap, e3, hbk, hca⟩ := (Hr.out wa (Fr.refl _ _)).get k _ ha
            simp only [Value.slice.injEq] at e3
            obtain ⟨rfl, -, rfl⟩ := e3
            have ka : ∀ z, Fr wr.drew z (fun _ => False) → z.cell? ⟨bk, off + k * 2, none⟩ = some (.int .u32 (a : Int)) := fun z hz => (hca z (Hf.out.drew.none hz)).1
            have kb : ∀ z, Fr wr.drew z (fun _ => False) → z.cell? ⟨bk, off + k * 2 + 1, none⟩ = some (.int .u32 (b : Int)) := fun z hz => (hca z (Hf.out.drew.none hz)).2
            have kc : ∀ z, Fr wr.drew z (fun _ => False) → z.cell? ⟨p, 1, none⟩ = some (.int .u32 (e1 : Int)) := fun z hz => (four_cells (Hpb.out z (Hf.out.drew.none hz))).2.1
            have kd : ∀ z, Fr wr.drew z (fun _ => False) → z.cell? ⟨p, 2, none⟩ = some (.int .u32 (e2 : Int)) := fun z hz => (four_cells (Hpb.out z (Hf.out.drew.none hz))).2.2.1
            have hk0 : (0 : Int) ≤ (k : Int) := by omega
            clear hca ha hbk
            go_wp2_with fail
            refine wp_region_tree (fun _ => False) (.take 0 (.take 1 (.take 2 (.take 3 (.take 4 (.take 5 (.take 6 (.take 7 (.take 8 (.take 9 (.take 10 (.one 11 (.take 12 .nil))))))))))))) (by kernel_rfl) (by kernel_rfl) (by decide) (by kernel_rfl) ?_
            repeat (refine wpT_take (v := ?_) rfl rfl (fun x hx => ?_) ?_; rotate_left; (focus (go_simp; with_reducible rfl)); simp only [Act.put, List.setIfInBounds_toArray, List.set_cons_zero, List.set_cons_succ])
            refine wpT_one rfl rfl (fun K hK => ?_)
            go_simp
            refine (refLess8_any (a, b) (e1, e2) _).mono ?_
            rw [HB2.out]
            rintro r x3 ⟨rfl, g⟩
            refine hK _ _ g ?_
            clear hK K ka kb kc kd
            have G3 : Hid (Fr wr x3 (fun _ => False)) := (Fr.refl wr (fun _ => False)).drew.none g
            clear g
            repeat (refine wpT_take (v := ?_) rfl rfl (fun x hx => ?_) ?_; rotate_left; (focus (go_simp; with_reducible rfl)); simp only [Act.put, List.setIfInBounds_toArray, List.set_cons_zero, List.set_cons_succ])
            unfold wpT
            go_wp2_with fail
            go_meet
            case rel => exact ⟨rfl, G3.out⟩
          · have hin : ¬ (k : Int) < (n : Int) := by omega
            have hin' : decide (k < n) = false := decide_eq_false hlt
            have HB2 : Hid (B = false) := by
              show _ = _
              rw [HB.out]
              unfold lessAt
              rw [List.getElem?_eq_none (by rw [← Hn.out]; omega)]
              rfl
            obtain rfl := HB2.out
            go_wp2_with fail
            refine wp_region_tree (fun _ => False) (.take 0 (.take 1 (.take 2 (.take 3 (.take 4 (.take 5 (.take 6 (.take 7 (.take 8 (.take 9 (.take 10 (.one 11 (.take 12 .nil))))))))))))) (by kernel_rfl) (by kernel_rfl) (by decide) (by kernel_rfl) ?_
            iterate 5 (refine wpT_take (v := ?_) rfl rfl (fun x hx => ?_) ?_; rotate_left; (focus (go_simp; with_reducible rfl)); simp only [Act.put, List.setIfInBounds_toArray, List.set_cons_zero, List.set_cons_succ])
            iterate 6 (refine wpT_pass rfl rfl ?_; simp only [Act.put, List.setIfInBounds_toArray, List.set_cons_zero, List.set_cons_succ])
            refine wpT_skip rfl rfl ?_
            simp only [Act.put, List.setIfInBounds_toArray, List.set_cons_zero, List.set_cons_succ]
            repeat (refine wpT_take (v := ?_) rfl rfl (fun x hx => ?_) ?_; rotate_left; (focus (go_simp; with_reducible rfl)); simp only [Act.put, List.setIfInBounds_toArray, List.set_cons_zero, List.set_cons_succ])
            have G3 : Hid (Fr wr wr.drew (fun _ => False)) := (Fr.refl wr (fun _ => False)).drew
            unfold wpT
            go_wp2_with fail
            go_meet
            case rel => exact ⟨rfl, G3.out⟩
        case rest =>
          obtain ⟨rfl, hfc⟩ := hcut
          rename_i hKc
          refine hKc _ _ ?_
          clear hKc
          have Hfc : Hid (Fr wa wc (fun _ => False)) := Hf.out.none hfc
          clear hfc
          cases B with
          | true =>
            have hkn : k < n := by
              have h1 := HB.out
              unfold lessAt at h1
              cases h2 : es[k]? with
              | none => rw [h2] at h1; cases h1
              | some y => have := (List.getElem?_eq_some_iff.1 h2).1; have := Hn.out; omega
            have Hle2 : Hid (∀ j x, j < k + 1 → es[j]? = some x → eLess x (e1, e2) = true) := fun j x hj hx => by
              by_cases h : j < k
              · exact Hle.out j x h hx
              · have e : j = k := by omega
                subst e
                have h1 := HB.out
                unfold lessAt at h1
                rw [hx] at h1
                exact h1.symm
            go_wp2_with fail
            go_roundg (n - (k + 1))
            case rel => exact ⟨k + 1, rfl, by omega, by go_num, Hle2.out, Hfc.out⟩
            case measure => rw [Hg.out]; omega
          | false =>
            have Hpos : Hid (posF es (e1, e2) = k) := lessAt_end (by rw [← Hn.out]; exact hk) Hle.out HB.out.symm
            obtain rfl : TF = some (es.take k ++ (e1, e2) :: es.drop k) := by rw [HTF.out, Hres.out, Hpos.out]
            obtain ⟨W, hW⟩ : ∃ W, W = wc.drew := ⟨_, rfl⟩
            have HfW : Hid (Fr wa W (fun _ => False)) := by rw [hW]; exact Hfc.out.drew
            have kc : ∀ z, Fr W z (fun k => W.heap.size ≤ k) → z.cell? ⟨p, 1, none⟩ = some (.int .u32 (e1 : Int)) := fun z hz => (four_cells (Hpb.out z (HfW.out.none (hz.old (Nat.le_refl _))))).2.1
            have kd : ∀ z, Fr W z (fun k => W.heap.size ≤ k) → z.cell? ⟨p, 2, none⟩ = some (.int .u32 (e2 : Int)) := fun z hz => (four_cells (Hpb.out z (HfW.out.none (hz.old (Nat.le_refl _))))).2.2.1
            have hkc : (k : Int) ≤ (c0 : Int) := by omega
            have hkn : (k : Int) ≤ (n : Int) := by omega
            have hk0 : (0 : Int) ≤ (k : Int) := by omega
            obtain ⟨A, hA⟩ : ∃ A, (if c0 = k then a0 else Option.map (fun x => x.add (k * 2)) a0) = A := ⟨_, rfl⟩
            have Hpre : Hid (RdE W (.slice a0 k c0) (es.take k)) := (Hr.out W HfW.out).take Hn.out.symm k hk
            have Hpost : Hid (RdE W (.slice A (n - k) (c0 - k)) (es.drop k)) := by rw [← hA]; exact (Hr.out W HfW.out).drop Hn.out.symm k hk
            have Hsz : Hid (w.heap.size ≤ W.heap.size) := (Hwa.out.none HfW.out).size
            have Hll : Hid ((es.take k).length + 1 + (es.drop k).length ≤ 2000000) := by have := Hl.out; show _ ≤ _; rw [List.length_take, List.length_drop]; omega
            go_wp2_with fail
            refine wp_region_tree (fun k => W.heap.size ≤ k) (.take 0 (.take 1 (.take 2 (.take 4 (.take 5 (.take 8 (.take 9 (.take 10 (.two 3 (.one 6 (.one 7 (.one 11 (.take 12 (.take 13 .nil))))) 6 (.one 3 (.one 7 (.one 11 (.take 12 (.take 13 .nil)))))))))))))) (by kernel_rfl) (by kernel_rfl) (by decide) (by kernel_rfl) ?_
            rw [← hW]
            clear hW
            repeat (refine wpT_take (v := ?_) rfl rfl (fun x hx => ?_) ?_; rotate_left; (focus (go_simp; with_reducible rfl)); simp only [Act.put, List.setIfInBounds_toArray, List.set_cons_zero, List.set_cons_succ])
            clear kc kd
            have e0 : Fr W W (fun k => W.heap.size ≤ k) := Fr.refl _ _
            refine wpT_two rfl rfl rfl rfl (fun K hK => ?_) (fun K hK => ?_)
            · obtain ⟨v4, w4, hrun4, ho4, hf4, hn4⟩ := app_edges_nil W (.slice a0 k c0) _ W.heap.size (Nat.le_refl _) Hpre.out (by have := Hll.out; omega)
              refine op_append_run (.const (.slice none 0 0)) (.tmp 50) 66 rfl rfl rfl hrun4 ?_
              refine hK _ _ hf4 ?_
              clear hK K
              simp only [Act.put, List.setIfInBounds_toArray, List.set_cons_zero, List.set_cons_succ]
              refine wpT_one rfl rfl (fun K hK => ?_)
              go_simp
              refine hK _ _ (((Fr.refl w4 (fun _ => False)).alloc _).mono (fun _ _ h => h.elim)) ?_
              clear hK K
              have hfl : Fr W (w4.alloc (.cells #[.int .u32 (e1 : Int), .int .u32 (e2 : Int)] 58)) (fun k => W.heap.size ≤ k) := hf4.alloc _
              have hlit := lit_edge w4 e1 e2
              have hof := ho4.alloc (.cells #[.int .u32 (e1 : Int), .int .u32 (e2 : Int)] 58)
              obtain ⟨v5, w5, hrun5, ho5, hf5, hn5⟩ := app_edges_new _ v4 _ _ [(e1, e2)] W.heap.size hfl.size hof hn4 hlit (by have := Hll.out; simp only [List.length_singleton]; omega)
              refine wpT_one rfl rfl (fun K hK => ?_)
              refine op_append_run (.tmp 51) (.tmp 54) 66 rfl rfl rfl hrun5 ?_
              refine hK _ _ hf5 ?_
              clear hK K
              simp only [Act.put, List.setIfInBounds_toArray, List.set_cons_zero, List.set_cons_succ]
              have hf6 : Fr W w5 (fun k => W.heap.size ≤ k) := hfl.trans hf5 (fun _ _ h => h)
              obtain ⟨v6, w6, hrun6, ho6, hf7, hn6⟩ := app_edges_new w5 v5 (.slice A (n - k) (c0 - k)) _ _ W.heap.size hf6.size ho5 hn5 (Hpost.out.keep (hf6.old (Nat.le_refl _))) (by have := Hll.out; rw [List.length_append, List.length_singleton]; omega)
              refine wpT_one rfl rfl (fun K hK => ?_)
              refine op_append_run (.tmp 55) (.tmp 58) 66 rfl rfl rfl hrun6 ?_
              refine hK _ _ hf7 ?_
              clear hK K
              simp only [Act.put, List.setIfInBounds_toArray, List.set_cons_zero, List.set_cons_succ]
              repeat (refine wpT_take (v := ?_) rfl rfl (fun x hx => ?_) ?_; rotate_left; (focus (go_simp; with_reducible rfl)); simp only [Act.put, List.setIfInBounds_toArray, List.set_cons_zero, List.set_cons_succ])
              have Hfo : Hid (Fr w w6 (fun _ => False)) := (Hwa.out.none HfW.out).none ((hf6.trans hf7 (fun _ _ h => h)).old (Nat.le_refl _))
              have Ho6 : Hid (OwnE w6 v6 (es.take k ++ (e1, e2) :: es.drop k)) := by rw [List.append_assoc] at ho6; exact ho6
              have Hn6 : Hid _ := hn6
              clear hf4 hf5 hf6 hf7 hfl ho4 ho5 ho6 hn4 hn5 hn6 hrun4 hrun5 hrun6 hlit
              unfold wpT
              go_wp2
              go_ret2
              exact ⟨⟨_, rfl, Ho6.out.rd, fun k hk => Nat.le_trans Hsz.out (Hn6.out k hk)⟩, Hfo.out⟩
            · go_simp
              refine hK _ _ (((Fr.refl W (fun _ => False)).alloc _).mono (fun _ _ h => h.elim)) ?_
              clear hK K
              have hfl : Fr W (W.alloc (.cells #[.int .u32 (e1 : Int), .int .u32 (e2 : Int)] 58)) (fun k => W.heap.size ≤ k) := e0.alloc _
              have hlit := lit_edge W e1 e2
              obtain ⟨v4, w4, hrun4, ho4, hf4a, hn4a⟩ := app_edges_nil _ (.slice a0 k c0) _ (W.heap.size + 1) (by simp) (Hpre.out.keep (hfl.old (Nat.le_refl _))) (by have := Hll.out; omega)
              have hf4 := hf4a.mono (T := fun k => W.heap.size ≤ k) (fun i _ hi => by omega)
              have hn4 : ∀ k, v4.ownBlock = some k → W.heap.size ≤ k := fun k hk => by have := hn4a k hk; omega
              refine wpT_one rfl rfl (fun K hK => ?_)
              refine op_append_run (.const (.slice none 0 0)) (.tmp 50) 66 rfl rfl rfl hrun4 ?_
              refine hK _ _ hf4 ?_
              clear hK K
              simp only [Act.put, List.setIfInBounds_toArray, List.set_cons_zero, List.set_cons_succ]
              have hlit2 := hlit.frame hf4a (fun _ k hk => by simp [Value.ownBlock] at hk; subst hk; omega)
              obtain ⟨v5, w5, hrun5, ho5, hf5, hn5⟩ := app_edges_new _ v4 _ _ [(e1, e2)] W.heap.size (hfl.trans hf4 (fun _ _ h => h)).size ho4 hn4 hlit2 (by have := Hll.out; simp only [List.length_singleton]; omega)
              refine wpT_one rfl rfl (fun K hK => ?_)
              refine op_append_run (.tmp 51) (.tmp 54) 66 rfl rfl rfl hrun5 ?_
              refine hK _ _ hf5 ?_
              clear hK K
              simp only [Act.put, List.setIfInBounds_toArray, List.set_cons_zero, List.set_cons_succ]
              have hf6 : Fr W w5 (fun k => W.heap.size ≤ k) := (hfl.trans hf4 (fun _ _ h => h)).trans hf5 (fun _ _ h => h)
              obtain ⟨v6, w6, hrun6, ho6, hf7, hn6⟩ := app_edges_new w5 v5 (.slice A (n - k) (c0 - k)) _ _ W.heap.size hf6.size ho5 hn5 (Hpost.out.keep (hf6.old (Nat.le_refl _))) (by have := Hll.out; rw [List.length_append, List.length_singleton]; omega)
              refine wpT_one rfl rfl (fun K hK => ?_)
              refine op_append_run (.tmp 55) (.tmp 58) 66 rfl rfl rfl hrun6 ?_
              refine hK _ _ hf7 ?_
              clear hK K
              simp only [Act.put, List.setIfInBounds_toArray, List.set_cons_zero, List.set_cons_succ]
              repeat (refine wpT_take (v := ?_) rfl rfl (fun x hx => ?_) ?_; rotate_left; (focus (go_simp; with_reducible rfl)); simp only [Act.put, List.setIfInBounds_toArray, List.set_cons_zero, List.set_cons_succ])
              have Hfo : Hid (Fr w w6 (fun _ => False)) := (Hwa.out.none HfW.out).none ((hf6.trans hf7 (fun _ _ h => h)).old (Nat.le_refl _))
              have Ho6 : Hid (OwnE w6 v6 (es.take k ++ (e1, e2) :: es.drop k)) := by rw [List.append_assoc] at ho6; exact ho6
              have Hn6 : Hid _ := hn6
              clear hf4 hf5 hf6 hf7 hfl ho4 ho5 ho6 hn4 hn5 hn6 hrun4 hrun5 hrun6 hlit
              unfold wpT
              go_wp2
              go_ret2
              exact ⟨⟨_, rfl, Ho6.out.rd, fun k hk => Nat.le_trans Hsz.out (Hn6.out k hk)⟩, Hfo.out⟩
    -- goes
  | true =>
    cases ad with
    | true =>
      have Hres : Hid (turnF es (e1, e2) true = none) := by show _ = _; unfold turnF; rw [if_pos (.inr HD.out)]
      obtain rfl := HTF.out.trans Hres.out
      go_wp2
      go_ret2
      exact ⟨⟨_, rfl, RdE.nil _, fun k hk => by simp [Value.ownBlock] at hk⟩, Hw2.out⟩
    | false =>
      have hmem : (e1, e2) ∈ es := of_decide_eq_true HD.out.symm
      obtain ⟨k, hk⟩ : ∃ k, k = es.idxOf (e1, e2) := ⟨_, rfl⟩
      have hkn : k < n := by rw [hk, Hn.out]; exact List.idxOf_lt_length_of_mem hmem
      obtain rfl : F = (k : Int) := by rw [HF.out, hk]; unfold findF; rw [if_pos hmem]
      have Hres : Hid (turnF es (e1, e2) false = some (es.take k ++ es.drop (k + 1))) := by
        show _ = _
        unfold turnF
        rw [← HR.out, ← HD.out, if_neg (by simp), if_neg (by simp), hk]
      obtain rfl := HTF.out.trans Hres.out
      clear hk hmem
      obtain ⟨W, hW⟩ : ∃ W, W = x2.drew := ⟨_, rfl⟩
      have HfW : Hid (Fr wa W (fun _ => False)) := by rw [hW]; exact G2.out.drew
      obtain ⟨k1, hk1⟩ : ∃ k1, k1 = k + 1 := ⟨_, rfl⟩
      have wk : IntKind.i64.wrap ((k : Int) + 1) = (k1 : Int) := by rw [IntWalk.i64_in _ (by omega)]; omega
      have hkc : (k : Int) ≤ (c0 : Int) := by omega
      have hk0 : (0 : Int) ≤ (k : Int) := by omega
      have hk10 : (0 : Int) ≤ (k1 : Int) := by omega
      have hk1n : (k1 : Int) ≤ (n : Int) := by omega
      obtain ⟨A, hA⟩ : ∃ A, (if c0 = k1 then a0 else Option.map (fun x => x.add (k1 * 2)) a0) = A := ⟨_, rfl⟩
      have Hpre : Hid (RdE W (.slice a0 k c0) (es.take k)) := (Hr.out W HfW.out).take Hn.out.symm k (by omega)
      have Hpost : Hid (RdE W (.slice A (n - k1) (c0 - k1)) (es.drop (k + 1))) := by rw [← hA, ← hk1]; exact (Hr.out W HfW.out).drop Hn.out.symm k1 (by omega)
      have Hsz : Hid (w.heap.size ≤ W.heap.size) := (Hwa.out.none HfW.out).size
      have Hll : Hid ((es.take k).length + (es.drop (k + 1)).length ≤ 2000000) := by have := Hl.out; show _ ≤ _; rw [List.length_take, List.length_drop]; omega
      have Hk1 : Hid _ := hk1
      clear hk1
      go_wp2_with fail
      refine wp_region_tree (fun k => W.heap.size ≤ k) (.take 0 (.take 1 (.take 2 (.take 4 (.take 5 (.take 6 (.take 7 (.one 3 (.one 8 (.take 9 (.take 10 .nil))))))))))) (by kernel_rfl) (by kernel_rfl) (by decide) (by kernel_rfl) ?_
      rw [← hW]
      clear hW
      repeat (refine wpT_take (v := ?_) rfl rfl (fun x hx => ?_) ?_; rotate_left; (focus (go_simp; with_reducible rfl)); simp only [Act.put, List.setIfInBounds_toArray, List.set_cons_zero, List.set_cons_succ])
      obtain ⟨v4, w4, hrun4, ho4, hf4, hn4⟩ := app_edges_nil W (.slice a0 k c0) _ W.heap.size (Nat.le_refl _) Hpre.out (by have := Hll.out; omega)
      refine wpT_one rfl rfl (fun K hK => ?_)
      refine op_append_run (.const (.slice none 0 0)) (.tmp 26) 66 rfl rfl rfl hrun4 ?_
      refine hK _ _ hf4 ?_
      clear hK K
      simp only [Act.put, List.setIfInBounds_toArray, List.set_cons_zero, List.set_cons_succ]
      obtain ⟨v5, w5, hrun5, ho5, hf5, hn5⟩ := app_edges_new w4 v4 (.slice A (n - k1) (c0 - k1)) _ _ W.heap.size hf4.size ho4 hn4 (Hpost.out.keep (hf4.old (Nat.le_refl _))) (by have := Hll.out; omega)
      refine wpT_one rfl rfl (fun K hK => ?_)
      refine op_append_run (.tmp 27) (.tmp 31) 66 rfl rfl rfl hrun5 ?_
      refine hK _ _ hf5 ?_
      clear hK K
      simp only [Act.put, List.setIfInBounds_toArray, List.set_cons_zero, List.set_cons_succ]
      repeat (refine wpT_take (v := ?_) rfl rfl (fun x hx => ?_) ?_; rotate_left; (focus (go_simp; with_reducible rfl)); simp only [Act.put, List.setIfInBounds_toArray, List.set_cons_zero, List.set_cons_succ])
      have Hfo : Hid (Fr w w5 (fun _ => False)) := ((Hwa.out.none HfW.out).none (hf4.old (Nat.le_refl _))).newer hf5 (fun i hi => Nat.le_trans Hsz.out hi)
      have Ho5 : Hid (OwnE w5 v5 (es.take k ++ es.drop (k + 1))) := ho5
      have Hn5 : Hid _ := hn5
      clear hf4 hf5 ho4 ho5 hn4 hn5 hrun4 hrun5
      unfold wpT
      go_wp2
      go_ret2
      exact ⟨⟨_, rfl, Ho5.out.rd, fun k hk => Nat.le_trans Hsz.out (Hn5.out k hk)⟩, Hfo.out⟩

end Go.Proofs.YtnffjafddbbjaaaGreatDoor

/-
  The contract of the reference's Check of a history.
-/
namespace Go.Proofs.YtnffjafddbbjaaaGreatDoor
open Go.RowKit

/-- The event ahead of a place. -/
def prevAt (evs : List Ev) : Nat → Option Ev
  | 0 => none
  | i + 1 => evs[i]?
theorem drop_at {α : Type} {l : List α} {i : Nat} {a : α} (h : l[i]? = some a) : l.drop i = a :: l.drop (i + 1) := by
  obtain ⟨hi, he⟩ := List.getElem?_eq_some_iff.1 h
  rw [List.drop_eq_getElem_cons hi, he]
theorem chk_limit {n : Nat} {now : List Eg} {pv : Option Ev} {i : Nat} {x : Ev} {r : List Ev} (h : x.1 < 0 ∨ 4611686018427387903 < x.1) : chkF n now pv i (x :: r) = (i, 26) := by
  rw [chkF, if_pos h]
theorem chk_vertex {n : Nat} {now : List Eg} {pv : Option Ev} {i : Nat} {x : Ev} {r : List Ev} (h : ¬ (x.1 < 0 ∨ 4611686018427387903 < x.1)) (h1 : eRight x.2.1.1 x.2.1.2 n = false) : chkF n now pv i (x :: r) = (i, 24) := by
  rw [chkF, if_neg h, if_pos h1]
theorem chk_order {n : Nat} {now : List Eg} {pv : Option Ev} {i : Nat} {x : Ev} {r : List Ev} (h : ¬ (x.1 < 0 ∨ 4611686018427387903 < x.1)) (h1 : eRight x.2.1.1 x.2.1.2 n = true) (h2 : (pv.any fun p => !eBef p x) = true) : chkF n now pv i (x :: r) = (i, 23) := by
  rw [chkF, if_neg h, if_neg (by rw [h1]; simp), if_pos h2]
theorem chk_edge {n : Nat} {now : List Eg} {pv : Option Ev} {i : Nat} {x : Ev} {r : List Ev} (h : ¬ (x.1 < 0 ∨ 4611686018427387903 < x.1)) (h1 : eRight x.2.1.1 x.2.1.2 n = true) (h2 : (pv.any fun p => !eBef p x) = false) (h3 : turnF now x.2.1 x.2.2 = none) : chkF n now pv i (x :: r) = (i, 25) := by
  rw [chkF, if_neg h, if_neg (by rw [h1]; simp), if_neg (by rw [h2]; simp), h3]
theorem chk_step {n : Nat} {now now' : List Eg} {pv : Option Ev} {i : Nat} {x : Ev} {r : List Ev} (h : ¬ (x.1 < 0 ∨ 4611686018427387903 < x.1)) (h1 : eRight x.2.1.1 x.2.1.2 n = true) (h2 : (pv.any fun p => !eBef p x) = false) (h3 : turnF now x.2.1 x.2.2 = some now') : chkF n now pv i (x :: r) = chkF n now' (some x) (i + 1) r := by
  rw [chkF, if_neg h, if_neg (by rw [h1]; simp), if_neg (by rw [h2]; simp), h3]
theorem checkF_small {n : Nat} {evs : List Ev} (h : evs.length ≤ 1000000) (hn : ¬ 4294967296 < n) : checkF n evs = chkF n [] none 0 evs := by
  unfold checkF
  rw [if_neg (by omega)]

set_option maxRecDepth 4000 in
set_option maxHeartbeats 1600000 in
theorem refCheck_any (n : Nat) (v : Value) (evs : List Ev) (w : World) (h : RdV w v evs) (hl : evs.length ≤ 1000000) (hfit : ∀ x ∈ evs, EvFit x) : Calls Tryz.prog 47 #[histV n v] w fun r w' => r = .returned (.tuple #[.int .i64 ((checkF n evs).1 : Int), .int .i64 ((checkF n evs).2 : Int)]) ∧ Fr w w' (fun _ => False) := by
  obtain ⟨a0, c0, rfl, hc0⟩ := h.form
  obtain ⟨m, hm⟩ : ∃ m, m = evs.length := ⟨_, rfl⟩
  rw [← hm] at h hl hc0 ⊢
  obtain ⟨⟨R1, R2⟩, hR⟩ : ∃ R, R = checkF n evs := ⟨_, rfl⟩
  rw [← hR]
  have HR : Hid _ := hR
  have Hr : Hid (RdV w (.slice a0 m c0) evs) := h
  have Hm : Hid _ := hm
  have Hl : Hid (evs.length ≤ 1000000) := by show _ ≤ _; omega
  have Hfit : Hid _ := hfit
  clear h hm hR hfit
  unfold histV
  dsimp only
  by_cases hn : 4294967296 < n
  · have d1 : decide ((4294967296 : Int) < (n : Int)) = true := decide_eq_true (by omega)
    have d1' : decide (4294967296 < n) = true := decide_eq_true hn
    have Hres : Hid ((R1, R2) = (0, 26)) := by show _ = _; rw [HR.out]; unfold checkF; exact if_pos (.inl hn)
    go_enter Tryz.func47, Tryz.ntmps47
    go_wp2
    go_ret2
    simp only [Prod.mk.injEq] at Hres
    obtain ⟨rfl, rfl⟩ := Hres.out
    exact ⟨rfl, (Fr.refl w _).alloc _⟩
  have d1 : decide ((4294967296 : Int) < (n : Int)) = false := decide_eq_false (by omega)
  have d1' : decide (4294967296 < n) = false := decide_eq_false hn
  have d2 : decide ((2147483648 : Int) < (m : Int)) = false := decide_eq_false (by omega)
  have d2' : decide (2147483648 < m) = false := decide_eq_false (by omega)
  have Hst : Hid (chkF n [] none 0 evs = (R1, R2)) := by show _ = _; rw [HR.out, checkF_small Hl.out hn]
  clear hn HR
  go_enter Tryz.func47, Tryz.ntmps47
  go_wp2_with fail
  obtain ⟨p, hp⟩ : ∃ p, p = w.heap.size := ⟨_, rfl⟩
  obtain ⟨wa, hwa⟩ : ∃ wa, wa = w.alloc (.cells #[.int .u64 (n : Int), .slice a0 m c0] 25) := ⟨_, rfl⟩
  rw [← hwa, ← hp]
  have Hpb : Hid (∀ z, Fr wa z (fun _ => False) → z.heap[p]? = some (.cells #[.int .u64 (n : Int), .slice a0 m c0] 25 (0, 0))) := fun z hz => hz.kept (by rw [hwa, hp]; exact heap_alloc_new _ _) (fun h => h)
  have Hwa : Hid (Fr w wa (fun _ => False)) := by show Fr _ _ _; rw [hwa]; exact (Fr.refl _ _).alloc _
  have Hr : Hid (∀ z, Fr wa z (fun _ => False) → RdV z (.slice a0 m c0) evs) := fun z hz => Hr.out.keep (Hwa.out.none hz)
  clear hp hwa
  go_loopg [4, 5] m (fun g S I wr => ∃ (i : Nat) (now : List Eg), g = m - i ∧ i ≤ m ∧ I = .int .i64 (i : Int) ∧ RdE wr S now ∧ now.length ≤ i ∧ chkF n now (prevAt evs i) i (evs.drop i) = (R1, R2) ∧ Fr wa wr (fun _ => False))
  case atStart => exact ⟨0, [], by omega, by omega, rfl, RdE.nil _, by simp, Hst.out, Fr.refl _ _⟩
  case round =>
    obtain ⟨i, now, hg, hi, rfl, hnow, hnl, hst, hf⟩ := hrel
    have Hg : Hid _ := hg
    have Hnow : Hid _ := hnow
    have Hnl : Hid _ := hnl
    have Hs : Hid _ := hst
    have Hf : Hid (Fr wa wr (fun _ => False)) := hf
    clear hg hnow hnl hst hf
    obtain ⟨ca, cb⟩ : wr.cell? ⟨p, 0, none⟩ = some (.int .u64 (n : Int)) ∧ wr.cell? ⟨p, 1, none⟩ = some (.slice a0 m c0) := ⟨two_cell0 (Hpb.out wr Hf.out), two_cell1 (Hpb.out wr Hf.out)⟩
    by_cases hlt : i < m
    · have hin : (i : Int) < (m : Int) := by omega
      have hin' : decide (i < m) = true := decide_eq_true hlt
      obtain ⟨⟨t, ⟨e1, e2⟩, ad⟩, ha⟩ : ∃ a, evs[i]? = some a := ⟨_, List.getElem?_eq_getElem (by rw [← Hm.out]; omega)⟩
      have Ha : Hid _ := ha
      have Hx : Hid (EvFit (t, (e1, e2), ad)) := Hfit.out _ (List.mem_of_getElem? ha)
      have Hst : Hid (chkF n now (prevAt evs i) i ((t, (e1, e2), ad) :: evs.drop (i + 1)) = (R1, R2)) := by
        show _ = _
        rw [← Hs.out]
        rw [drop_at ha]
      obtain ⟨bk, off, cap, e3, hbk, hca⟩ := (Hr.out wa (Fr.refl _ _)).get i _ ha
      simp only [Value.slice.injEq] at e3
      obtain ⟨rfl, -, rfl⟩ := e3
      obtain ⟨k0, k1, k2, k3⟩ := hca wr (Hf.out.mono (fun _ _ h => h.elim))
      have hi0 : (0 : Int) ≤ (i : Int) := by omega
      clear hca ha hbk Hs
      go_upto_region 8 with fail
      obtain ⟨pe, hpe⟩ : ∃ p, p = wr.heap.size := ⟨_, rfl⟩
      obtain ⟨wE, hwE⟩ : ∃ x, x = wr.alloc (.cells #[.int .i64 t, .int .u32 (e1 : Int), .int .u32 (e2 : Int), .bool ad] 60) := ⟨_, rfl⟩
      rw [← hwE, ← hpe]
      have Hpe : Hid (∀ z, Fr wE z (fun _ => False) → z.heap[pe]? = some (.cells #[.int .i64 t, .int .u32 (e1 : Int), .int .u32 (e2 : Int), .bool ad] 60 (0, 0))) := fun z hz => hz.kept (by rw [hwE, hpe]; exact heap_alloc_new _ _) (fun h => h)
      have HfE : Hid (Fr wa wE (fun _ => False)) := by show Fr _ _ _; rw [hwE]; exact Hf.out.alloc _
      have HrE : Hid (Fr wr wE (fun _ => False)) := by show Fr _ _ _; rw [hwE]; exact (Fr.refl _ _).alloc _
      have Hnow : Hid (∀ z, Fr wE z (fun _ => False) → RdE z u4 now) := fun z hz => Hnow.out.keep (HrE.out.none hz)
      clear k0 k1 k2 k3 ca cb hwE hpe
      obtain ⟨k0, k1, k2, k3⟩ := four_cells (Hpe.out wE (Fr.refl _ _))
      obtain ⟨ca, cb⟩ : wE.cell? ⟨p, 0, none⟩ = some (.int .u64 (n : Int)) ∧ wE.cell? ⟨p, 1, none⟩ = some (.slice (some ⟨bk, off, none⟩) m c0) := ⟨two_cell0 (Hpb.out wE HfE.out), two_cell1 (Hpb.out wE HfE.out)⟩
      by_cases ht : t < 0
      · have d3 : decide (t < 0) = true := decide_eq_true ht
        have Hres : Hid ((R1, R2) = (i, 26)) := by show _ = _; rw [← Hst.out]; exact chk_limit (.inl ht)
        have Hfo : Hid (Fr w wE (fun _ => False)) := Hwa.out.none HfE.out
        clear ht
        go_wp2
        go_ret2
        simp only [Prod.mk.injEq] at Hres
        obtain ⟨rfl, rfl⟩ := Hres.out
        exact ⟨rfl, Hfo.out⟩
      have d3 : decide (t < 0) = false := decide_eq_false ht
      by_cases ht2 : 4611686018427387903 < t
      · have d4 : decide (4611686018427387903 < t) = true := decide_eq_true ht2
        have Hres : Hid ((R1, R2) = (i, 26)) := by show _ = _; rw [← Hst.out]; exact chk_limit (.inr ht2)
        have Hfo : Hid (Fr w wE (fun _ => False)) := Hwa.out.none HfE.out
        clear ht ht2
        go_wp2
        go_ret2
        simp only [Prod.mk.injEq] at Hres
        obtain ⟨rfl, rfl⟩ := Hres.out
        exact ⟨rfl, Hfo.out⟩
      have d4 : decide (4611686018427387903 < t) = false := decide_eq_false ht2
      have Hlim : Hid (¬ (t < 0 ∨ 4611686018427387903 < t)) := by show ¬ _; omega
      obtain ⟨B1, hB1⟩ : ∃ B, B = eRight e1 e2 n := ⟨_, rfl⟩
      have HB1 : Hid _ := hB1
      clear ht ht2 hB1
      go_wp2_with fail
      refine (refRight8_any e1 e2 n _ Hx.out.2.2).mono ?_
      rw [← HB1.out]
      rintro r x1 ⟨rfl, g⟩
      have G1 : Hid (Fr wE x1 (fun _ => False)) := g
      clear g k0 k1 k2 k3 ca cb
      cases B1 with
      | false =>
        have Hres : Hid ((R1, R2) = (i, 24)) := by show _ = _; rw [← Hst.out]; exact chk_vertex Hlim.out HB1.out.symm
        have Hfo : Hid (Fr w x1 (fun _ => False)) := (Hwa.out.none HfE.out).none G1.out
        go_wp2
        go_ret2
        simp only [Prod.mk.injEq] at Hres
        obtain ⟨rfl, rfl⟩ := Hres.out
        exact ⟨rfl, Hfo.out⟩
      | true =>
      obtain ⟨B2, hB2⟩ : ∃ B, B = ((prevAt evs i).any fun p => !eBef p (t, (e1, e2), ad)) := ⟨_, rfl⟩
      have HB2 : Hid _ := hB2
      clear hB2
      go_upto_region 12 with fail
      go_cut [48] from 49 to 61 (fun V wx => V = .bool B2 ∧ Fr x1 wx (fun _ => False))
      case first =>
        by_cases h0 : i = 0
        · subst h0
          have HB3 : Hid (B2 = false) := by show _ = _; rw [HB2.out]; rfl
          obtain rfl := HB3.out
          go_wp2_with fail
          refine wp_region_tree (fun _ => False) (.take 0 (.take 1 (.take 2 (.take 3 (.take 4 (.take 5 (.take 6 (.take 7 (.take 8 (.take 9 (.one 10 (.take 11 (.take 12 (.take 13 .nil)))))))))))))) (by kernel_rfl) (by kernel_rfl) (by decide) (by kernel_rfl) ?_
          iterate 3 (refine wpT_take (v := ?_) rfl rfl (fun x hx => ?_) ?_; rotate_left; (focus (go_simp; with_reducible rfl)); simp only [Act.put, List.setIfInBounds_toArray, List.set_cons_zero, List.set_cons_succ])
          iterate 7 (refine wpT_pass rfl rfl ?_; simp only [Act.put, List.setIfInBounds_toArray, List.set_cons_zero, List.set_cons_succ])
          refine wpT_skip rfl rfl ?_
          simp only [Act.put, List.setIfInBounds_toArray, List.set_cons_zero, List.set_cons_succ]
          (refine wpT_pass rfl rfl ?_; simp only [Act.put, List.setIfInBounds_toArray, List.set_cons_zero, List.set_cons_succ])
          repeat (refine wpT_take (v := ?_) rfl rfl (fun x hx => ?_) ?_; rotate_left; (focus (go_simp; with_reducible rfl)); simp only [Act.put, List.setIfInBounds_toArray, List.set_cons_zero, List.set_cons_succ])
          have G3 : Hid (Fr x1 x1.drew (fun _ => False)) := (Fr.refl x1 (fun _ => False)).drew
          unfold wpT
          go_wp2_with fail
          go_meet
          case rel => exact ⟨rfl, G3.out⟩
        · obtain ⟨i1, hie⟩ : ∃ j, i = j + 1 := ⟨i - 1, by omega⟩
          obtain ⟨⟨t', ⟨f1, f2⟩, ad'⟩, ha'⟩ : ∃ a, evs[i1]? = some a := ⟨_, List.getElem?_eq_getElem (by rw [← Hm.out]; omega)⟩
          have HB3 : Hid (eBefore t' t (f1, f2) (e1, e2) = !B2) := by
            show _ = _
            rw [HB2.out, hie]
            show _ = !((evs[i1]?).any fun p => !eBef p (t, (e1, e2), ad))
            rw [ha']
            simp [eBef]
          obtain ⟨bk', off', cap', e4, hbk, hca⟩ := (Hr.out wa (Fr.refl _ _)).get i1 _ ha'
          simp only [Value.slice.injEq, Option.some.injEq, Addr.mk.injEq] at e4
          obtain ⟨⟨rfl, rfl, -⟩, -, rfl⟩ := e4
          have hG : Fr wa x1.drew (fun _ => False) := (HfE.out.none G1.out).drew
          have HG : Hid _ := hG
          have ka : ∀ z, Fr x1.drew z (fun _ => False) → z.cell? ⟨bk, off + i1 * 4, none⟩ = some (.int .i64 t') := fun z hz => (hca z ((HG.out.none hz).mono (fun _ _ h => h.elim))).1
          have kb : ∀ z, Fr x1.drew z (fun _ => False) → z.cell? ⟨bk, off + i1 * 4 + 1, none⟩ = some (.int .u32 (f1 : Int)) := fun z hz => (hca z ((HG.out.none hz).mono (fun _ _ h => h.elim))).2.1
          have kc : ∀ z, Fr x1.drew z (fun _ => False) → z.cell? ⟨bk, off + i1 * 4 + 2, none⟩ = some (.int .u32 (f2 : Int)) := fun z hz => (hca z ((HG.out.none hz).mono (fun _ _ h => h.elim))).2.2.1
          have kd : ∀ z, Fr x1.drew z (fun _ => False) → z.cell? ⟨bk, off + i1 * 4 + 3, none⟩ = some (.bool ad') := fun z hz => (hca z ((HG.out.none hz).mono (fun _ _ h => h.elim))).2.2.2
          have ke : ∀ z, Fr x1.drew z (fun _ => False) → z.cell? ⟨pe, 0, none⟩ = some (.int .i64 t) := fun z hz => (four_cells (Hpe.out z (G1.out.drew.none hz))).1
          have kf : ∀ z, Fr x1.drew z (fun _ => False) → z.cell? ⟨pe, 1, none⟩ = some (.int .u32 (e1 : Int)) := fun z hz => (four_cells (Hpe.out z (G1.out.drew.none hz))).2.1
          have kg : ∀ z, Fr x1.drew z (fun _ => False) → z.cell? ⟨pe, 2, none⟩ = some (.int .u32 (e2 : Int)) := fun z hz => (four_cells (Hpe.out z (G1.out.drew.none hz))).2.2.1
          have kh : ∀ z, Fr x1.drew z (fun _ => False) → z.cell? ⟨pe, 3, none⟩ = some (.bool ad) := fun z hz => (four_cells (Hpe.out z (G1.out.drew.none hz))).2.2.2
          have kp : ∀ z, Fr x1.drew z (fun _ => False) → z.cell? ⟨p, 1, none⟩ = some (.slice (some ⟨bk, off, none⟩) m c0) := fun z hz => two_cell1 (Hpb.out z (HG.out.none hz))
          have hpos : decide ((0 : Int) < (i : Int)) = true := decide_eq_true (by omega)
          have hsub : IntKind.i64.wrap ((i : Int) - 1) = (i1 : Int) := by rw [IntWalk.i64_in _ (by omega)]; omega
          have hpos' : decide (0 < i) = true := decide_eq_true (by omega)
          have hi1 : (i1 : Int) < (m : Int) := by omega
          have hi10 : (0 : Int) ≤ (i1 : Int) := by omega
          clear hca hbk hG ha' hie
          go_wp2_with fail
          refine wp_region_tree (fun _ => False) (.take 0 (.take 1 (.take 2 (.take 3 (.take 4 (.take 5 (.take 6 (.take 7 (.take 8 (.take 9 (.one 10 (.take 11 (.take 12 (.take 13 .nil)))))))))))))) (by kernel_rfl) (by kernel_rfl) (by decide) (by kernel_rfl) ?_
          repeat (refine wpT_take (v := ?_) rfl rfl (fun x hx => ?_) ?_; rotate_left; (focus (go_simp; with_reducible rfl)); simp only [Act.put, List.setIfInBounds_toArray, List.set_cons_zero, List.set_cons_succ])
          refine wpT_one rfl rfl (fun K hK => ?_)
          go_simp
          refine (refBefore8_any t' t (f1, f2) (e1, e2) ad' ad _).mono ?_
          rw [HB3.out]
          rintro r x3 ⟨rfl, g⟩
          refine hK _ _ g ?_
          clear hK K ka kb kc kd ke kf kg kh kp
          have G3 : Hid (Fr x1 x3 (fun _ => False)) := (Fr.refl x1 (fun _ => False)).drew.none g
          have hbb : (!(!B2)) = B2 := by simp
          clear g
          repeat (refine wpT_take (v := ?_) rfl rfl (fun x hx => ?_) ?_; rotate_left; (focus (go_simp; with_reducible rfl)); simp only [Act.put, List.setIfInBounds_toArray, List.set_cons_zero, List.set_cons_succ])
          unfold wpT
          go_wp2_with fail
          go_meet
          case rel => exact ⟨by first | rfl | rw [hbb], G3.out⟩
      case rest =>
        obtain ⟨rfl, hfc⟩ := hcut
        rename_i hKc
        refine hKc _ _ ?_
        clear hKc
        have G4 : Hid (Fr wE wc (fun _ => False)) := G1.out.none hfc
        clear hfc
        cases B2 with
        | true =>
          have Hres : Hid ((R1, R2) = (i, 23)) := by show _ = _; rw [← Hst.out]; exact chk_order Hlim.out HB1.out.symm HB2.out.symm
          have Hfo : Hid (Fr w wc (fun _ => False)) := (Hwa.out.none HfE.out).none G4.out
          go_wp2
          go_ret2
          simp only [Prod.mk.injEq] at Hres
          obtain ⟨rfl, rfl⟩ := Hres.out
          exact ⟨rfl, Hfo.out⟩
        | false =>
        obtain ⟨TF, hTF⟩ : ∃ T, T = turnF now (e1, e2) ad := ⟨_, rfl⟩
        have HTF : Hid _ := hTF
        clear hTF
        obtain ⟨k0, k1, k2, k3⟩ := four_cells (Hpe.out wc G4.out)
        go_wp2_with fail
        refine (refTurn_any u4 now (t, (e1, e2), ad) _ (Hnow.out wc G4.out) (by have := Hnl.out; omega)).mono ?_
        rw [show turnF now (t, (e1, e2), ad).2.1 (t, (e1, e2), ad).2.2 = TF from HTF.out.symm]
        rintro r x5 ⟨⟨v5, rfl, hr5, -⟩, g⟩
        have G5 : Hid (Fr wa x5 (fun _ => False)) := (HfE.out.none G4.out).none g
        have Hr5 : Hid _ := hr5
        clear hr5 g k0 k1 k2 k3
        cases TF with
        | none =>
          have Hres : Hid ((R1, R2) = (i, 25)) := by show _ = _; rw [← Hst.out]; exact chk_edge Hlim.out HB1.out.symm HB2.out.symm HTF.out.symm
          have Hfo : Hid (Fr w x5 (fun _ => False)) := Hwa.out.none G5.out
          go_wp2
          go_ret2
          simp only [Prod.mk.injEq] at Hres
          obtain ⟨rfl, rfl⟩ := Hres.out
          exact ⟨rfl, Hfo.out⟩
        | some now' =>
          have Hlen : Hid (now'.length ≤ i + 1) := by
            have h1 := turn_length HTF.out.symm
            have h2 := Hnl.out
            show _ ≤ _
            omega
          have Hst5 : Hid (chkF n now' (prevAt evs (i + 1)) (i + 1) (evs.drop (i + 1)) = (R1, R2)) := by
            show _ = _
            rw [show prevAt evs (i + 1) = some (t, (e1, e2), ad) from Ha.out, ← Hst.out]
            exact (chk_step Hlim.out HB1.out.symm HB2.out.symm HTF.out.symm).symm
          go_wp2_with fail
          go_roundg (m - (i + 1))
          case rel => exact ⟨i + 1, now', rfl, by omega, by go_num, Hr5.out, Hlen.out, Hst5.out, G5.out⟩
          case measure => rw [Hg.out]; omega
    · have hin : ¬ (i : Int) < (m : Int) := by omega
      have hin' : decide (i < m) = false := decide_eq_false hlt
      have Hres : Hid ((R1, R2) = (0, 0)) := by
        show _ = _
        rw [← Hs.out, List.drop_eq_nil_of_le (by rw [← Hm.out]; omega), chkF]
      have Hfo : Hid (Fr w wr (fun _ => False)) := Hwa.out.none Hf.out
      go_wp2
      go_ret2
      simp only [Prod.mk.injEq] at Hres
      obtain ⟨rfl, rfl⟩ := Hres.out
      exact ⟨rfl, Hfo.out⟩

end Go.Proofs.YtnffjafddbbjaaaGreatDoor

/-
  What is there behind so many events; at a time; how many edges a vertex has: plain mathematics.
-/
namespace Go.Proofs.YtnffjafddbbjaaaGreatDoor
open Go.RowKit

/-- What is there behind so many events; at a time; how many edges a vertex has. -/
def afterF (n : Nat) (evs : List Ev) (k : Int) : List Eg × Nat := if (checkF n evs).2 = 0 then (aftF [] (evs.take k.toNat), 0) else ([], (checkF n evs).2)
def atF (n : Nat) (evs : List Ev) (t : Int) : List Eg × Nat := afterF n evs ((uptoF evs t : Nat) : Int)
def hasV (v : Nat) (e : Eg) : Bool := decide (e.1 = v ∨ e.2 = v)
def degF (l : List Eg) (v : Nat) : Nat := (l.filter (hasV v)).length

end Go.Proofs.YtnffjafddbbjaaaGreatDoor

/-
  Events that may be: what becomes of the graph; plain mathematics.
-/
namespace Go.Proofs.YtnffjafddbbjaaaGreatDoor
open Go.RowKit

/-- Events that may be, from a graph on. -/
def Good (n : Nat) : List Eg → List Ev → Prop
  | _, [] => True
  | now, x :: r => (0 ≤ x.1 ∧ x.1 ≤ 4611686018427387903 ∧ eRight x.2.1.1 x.2.1.2 n = true) ∧ ∃ now', turnF now x.2.1 x.2.2 = some now' ∧ Good n now' r
theorem good_of (n : Nat) : ∀ (evs : List Ev) (now : List Eg) (pv : Option Ev) (i : Nat), (chkF n now pv i evs).2 = 0 → Good n now evs ∧ Srt evs ∧ (∀ p, pv = some p → ∀ x ∈ evs, eBef p x = true)
  | [], now, pv, i, _ => ⟨trivial, List.Pairwise.nil, fun _ _ x hx => by cases hx⟩
  | x :: r, now, pv, i, h => by
    rw [chkF] at h
    split at h
    · simp at h
    · rename_i h1
      split at h
      · simp at h
      · rename_i h2
        split at h
        · simp at h
        · rename_i h3
          split at h
          · simp at h
          · rename_i now' h4
            obtain ⟨g1, g2, g3⟩ := good_of n r now' (some x) (i + 1) h
            have hs : Srt (x :: r) := List.pairwise_cons.2 ⟨g3 x rfl, g2⟩
            refine ⟨⟨⟨by omega, by omega, by simpa using h2⟩, now', h4, g1⟩, hs, fun p hp y hy => ?_⟩
            subst hp
            have hpx : eBef p x = true := by simpa using h3
            rcases List.mem_cons.1 hy with rfl | hy
            · exact hpx
            · exact eBef_trans hpx (g3 x rfl y hy)
theorem good_check {n : Nat} {evs : List Ev} (h : (checkF n evs).2 = 0) : n ≤ 4294967296 ∧ evs.length ≤ 2147483648 ∧ Good n [] evs ∧ Srt evs := by
  unfold checkF at h
  split at h
  · cases h
  · rename_i h1
    obtain ⟨g1, g2, -⟩ := good_of n evs [] none 0 h
    exact ⟨by omega, by omega, g1, g2⟩

theorem good_times {n : Nat} : ∀ {evs : List Ev} {now : List Eg}, Good n now evs → ∀ x ∈ evs, 0 ≤ x.1 ∧ x.1 ≤ 4611686018427387903 ∧ eRight x.2.1.1 x.2.1.2 n = true
  | [], _, _, x, hx => by cases hx
  | y :: r, now, h, x, hx => by
    obtain ⟨h1, now', -, h2⟩ := h
    rcases List.mem_cons.1 hx with rfl | hx
    · exact h1
    · exact good_times h2 x hx
theorem turn_add {l l' : List Eg} {e : Eg} {add : Bool} (h : turnF l e add = some l') : eRising l = true ∧ add = !decide (e ∈ l) := by
  unfold turnF at h
  split at h
  · cases h
  · rename_i hn
    refine ⟨?_, ?_⟩
    · cases hh : eRising l with
      | true => rfl
      | false => exact absurd (.inl hh) hn
    · by_cases hm : e ∈ l <;> cases add <;> simp_all
theorem turn_come {l l' : List Eg} {e : Eg} (h : turnF l e true = some l') : e ∉ l ∧ l'.Perm (e :: l) := by
  have h1 := (turn_add h).2
  have hm : e ∉ l := by simpa using h1
  refine ⟨hm, (List.perm_ext_iff_of_nodup (rising_nodup (turn_rising h)) (List.nodup_cons.2 ⟨hm, rising_nodup (turn_add h).1⟩)).2 (fun x => ?_)⟩
  rw [mem_turn h, List.mem_cons]
  constructor
  · rintro (⟨h2, h3⟩ | ⟨-, h2⟩)
    · exact .inr h2
    · exact .inl h2
  · rintro (h2 | h2)
    · exact .inr ⟨rfl, h2⟩
    · exact .inl ⟨h2, fun he => hm (he ▸ h2)⟩
theorem turn_go {l l' : List Eg} {e : Eg} (h : turnF l e false = some l') : e ∈ l ∧ e ∉ l' ∧ l.Perm (e :: l') := by
  have h1 := (turn_add h).2
  have hm : e ∈ l := by simpa using h1
  have hm' : e ∉ l' := fun h2 => by
    rw [mem_turn h] at h2
    rcases h2 with ⟨-, h3⟩ | ⟨h3, -⟩
    · exact h3 rfl
    · cases h3
  refine ⟨hm, hm', (List.perm_ext_iff_of_nodup (rising_nodup (turn_add h).1) (List.nodup_cons.2 ⟨hm', rising_nodup (turn_rising h)⟩)).2 (fun x => ?_)⟩
  rw [List.mem_cons, mem_turn h]
  constructor
  · intro h2
    by_cases hx : x = e
    · exact .inl hx
    · exact .inr (.inl ⟨h2, hx⟩)
  · rintro (h2 | ⟨h2, -⟩ | ⟨h2, -⟩)
    · exact h2 ▸ hm
    · exact h2
    · cases h2

theorem rising_ext {l m : List Eg} (hl : eRising l = true) (hm : eRising m = true) (h : ∀ x, x ∈ l ↔ x ∈ m) : l = m :=
  List.Perm.eq_of_pairwise (le := fun a b => eLess a b = true) (fun x y _ _ h k => by rw [eLess_asymm h] at k; cases k) (eRising_pw.1 hl) (eRising_pw.1 hm) ((List.perm_ext_iff_of_nodup (rising_nodup hl) (rising_nodup hm)).2 h)
theorem turn_there {l l' : List Eg} {e : Eg} {add : Bool} (h : turnF l e add = some l') : decide (e ∈ l') = add := by
  have hm := mem_turn h
  cases add with
  | true => exact decide_eq_true ((hm e).2 (.inr ⟨rfl, rfl⟩))
  | false => exact decide_eq_false (fun hh => by rcases (hm e).1 hh with ⟨-, h2⟩ | ⟨h2, -⟩ <;> simp at h2)
/-- A turn, turned back. -/
theorem turn_back {l l' : List Eg} {e : Eg} {add : Bool} (h : turnF l e add = some l') : turnF l' e (!add) = some l := by
  have hl := (turn_add h).1
  have hl' := turn_rising h
  have hm := mem_turn h
  have hin : decide (e ∈ l') = add := by
    cases add with
    | true => exact decide_eq_true ((hm e).2 (.inr ⟨rfl, rfl⟩))
    | false => exact decide_eq_false (fun hh => by rcases (hm e).1 hh with ⟨-, h2⟩ | ⟨h2, -⟩ <;> simp at h2)
  obtain ⟨l'', h2⟩ := turn_some (l := l') (e := e) (add := !add) hl' (by rw [hin])
  rw [h2]
  have h3 := mem_turn h2
  refine congrArg some (rising_ext (turn_rising h2) hl (fun x => ?_))
  have h4 := (turn_add h).2
  rw [h3, hm]
  by_cases hx : x = e
  · subst hx
    cases add <;> simp_all
  · simp [hx]
theorem aft_rising : ∀ (l : List Ev) (now : List Eg), eRising now = true → eRising (aftF now l) = true
  | [], _, h => h
  | x :: r, now, h => by
    rw [aftF]
    refine aft_rising r _ ?_
    cases ht : turnF now x.2.1 x.2.2 with
    | none => rfl
    | some now' => exact turn_rising ht
theorem aft_length : ∀ (l : List Ev) (now : List Eg), (aftF now l).length ≤ now.length + l.length
  | [], _ => by simp [aftF]
  | x :: r, now => by
    rw [aftF]
    have h1 := aft_length r ((turnF now x.2.1 x.2.2).getD [])
    have h2 : ((turnF now x.2.1 x.2.2).getD []).length ≤ now.length + 1 := by
      cases ht : turnF now x.2.1 x.2.2 with
      | none => simp
      | some now' => exact turn_length ht
    rw [List.length_cons]
    omega
theorem aft_mem : ∀ (l : List Ev) (now : List Eg) (e : Eg), e ∈ aftF now l → e ∈ now ∨ ∃ x ∈ l, x.2.1 = e
  | [], _, e, h => .inl h
  | x :: r, now, e, h => by
    rw [aftF] at h
    rcases aft_mem r _ e h with h1 | ⟨y, h1, h2⟩
    · cases ht : turnF now x.2.1 x.2.2 with
      | none => rw [ht] at h1; cases h1
      | some now' =>
        rw [ht, Option.getD_some] at h1
        rcases (mem_turn ht e).1 h1 with h2 | h2
        · exact .inl h2.1
        · exact .inr ⟨x, List.mem_cons_self .., h2.2.symm⟩
    · exact .inr ⟨y, List.mem_cons_of_mem _ h1, h2⟩
theorem after_err (n : Nat) (evs : List Ev) (k : Int) : (afterF n evs k).2 = (checkF n evs).2 := by
  unfold afterF
  split
  · rename_i h; exact h.symm
  · rfl
theorem at_err (n : Nat) (evs : List Ev) (t : Int) : (atF n evs t).2 = (checkF n evs).2 := after_err n evs _
theorem after_none {n : Nat} {evs : List Ev} {k : Int} (h : (checkF n evs).2 ≠ 0) : (afterF n evs k).1 = [] := by
  unfold afterF
  rw [if_neg h]
theorem after_length (n : Nat) (evs : List Ev) (k : Int) : (afterF n evs k).1.length ≤ evs.length := by
  unfold afterF
  split
  · dsimp only
    refine Nat.le_trans (aft_length _ _) ?_
    rw [List.length_nil, Nat.zero_add, List.length_take]
    exact Nat.min_le_right _ _
  · simp
theorem after_fit {n : Nat} {evs : List Ev} {k : Int} (hf : ∀ x ∈ evs, EvFit x) : ∀ e ∈ (afterF n evs k).1, EgFit e := by
  unfold afterF
  split
  · intro e he
    rcases aft_mem _ _ e he with h | ⟨x, h, rfl⟩
    · cases h
    · exact (hf x (List.mem_of_mem_take h)).2
  · intro e he
    cases he
theorem after_rising (n : Nat) (evs : List Ev) (k : Int) : eRising (afterF n evs k).1 = true := by
  unfold afterF
  split
  · exact aft_rising _ [] rfl
  · rfl
/-- What one event more makes. -/
theorem good_step {n : Nat} : ∀ {evs : List Ev} {now : List Eg} {i : Nat} {x : Ev}, Good n now evs → evs[i]? = some x → turnF (aftF now (evs.take i)) x.2.1 x.2.2 = some (aftF now (evs.take (i + 1)))
  | [], _, _, _, _, hx => by simp at hx
  | y :: r, now, 0, x, hg, hx => by
    obtain ⟨-, now', ht, -⟩ := hg
    simp only [List.getElem?_cons_zero, Option.some.injEq] at hx
    subst hx
    rw [List.take_zero, aftF, List.take_succ_cons, List.take_zero, aftF, aftF, ht, Option.getD_some]
  | y :: r, now, i + 1, x, hg, hx => by
    obtain ⟨-, now', ht, hg'⟩ := hg
    rw [List.take_succ_cons, aftF, ht, Option.getD_some, List.take_succ_cons, aftF, ht, Option.getD_some]
    exact good_step hg' (by simpa using hx)

end Go.Proofs.YtnffjafddbbjaaaGreatDoor

/-
  What an error of a history says of its beginnings, and of what is behind it. Plain mathematics.
-/
namespace Go.Proofs.YtnffjafddbbjaaaGreatDoor
open Go.RowKit

theorem chk_cases (n : Nat) (now : List Eg) (pv : Option Ev) (i : Nat) (x : Ev) : (∃ e, e ≠ 0 ∧ ∀ r, chkF n now pv i (x :: r) = (i, e)) ∨ (∃ now', ∀ r, chkF n now pv i (x :: r) = chkF n now' (some x) (i + 1) r) := by
  by_cases h : x.1 < 0 ∨ 4611686018427387903 < x.1
  · exact .inl ⟨26, by decide, fun r => chk_limit h⟩
  · cases h1 : eRight x.2.1.1 x.2.1.2 n with
    | false => exact .inl ⟨24, by decide, fun r => chk_vertex h h1⟩
    | true =>
      cases h2 : pv.any fun p => !eBef p x with
      | true => exact .inl ⟨23, by decide, fun r => chk_order h h1 h2⟩
      | false =>
        cases h3 : turnF now x.2.1 x.2.2 with
        | none => exact .inl ⟨25, by decide, fun r => chk_edge h h1 h2 h3⟩
        | some now' => exact .inr ⟨now', fun r => chk_step h h1 h2 h3⟩
theorem chk_take (n : Nat) : ∀ (l : List Ev) (now : List Eg) (pv : Option Ev) (i c : Nat), (chkF n now pv i l).2 = 0 → (chkF n now pv i (l.take c)).2 = 0
  | [], now, pv, i, c, _ => by rw [List.take_nil, chkF]
  | x :: l, now, pv, i, 0, _ => by rw [List.take_zero, chkF]
  | x :: l, now, pv, i, c + 1, h => by
    rw [List.take_succ_cons]
    rcases chk_cases n now pv i x with ⟨e, he, hr⟩ | ⟨now', hr⟩
    · rw [hr] at h
      exact absurd h he
    · rw [hr] at h ⊢
      exact chk_take n l now' _ _ c h
theorem chk_zero (n : Nat) : ∀ (l : List Ev) (now : List Eg) (pv : Option Ev) (i : Nat), (chkF n now pv i l).2 = 0 → (chkF n now pv i l).1 = 0
  | [], now, pv, i, _ => by rw [chkF]
  | x :: l, now, pv, i, h => by
    rcases chk_cases n now pv i x with ⟨e, he, hr⟩ | ⟨now', hr⟩
    · rw [hr] at h
      exact absurd h he
    · rw [hr] at h ⊢
      exact chk_zero n l now' _ _ h
theorem chk_append (n : Nat) (m : List Ev) : ∀ (l : List Ev) (now : List Eg) (pv : Option Ev) (i : Nat), (chkF n now pv i l).2 ≠ 0 → chkF n now pv i (l ++ m) = chkF n now pv i l
  | [], now, pv, i, h => by rw [chkF] at h; exact absurd rfl h
  | x :: l, now, pv, i, h => by
    rw [List.cons_append]
    rcases chk_cases n now pv i x with ⟨e, he, hr⟩ | ⟨now', hr⟩
    · rw [hr, hr]
    · rw [hr] at h
      rw [hr, hr]
      exact chk_append n m l now' _ _ h
theorem check_take {n : Nat} {l : List Ev} (c : Nat) (hl : l.length ≤ 1000000) (h : (checkF n l).2 = 0) : (checkF n (l.take c)).2 = 0 := by
  unfold checkF at h ⊢
  split at h
  · simp at h
  · rename_i hn
    rw [if_neg (by rw [List.length_take]; omega)]
    exact chk_take n l [] none 0 c h
theorem check_zero {n : Nat} {l : List Ev} (h : (checkF n l).2 = 0) : (checkF n l).1 = 0 := by
  unfold checkF at h ⊢
  split at h
  · simp at h
  · rename_i hn
    rw [if_neg hn]
    exact chk_zero n l [] none 0 h
theorem check_append {n : Nat} {l m : List Ev} (hl : l.length + m.length ≤ 1000000) (h : (checkF n l).2 ≠ 0) : checkF n (l ++ m) = checkF n l := by
  by_cases hn : 4294967296 < n
  · unfold checkF
    rw [if_pos (.inl hn), if_pos (.inl hn)]
  · have hs : checkF n l = chkF n [] none 0 l := checkF_small (by omega) hn
    have hs2 : checkF n (l ++ m) = chkF n [] none 0 (l ++ m) := checkF_small (by rw [List.length_append]; exact hl) hn
    rw [hs] at h ⊢
    rw [hs2]
    exact chk_append n m l [] none 0 h

end Go.Proofs.YtnffjafddbbjaaaGreatDoor

/-
  Texts of ours, joined: Mem QVar QTab Lex Tree TScanD TWordD Str TByteD TNumD ESkip TDec TNextD CHelp CNum CWord PTok.
-/
import Derived.WalkKit
import Derived.WalkSpells
import Derived.Deep.QuietTactic
import Derived.BigQuiet
import Derived.Deep.AppendLies
import Derived.ProofKit
import Derived.OpenShut
import Derived.Test.YtnffjafddbbjaaaGreatDoorRows
import Derived.LaidLaws
import Derived.LaidMore
import Derived.MakeChecks
import Derived.Lib.LaidTab
import Derived.Lib.ItoaMem
import Derived.Lib.ItoaNum
import Derived.Deep.RegionHeld3
import Derived.Deep.CutRange
import Derived.Deep.LoopGhost
import Derived.WalkLawsBesides

/-
  What a call may have touched: a frame by a set of blocks; and what the call's own rows keep. No program is named here.
-/
namespace Go.Proofs.YtnffjafddbbjaaaGreatDoor
open Go.RowKit

/-- Of the blocks that were there all but those of S are as they were. -/
structure Fr (w w' : World) (S : Nat → Prop) : Prop where
  os : w'.os = w.os
  tape : w'.tape = w.tape
  output : w'.output = w.output
  size : w.heap.size ≤ w'.heap.size
  block : ∀ k, k < w.heap.size → ¬ S k → w'.heap[k]? = w.heap[k]?

theorem Fr.refl (w : World) (S : Nat → Prop) : Fr w w S := ⟨rfl, rfl, rfl, Nat.le_refl _, fun _ _ _ => rfl⟩

theorem Fr.trans {a b c : World} {S T : Nat → Prop} (h : Fr a b S) (k : Fr b c T) (hT : ∀ i, i < a.heap.size → T i → S i) : Fr a c S :=
  ⟨k.os.trans h.os, k.tape.trans h.tape, k.output.trans h.output, Nat.le_trans h.size k.size,
    fun i hi hs => (k.block i (Nat.lt_of_lt_of_le hi h.size) (fun ht => hs (hT i hi ht))).trans (h.block i hi hs)⟩

theorem Fr.mono {a b : World} {S T : Nat → Prop} (h : Fr a b S) (hT : ∀ i, i < a.heap.size → S i → T i) : Fr a b T :=
  ⟨h.os, h.tape, h.output, h.size, fun i hi hs => h.block i hi (fun ht => hs (hT i hi ht))⟩

theorem Fr.alloc {a b : World} {S : Nat → Prop} (h : Fr a b S) (o : Obj) : Fr a (b.alloc o) S :=
  ⟨h.os, h.tape, h.output, by have := h.size; simp; omega, fun k hk hs => (Below.heap_alloc _ _ _ (by have := h.size; omega)).trans (h.block k hk hs)⟩

theorem Fr.drew {a b : World} {S : Nat → Prop} (h : Fr a b S) : Fr a b.drew S := ⟨h.os, h.tape, h.output, h.size, h.block⟩

theorem Fr.drewN {a b : World} {S : Nat → Prop} (h : Fr a b S) (n : Nat) : Fr a (b.drewN n) S := ⟨h.os, h.tape, h.output, h.size, h.block⟩

theorem Fr.setCell {a b : World} {S : Nat → Prop} (h : Fr a b S) (p : Addr) (hp : p.block < a.heap.size → S p.block) (u : Value) : Fr a (b.setCell p u) S :=
  ⟨h.os, h.tape, h.output, by have := h.size; simp [World.setCell]; omega, fun k hk hs => (Below.heap_setCell _ _ _ _ (fun e => by subst e; exact hs (hp hk))).trans (h.block k hk hs)⟩

theorem Fr.grown {a b c : World} {S : Nat → Prop} {row : Option Nat} (h : Fr a b S) (hg : b.grownBy c row) (hr : ∀ k, row = some k → k < a.heap.size → S k) : Fr a c S :=
  ⟨hg.os.trans h.os, hg.tape.trans h.tape, hg.output.trans h.output, Nat.le_trans h.size hg.size,
    fun k hk hs => (hg.block k (by have := h.size; omega) (fun e => hs (hr k e.symm hk))).trans (h.block k hk hs)⟩

theorem Fr.below {w w' : World} {S : Nat → Prop} (h : Fr w w' S) {B : Nat} (hB : B ≤ w.heap.size) (hS : ∀ k, S k → B ≤ k) : Below B w w' :=
  ⟨h.os, h.tape, h.output, h.size, fun k hk => h.block k (by omega) (fun hs => by have := hS k hs; omega)⟩

theorem Fr.of_below {w w' : World} (h : Below w.heap.size w w') (S : Nat → Prop) : Fr w w' S :=
  ⟨h.os, h.tape, h.output, h.size, fun k hk _ => h.block k hk⟩

theorem Fr.kept {w w' : World} {S : Nat → Prop} (h : Fr w w' S) {b : Nat} {o : Obj} (hb : w.heap[b]? = some o) (hs : ¬ S b) : w'.heap[b]? = some o :=
  (h.block b (lt_of_block hb) hs).trans hb

theorem Fr.owns {w w' : World} {S : Nat → Prop} (h : Fr w w' S) {base : Nat} {e : TypeId} {size : Nat} {v : Value} {n : Nat} {xs : List Value} (ho : w.ownsRow base e size v n xs)
    (hs : ∀ k, v.ownBlock = some k → ¬ S k) : w'.ownsRow base e size v n xs := by
  refine ⟨ho.1, ?_⟩
  rcases ho.2 with hn | ⟨g, cap, cur, rfl, hb, hgg, rest⟩
  · exact .inl hn
  · exact .inr ⟨g, cap, cur, rfl, hb, h.kept hgg (hs g rfl), rest⟩

/-- A block of two cells. -/
theorem two_cell0 {w : World} {b : Nat} {x y : Value} {t : TypeId} (h : w.heap[b]? = some (.cells #[x, y] t (0, 0))) : w.cell? ⟨b, 0, none⟩ = some x := by simp [World.cell?, h]
theorem two_cell1 {w : World} {b : Nat} {x y : Value} {t : TypeId} (h : w.heap[b]? = some (.cells #[x, y] t (0, 0))) : w.cell? ⟨b, 1, none⟩ = some y := by simp [World.cell?, h]
theorem two_free {w : World} {b : Nat} {x y : Value} {t : TypeId} (h : w.heap[b]? = some (.cells #[x, y] t (0, 0))) (j : Nat) : w.frozen? ⟨b, j, none⟩ = false := by simp [World.frozen?, h]
theorem two_set0 {w : World} {b : Nat} {x y u : Value} {t : TypeId} (h : w.heap[b]? = some (.cells #[x, y] t (0, 0))) : (w.setCell ⟨b, 0, none⟩ u).heap[b]? = some (.cells #[u, y] t (0, 0)) := by
  have := heap_setCell_same w b 0 #[x, y] t u h
  simpa using this
theorem two_set1 {w : World} {b : Nat} {x y u : Value} {t : TypeId} (h : w.heap[b]? = some (.cells #[x, y] t (0, 0))) : (w.setCell ⟨b, 1, none⟩ u).heap[b]? = some (.cells #[x, u] t (0, 0)) := by
  have := heap_setCell_same w b 1 #[x, y] t u h
  simpa using this
/-- A store into another block. -/
theorem blk_set_other {w : World} {b : Nat} {o : Obj} {a : Addr} {u : Value} (h : w.heap[b]? = some o) (hne : b ≠ a.block) : (w.setCell a u).heap[b]? = some o := by
  rw [Below.heap_setCell _ _ _ _ hne]; exact h
theorem blk_alloc {w : World} {b : Nat} {o : Obj} (x : Obj) (h : w.heap[b]? = some o) : (w.alloc x).heap[b]? = some o := by
  rw [Below.heap_alloc _ _ _ (lt_of_block h)]; exact h

/-- A row of numbers of one kind. -/
def row (k : IntKind) (bs : List Nat) : List Value := bs.map fun (b : Nat) => Value.int k (b : Int)
theorem length_row (k : IntKind) (bs : List Nat) : (row k bs).length = bs.length := by simp [row]
theorem row_get (k : IntKind) (bs : List Nat) (j : Nat) (h : j < bs.length) : (row k bs)[j]? = some (.int k ((bs.getD j 0 : Nat) : Int)) := by simp [row, h, List.getD]
theorem row_append (k : IntKind) (a b : List Nat) : row k (a ++ b) = row k a ++ row k b := by simp [row]
theorem row_set (k : IntKind) (a : List Nat) (j x : Nat) : row k (a.set j x) = (row k a).set j (.int k (x : Int)) := by simp [row, List.map_set]
theorem row_take (k : IntKind) (a : List Nat) (n : Nat) : row k (a.take n) = (row k a).take n := by simp [row, List.map_take]
theorem row_drop (k : IntKind) (a : List Nat) (n : Nat) : row k (a.drop n) = (row k a).drop n := by simp [row, List.map_drop]
theorem row_one (k : IntKind) (bs : List Nat) : ∀ u ∈ row k bs, u.oneCell' = true := by
  intro u hu
  simp only [row, List.mem_map] at hu
  obtain ⟨b, _, rfl⟩ := hu
  rfl

theorem add_none (b off j : Nat) : (⟨b, off, none⟩ : Addr).add j = ⟨b, off + j, none⟩ := by unfold Addr.add; split <;> simp_all

/-- A slice that can be read: the cells xs. -/
def Holds (w : World) (v : Value) (xs : List Value) : Prop :=
  ∃ ao cap, v = .slice ao xs.length cap ∧ xs.length ≤ cap ∧ (0 < xs.length → ∃ b off, ao = some ⟨b, off, none⟩ ∧ ∀ j u, xs[j]? = some u → w.cell? ⟨b, off + j, none⟩ = some u)
/-- A slice of numbers of one kind that can be read: bs. -/
def Reads (k : IntKind) (w : World) (v : Value) (bs : List Nat) : Prop := Holds w v (row k bs)

theorem Holds.frame' {w w' : World} {v : Value} {xs : List Value} {S : Nat → Prop} (h : Holds w v xs) (f : Fr w w' S) (hs : 0 < xs.length → ∀ k, v.ownBlock = some k → ¬ S k) : Holds w' v xs := by
  obtain ⟨ao, cap, rfl, hlc, hc⟩ := h
  refine ⟨ao, cap, rfl, hlc, fun hp => ?_⟩
  obtain ⟨b, off, rfl, hcell⟩ := hc hp
  refine ⟨b, off, rfl, fun j u hj => ?_⟩
  have h1 := hcell j u hj
  have h2 := World.block_lt_of_cell? _ _ h1
  rw [World.cell?_of_block (w := w) (f.block _ h2 (hs hp _ rfl))]
  exact h1
theorem Holds.frame {w w' : World} {v : Value} {xs : List Value} {S : Nat → Prop} (h : Holds w v xs) (f : Fr w w' S) (hs : ∀ k, v.ownBlock = some k → ¬ S k) : Holds w' v xs := h.frame' f (fun _ => hs)
theorem Holds.keep {w w' : World} {v : Value} {xs : List Value} (h : Holds w v xs) (f : Fr w w' (fun _ => False)) : Holds w' v xs := h.frame f (fun _ _ h => h)
theorem Reads.keep {k : IntKind} {w w' : World} {v : Value} {bs : List Nat} (h : Reads k w v bs) (f : Fr w w' (fun _ => False)) : Reads k w' v bs := Holds.keep h f
theorem Reads.frame {k : IntKind} {w w' : World} {v : Value} {bs : List Nat} {S : Nat → Prop} (h : Reads k w v bs) (f : Fr w w' S) (hs : ∀ k, v.ownBlock = some k → ¬ S k) : Reads k w' v bs := Holds.frame h f hs
theorem Reads.frame' {k : IntKind} {w w' : World} {v : Value} {bs : List Nat} {S : Nat → Prop} (h : Reads k w v bs) (f : Fr w w' S) (hs : 0 < bs.length → ∀ k, v.ownBlock = some k → ¬ S k) : Reads k w' v bs :=
  Holds.frame' h f (by rw [length_row]; exact hs)

theorem holds_own {w : World} {e : TypeId} {v : Value} {n : Nat} {xs : List Value} (h : w.ownsRow 0 e 1 v n xs) : Holds w v xs := by
  have hl : xs.length = n := by have := h.1; omega
  rcases h.2 with ⟨rfl, h0⟩ | ⟨g, cap, cur, rfl, _, _, hcc, _⟩
  · exact ⟨_, 0, by rw [hl, h0], by omega, fun hp => by omega⟩
  · exact ⟨some ⟨g, 0, _⟩, cap, by rw [hl], by omega, fun _ => ⟨g, 0, rfl, fun j u hj => by have := h.cells rfl j u hj; rwa [add_none] at this⟩⟩

/-- The first cells of a slice: what b[:n] is. -/
theorem Holds.take {w : World} {ao : Option Addr} {len cap : Nat} {xs : List Value} (h : Holds w (.slice ao len cap) xs) (n : Nat) (hn : n ≤ len) (cap' : Nat) (hcap : n ≤ cap') : Holds w (.slice ao n cap') (xs.take n) := by
  obtain ⟨ao', cap0, e, -, hc⟩ := h
  simp only [Value.slice.injEq] at e
  obtain ⟨rfl, rfl, rfl⟩ := e
  refine ⟨ao, cap', by rw [List.length_take, Nat.min_eq_left hn], by rw [List.length_take]; omega, fun hp => ?_⟩
  obtain ⟨b, off, rfl, hcell⟩ := hc (by rw [List.length_take] at hp; omega)
  refine ⟨b, off, rfl, fun j u hj => hcell j u ?_⟩
  rw [List.getElem?_take] at hj
  split at hj
  · exact hj
  · cases hj
/-- The cells of a slice from n on: what b[n:] is. -/
theorem Holds.drop {w : World} {b off len cap : Nat} {xs : List Value} (h : Holds w (.slice (some ⟨b, off, none⟩) len cap) xs) (n : Nat) (_hn : n ≤ len) (cap' : Nat) (hcap : len - n ≤ cap') : Holds w (.slice (some ⟨b, off + n, none⟩) (len - n) cap') (xs.drop n) := by
  obtain ⟨ao', cap0, e, -, hc⟩ := h
  simp only [Value.slice.injEq] at e
  obtain ⟨rfl, rfl, rfl⟩ := e
  refine ⟨some ⟨b, off + n, _⟩, cap', by rw [List.length_drop], by rw [List.length_drop]; exact hcap, fun hp => ⟨b, off + n, rfl, fun j u hj => ?_⟩⟩
  rw [List.length_drop] at hp
  obtain ⟨b', off', e, hcell⟩ := hc (by omega)
  simp only [Option.some.injEq, Addr.mk.injEq, and_true] at e
  obtain ⟨rfl, rfl⟩ := e
  rw [List.getElem?_drop] at hj
  rw [Nat.add_assoc]
  exact hcell _ u hj

/-- The slice is where it was, or in new memory. -/
def Moved (w : World) (sv sv' : Value) : Prop := ∀ k, sv'.ownBlock = some k → sv.ownBlock = some k ∨ w.heap.size ≤ k
theorem Moved.refl (w : World) (sv : Value) : Moved w sv sv := fun _ h => .inl h
theorem Moved.trans {w w1 : World} {a b c : Value} (h : Moved w a b) (h1 : Moved w1 b c) (hs : w.heap.size ≤ w1.heap.size) : Moved w a c := fun k hk => by
  rcases h1 k hk with h2 | h2
  · exact h k h2
  · exact .inr (by omega)
theorem Moved.mono' {w w1 : World} {a b : Value} (h : Moved w1 a b) (hs : w.heap.size ≤ w1.heap.size) : Moved w a b := fun k hk => by
  rcases h k hk with h2 | h2
  · exact .inl h2
  · exact .inr (by omega)
theorem Fr.none {a b c : World} {S : Nat → Prop} (h : Fr a b S) (k : Fr b c (fun _ => False)) : Fr a c S :=
  h.trans k (fun _ _ ht => ht.elim)
/-- Behind a step that touches a slice's own row alone. -/
theorem Fr.own {a b c : World} {sv sv' : Value} (h : Fr a b (fun k => sv.ownBlock = some k)) (k : Fr b c (fun k => sv'.ownBlock = some k)) (hm : Moved a sv sv') : Fr a c (fun k => sv.ownBlock = some k) :=
  h.trans k (fun i hi ht => by
    rcases hm i ht with h2 | h2
    · exact h2
    · omega)
/-- Behind a step that touches what is newer alone. -/
theorem Fr.newer {a b c : World} {S T : Nat → Prop} (h : Fr a b S) (k : Fr b c T) (hn : ∀ i, T i → a.heap.size ≤ i) : Fr a c S :=
  h.trans k (fun i hi ht => by have := hn i ht; omega)

/-- A slice that is written out. -/
theorem own_lit (w : World) (e : TypeId) (cs : List Value) (h : cs.length ≤ 1000) : (w.alloc (.cells cs.toArray e)).ownsRow 0 e 1 (.slice (some ⟨w.heap.size, 0, Option.none⟩) cs.length cs.length) cs.length cs := by
  have := World.ownsRow_lit (e := e) (size := 1) (base := 0) w cs.toArray cs.length (Nat.zero_le _) (by unfold maxLen; omega) (by simp)
  simpa using this
theorem holds_lit (w : World) (e : TypeId) (cs : List Value) (h : cs.length ≤ 1000) : Holds (w.alloc (.cells cs.toArray e)) (.slice (some ⟨w.heap.size, 0, Option.none⟩) cs.length cs.length) cs :=
  holds_own (own_lit w e cs h)
theorem row1_one (k : IntKind) (x : Int) : ∀ y ∈ [Value.int k x], y.oneCell' = true := by intro y hy; simp at hy; subst hy; rfl

/-- append onto a slice that the call owns, of a slice that can be read: what was there still reads as it did. -/
theorem run_append_holds {P : Program} (w : World) (t ty e : TypeId) (i : TypeInfo) (z : Value) (bytes : Nat) (ht : P.underlying t = some (.slice e)) (hi : P.info? e = some i) (hz : i.zero = some z)
    (hsize : i.size = 1) (hby : i.bytes = bytes) (hzs : z.cells.size = 1) (hb8 : bytes ≤ 1000) (v : Value) (n : Nat) (xs : List Value) (hown : w.ownsRow 0 e 1 v n xs) (u : Value) (ys : List Value) (hu : Holds w u ys)
    (h1 : ∀ y ∈ ys, y.oneCell' = true) (hb : n + ys.length ≤ 100000000000) :
    ∃ v' w', (Builtin.append_ #[t, t] ty #[v, u]).run P w = .ok v' w' ∧ w'.ownsRow 0 e 1 v' (n + ys.length) (xs ++ ys) ∧ Fr w w' (fun k => v.ownBlock = some k) ∧ Moved w v v' ∧ Holds w' v xs ∧ (∀ k, v'.ownBlock = some k → k < w'.heap.size) := by
  obtain ⟨ao, cap, rfl, hlc, hc⟩ := hu
  have hbb : (n + ys.length) * bytes ≤ 140737488355328 := by
    have := Nat.mul_le_mul hb hb8
    omega
  by_cases h0 : 0 < ys.length
  · obtain ⟨b, off, rfl, hcell⟩ := hc h0
    have hnews : ∀ j u, ys[j]? = some u → w.cell? ((⟨b, off, Option.none⟩ : Addr).add j) = some u := fun j u hj => by rw [add_none]; exact hcell j u hj
    obtain ⟨v', w', hr, ho, hg, _, hat⟩ := run_append_own_at (P := P) w 0 t ty e i z 1 bytes ht hi hz hsize hby hzs (by decide) v n xs hown ⟨b, off, Option.none⟩ ys.length cap ys (by omega) hnews h1 (by unfold maxLen; omega) hbb (Nat.zero_le _)
    refine ⟨v', w', hr, ho, (Fr.refl w _).grown hg (fun k hk _ => hk), fun k hk => ?_, ?_, fun k hk => (ho.lt k hk).2⟩
    · rcases hat with hat | hat
      · exact .inl (hat ▸ hk)
      · rw [hat] at hk; simp at hk; exact .inr (by omega)
    · have hxl : xs.length = n := by have := hown.1; omega
      rcases hown.2 with ⟨rfl, h0⟩ | ⟨g, cp, cur, rfl, hbg, hgg, hnc, hcm, hcs, htake⟩
      · exact ⟨Option.none, 0, by rw [hxl, h0], by omega, fun hp => by omega⟩
      · by_cases hroom : n + ys.length ≤ cp
        · have hr2 := run_append_room (P := P) w t ty e i ht hi g n cp cur hgg ⟨b, off, Option.none⟩ ys.length cap ys (by rw [hsize]; omega) hnews h1 hroom (by rw [hsize]; omega)
          rw [hr] at hr2
          simp only [Result.ok.injEq] at hr2
          obtain ⟨rfl, _⟩ := hr2
          refine ⟨some ⟨g, 0, Option.none⟩, cp, by rw [hxl], by omega, fun _ => ⟨g, 0, rfl, fun j u hj => ?_⟩⟩
          have := ho.cells (g := g) rfl j u (by rw [List.getElem?_append_left (List.getElem?_eq_some_iff.1 hj).1]; exact hj)
          rwa [add_none] at this
        · have hr2 := run_append_grow (P := P) w t ty e i z ht hi hz ⟨g, 0, Option.none⟩ n cp xs (by rw [hsize]; exact hown.1) (hown.cells rfl) ⟨b, off, Option.none⟩ ys.length cap ys (by rw [hsize]; omega) hnews (by omega) (by omega) (growslice_fits (by omega) (by rw [hby]; exact hbb))
          rw [hr] at hr2
          simp only [Result.ok.injEq] at hr2
          obtain ⟨_, rfl⟩ := hr2
          exact (holds_own hown).keep ((Fr.refl w (fun _ => False)).drew.alloc _)
  · have e0 : ys = [] := List.eq_nil_of_length_eq_zero (by omega)
    subst e0
    refine ⟨v, w, ?_, by simpa using hown, Fr.refl _ _, Moved.refl _ _, holds_own hown, fun k hk => (hown.lt k hk).2⟩
    cases ao with
    | none =>
      by_cases hc0 : cap = 0
      · subst hc0
        exact run_append_owned_none (P := P) w 0 t ty e i 1 ht hi v n xs hown
      · rcases hown.2 with ⟨rfl, rfl⟩ | ⟨g, cp, cur, rfl, _, _, hnc, _⟩
        · simp [Builtin.append_, run_underlying ht, sizeOf, typeInfo, hi, Builtin.lenOf, Builtin.firstCells]
        · simp [Builtin.append_, run_underlying ht, sizeOf, typeInfo, hi, Builtin.lenOf, Builtin.firstCells, hnc, storeCells]
    | some a =>
      rcases hown.2 with ⟨rfl, rfl⟩ | ⟨g, cp, cur, rfl, _, _, hnc, _⟩
      · simp [Builtin.append_, run_underlying ht, sizeOf, typeInfo, hi, Builtin.lenOf, Builtin.firstCells, loadCells, loadCellsFrom]
      · simp [Builtin.append_, run_underlying ht, sizeOf, typeInfo, hi, Builtin.lenOf, Builtin.firstCells, loadCells, loadCellsFrom, hnc, storeCells]

/-- append outside a region that draws, by its run. -/
theorem wpList_append_run {P : Program} {w : World} {ops : Array Oper} {rest : List Oper} {o : Oper} {a : Act} {Q : Exit → Act → World → Prop} (hgd : o.guard = none) (s x : Operand) (t : TypeId)
    (ho : o.op = .call { callee := .builtin .append, args := #[s, x], argTypes := #[t, t] }) {u v v' : Value} {w' : World} (hs : a.eval s = u) (hx : a.eval x = v)
    (hrun : (Builtin.append_ #[t, t] o.type #[u, v]).run P w = .ok v' w') (h : wpList P ops Q rest (a.put o.dst v') w') : wpList P ops Q (o :: rest) a w := by
  refine wpList_plain hgd fun K hK => ?_
  unfold Oper.wp execOp
  simp only [ho, resolve, invoke, builtin, Sem.run_bind, Sem.run_pure, Result.andThen_ok, List.map_toArray, List.map_cons, List.map_nil, hs, hx, hrun]
  exact hK _ _ h

/-- What is known of a slice of integers that came in. -/
def IsRow (k : IntKind) (w : World) (a : Option Addr) (len cap : Nat) (zs : List Int) : Prop :=
  (a = none ∧ len = 0 ∧ cap = 0 ∧ zs = []) ∨
  ∃ x, a = some x ∧ len ≤ cap ∧ cap ≤ maxLen ∧ zs.length = cap ∧ (∀ i, i < zs.length → w.cell? (x.add i) = some (.int k (zs.getD i 0))) ∧ ∀ n ∈ zs, (Lit.int k n).wf = true

theorem spot_none {w : World} {x : Addr} {u : Value} (h : w.cell? (x.add 0) = some u) : ∃ b off, x = ⟨b, off, none⟩ := by
  obtain ⟨b, off, spot⟩ := x
  cases spot with
  | none => exact ⟨b, off, rfl⟩
  | some s =>
    exfalso
    unfold World.cell? at h
    split at h
    · simp [Addr.add] at h
    · cases h

/-- It can be read, as numbers below m. -/
theorem reads_isRow {k : IntKind} {m : Nat} (hm : ∀ n : Int, (Lit.int k n).wf = true → 0 ≤ n ∧ n < m) (hm0 : 0 < m) {w : World} {a : Option Addr} {len cap : Nat} {zs : List Int} (h : IsRow k w a len cap zs) :
    ∃ bs : List Nat, bs.length = len ∧ (∀ j, bs.getD j 0 < m) ∧ Reads k w (.slice a len cap) bs ∧ (∀ k, (Value.slice a len cap).ownBlock = some k → 0 < len → k < w.heap.size) := by
  rcases h with ⟨rfl, rfl, rfl, rfl⟩ | ⟨x, rfl, hl, _, hz, hc, hw⟩
  · exact ⟨[], rfl, fun j => by simpa using hm0, ⟨Option.none, 0, rfl, Nat.le_refl _, fun h => by simp [row] at h⟩, fun k h => by simp [Value.ownBlock] at h⟩
  · refine ⟨(zs.take len).map Int.toNat, by simp; omega, fun j => ?_, ⟨some x, cap, by simp [row]; omega, by simp [row]; omega, fun hp => ?_⟩, fun k hk hp => ?_⟩
    · simp only [List.getD_eq_getElem?_getD, List.getElem?_map]
      cases hj : (zs.take len)[j]? with
      | none => simpa using hm0
      | some z =>
        have hmm : z ∈ zs := List.mem_of_mem_take (List.mem_of_getElem? hj)
        have := hm z (hw z hmm)
        simp; omega
    · have hp' : 0 < len := by simp [row] at hp; omega
      obtain ⟨b, off, rfl⟩ := spot_none (hc 0 (by omega))
      refine ⟨b, off, rfl, fun j u hj => ?_⟩
      have hjl : j < len := by
        have := (List.getElem?_eq_some_iff.1 hj).1
        simp [row] at this; omega
      have hcj := hc j (by omega)
      rw [add_none] at hcj
      rw [hcj]
      have hzj : j < zs.length := by omega
      have hb := hm _ (hw (zs.getD j 0) (by rw [List.getD_eq_getElem?_getD, List.getElem?_eq_getElem hzj]; exact List.getElem_mem hzj))
      simp only [row, List.getElem?_map, List.getElem?_take, hjl, if_true, List.getElem?_eq_getElem hzj, Option.map_some, Option.some.injEq] at hj
      rw [← hj]
      simp only [List.getD_eq_getElem?_getD, List.getElem?_eq_getElem hzj, Option.getD_some] at hb ⊢
      congr 2
      omega
    · simp [Value.ownBlock] at hk
      subst hk
      have := World.block_lt_of_cell? _ _ (hc 0 (by omega))
      obtain ⟨b, off, rfl⟩ := spot_none (hc 0 (by omega))
      exact this
theorem small_u8 (n : Int) (h : (Lit.int .u8 n).wf = true) : 0 ≤ n ∧ n < (256 : Nat) := by have := bounds_u8 h; omega
theorem small_u64 (n : Int) (h : (Lit.int .u64 n).wf = true) : 0 ≤ n ∧ n < (18446744073709551616 : Nat) := by have := bounds_u64 h; omega

/-- A row that is owned and has an element is no nil: its block. -/
theorem own_form {w : World} {base : Nat} {e : TypeId} {size : Nat} {v : Value} {n : Nat} {xs : List Value} (h : w.ownsRow base e size v n xs) (hn : 0 < n) :
    ∃ g cap, v = .slice (some ⟨g, 0, none⟩) n cap ∧ ∃ cur, w.heap[g]? = some (.cells cur e (0, 0)) := by
  rcases h.2 with ⟨_, h'⟩ | ⟨g, cap, cur, h', _, hg, _⟩
  · omega
  · exact ⟨g, cap, h', cur, hg⟩

theorem getD_mem {us : List Nat} {i : Nat} (h : i < us.length) : us.getD i 0 ∈ us := by
  rw [List.getD_eq_getElem?_getD, List.getElem?_eq_getElem h]; exact List.getElem_mem h
theorem take_step {us : List Nat} {i : Nat} (h : i < us.length) : us.take (i + 1) = us.take i ++ [us.getD i 0] := by
  rw [List.take_add_one, List.getD_eq_getElem?_getD, List.getElem?_eq_getElem h]; rfl

theorem drop_step {bs : List Nat} {i : Nat} (h : i < bs.length) : bs.drop i = bs.getD i 0 :: bs.drop (i + 1) := by
  rw [List.drop_eq_getElem_cons h, List.getD_eq_getElem?_getD, List.getElem?_eq_getElem h]; rfl

theorem getD_lt {bs : List Nat} {m : Nat} (hm : 0 < m) (h : ∀ x ∈ bs, x < m) (j : Nat) : bs.getD j 0 < m := by
  rw [List.getD_eq_getElem?_getD]
  cases hj : bs[j]? with
  | none => simpa using hm
  | some x => simpa using h x (List.mem_of_getElem? hj)

theorem mem_take_lt {bs : List Nat} {n : Nat} (h : ∀ x ∈ bs, x < 256) : ∀ x ∈ bs.take n, x < 256 := fun x hx => h x (List.mem_of_mem_take hx)

/-- What b[n:] is. -/
theorem reads_drop {k : IntKind} {w : World} {ao : Option Addr} {len cap : Nat} {bs : List Nat} (h : Reads k w (.slice ao len cap) bs) (n : Nat) (hn : n ≤ len) :
    Reads k w (.slice (if cap = n then ao else Option.map (fun x => x.add n) ao) (len - n) (cap - n)) (bs.drop n) := by
  obtain ⟨ao', cap', e, hlc, hc⟩ := id h
  simp only [Value.slice.injEq] at e
  obtain ⟨rfl, hl, rfl⟩ := e
  rw [length_row] at hl hlc hc
  by_cases h0 : 0 < bs.length - n
  · obtain ⟨b, off, rfl, -⟩ := hc (by omega)
    rw [if_neg (by omega)]
    simp only [Option.map_some, add_none]
    have := Holds.drop h n hn (cap - n) (by omega)
    rwa [← row_drop] at this
  · refine ⟨if cap = n then ao else Option.map (fun x => x.add n) ao, cap - n, ?_, ?_, fun hp => ?_⟩
    · rw [length_row, List.length_drop, hl]
    · rw [length_row, List.length_drop]; omega
    · rw [length_row, List.length_drop] at hp; omega

/-- A slice that can be read is a slice. -/
theorem Reads.form {k : IntKind} {w : World} {v : Value} {bs : List Nat} (h : Reads k w v bs) : ∃ a l c, v = .slice a l c := by
  obtain ⟨a, c, h, _⟩ := h
  exact ⟨_, _, _, h⟩

end Go.Proofs.YtnffjafddbbjaaaGreatDoor

/-
  What the package-level variable strconv.ErrRange holds: it lies in the world that the call begins with, and stays.
-/
namespace Go.Proofs.YtnffjafddbbjaaaGreatDoor
open Go.RowKit

theorem laid_one {P : Program} {w : World} {n : String} {d : DataW Unit} : ∀ {l : List (String × DataW Unit)} {ps : List MemPlace}, DataW.LaidVars P w l ps → (n, d) ∈ l →
    ∃ g t cs fuel p, P.globalNamed n = some g ∧ (P.globals[g]?).map (·.type) = some t ∧ w.var? P n = some cs ∧ DataW.trod (fun _ => ()) P w 0 (fun _ => true) false fuel t cs.toList = some (d, p)
  | [], _, _, hm => by cases hm
  | (m, e) :: r, ps, h, hm => by
    obtain ⟨g, t, cs, fuel, p, q, h1, h2, h3, h4, h5, -⟩ := h
    rcases List.mem_cons.1 hm with he | hr
    · obtain ⟨rfl, rfl⟩ := Prod.mk.inj he
      exact ⟨g, t, cs, fuel, p, h1, h2, h3, h4⟩
    · exact laid_one h5 hr

/-- The variable's cell holds an error that isn't nil. -/
def KVar (w : World) : Prop := ∃ te pe, w.cell? ⟨4, 0, none⟩ = some (.iface te pe)
theorem KVar.keep {w w' : World} (h : KVar w) (f : Fr w w' (fun _ => False)) : KVar w' := by
  obtain ⟨te, pe, hc⟩ := h
  refine ⟨te, pe, ?_⟩
  rw [← hc]
  unfold World.cell?
  cases hb : w.heap[4]? with
  | none =>
    rw [World.cell?, hb] at hc
    cases hc
  | some o => rw [f.kept hb (fun h => h)]
theorem kglob : Tryz.prog.globalNamed "strconv.ErrRange" = some 4 := by kernel_rfl
theorem kglobT : (Tryz.prog.globals[4]?).map (·.type) = some 76 := by kernel_rfl
theorem kvar_of_laid {W : World} {l : List (String × DataW Unit)} (hl : (l.all fun x => x.2.handleName?.isNone) = true) (hm : ("strconv.ErrRange", Rows.laid_strconv_ErrRange) ∈ l) (h : laidMetH Tryz.prog l W) : KVar W := by
  rw [MakeChecks.laidMetH_plain _ _ _ hl] at h
  obtain ⟨ps, hv, -⟩ := h
  obtain ⟨g, t, cs, fuel, p, h1, h2, h3, h4⟩ := laid_one hv hm
  obtain rfl := Option.some.inj (kglob.symm.trans h1)
  obtain rfl := Option.some.inj (kglobT.symm.trans h2)
  obtain ⟨f1, u, v, hcs, -⟩ := iface_of_trod Tryz.underlying76 h4
  refine ⟨u, v, ?_⟩
  have := World.var?_cell h1 h3 0
  rw [this, ← Array.getElem?_toList, hcs]
  rfl

end Go.Proofs.YtnffjafddbbjaaaGreatDoor

/-
  The library's table of powers of ten: it lies in the world that the call begins with, and stays.
-/
namespace Go.Proofs.YtnffjafddbbjaaaGreatDoor
open Go.RowKit

/-- The table holds what it should. -/
def KTab (w : World) : Prop := Lib.TabIs Tryz.prog w "internal/strconv.uint64pow10" .u64 Lib.pow10Tab
theorem tglob : Tryz.prog.globalNamed "internal/strconv.uint64pow10" = some 0 := by kernel_rfl
theorem tglobT : (Tryz.prog.globals[0]?).map (·.type) = some 181 := by kernel_rfl
theorem KTab.keep {w w' : World} (h : KTab w) (f : Fr w w' (fun _ => False)) : KTab w' := by
  unfold KTab Lib.TabIs at h ⊢
  rw [← h]
  unfold World.var?
  rw [tglob, Option.bind_some, Option.bind_some]
  cases hb : w.heap[0]? with
  | none =>
    unfold World.var? at h
    rw [tglob, Option.bind_some, hb] at h
    cases h
  | some o => rw [f.kept hb (fun h => h)]
theorem ktab_of_laid {W : World} {l : List (String × DataW Unit)} (hl : (l.all fun x => x.2.handleName?.isNone) = true) (hm : ("internal/strconv.uint64pow10", Rows.laid_internal_strconv_uint64pow10) ∈ l) (h : laidMetH Tryz.prog l W) : KTab W := by
  rw [MakeChecks.laidMetH_plain _ _ _ hl] at h
  obtain ⟨ps, hv, -⟩ := h
  obtain ⟨g, t, cs, fuel, p, h1, h2, h3, h4⟩ := laid_one hv hm
  obtain rfl := Option.some.inj (tglob.symm.trans h1)
  obtain rfl := Option.some.inj (tglobT.symm.trans h2)
  have hd : (Rows.laid_internal_strconv_uint64pow10 : DataW Unit) = Lib.tabData .u64 Lib.pow10Tab := by kernel_rfl
  rw [hd] at h4
  have := Lib.cells_of_tab Tryz.underlying181 Tryz.underlying22 (by kernel_rfl) (by kernel_rfl) h4
  unfold KTab Lib.TabIs
  rw [h3, ← this]
/-- Both. -/
def KBoth (w : World) : Prop := KVar w ∧ KTab w
theorem KBoth.keep {w w' : World} (h : KBoth w) (f : Fr w w' (fun _ => False)) : KBoth w' := ⟨h.1.keep f, h.2.keep f⟩

end Go.Proofs.YtnffjafddbbjaaaGreatDoor

/-
  A law for a statement whose order of evaluation Go leaves open: one order is walked, step by step; an operation that is taken early must yield its value in every world that the rest of the statement can lead to. No program is named here.
-/
namespace Go.Proofs.YtnffjafddbbjaaaGreatDoor
open Go.RowKit

section
variable {P : Program} {ops : Array Oper} {Q : Exit → Act → World → Prop} {md : Region.Mode} {T : Nat → Prop} {js : List Nat}

/-- Is 'ks' an order that can be walked for all: each of 'js' comes up alone, each other one may be taken first? -/
def schedChk (md : Region.Mode) (ops : Array Oper) (js : List Nat) : List Nat → Array Bool → Bool
  | [], listed => Region.ready md ops listed == []
  | k :: ks, listed => (if js.contains k then Region.ready md ops listed == [k] else Region.free md ops listed k && (Region.ready md ops listed).contains k) && schedChk md ops js ks (listed.setIfInBounds k true)

def wpLex (P : Program) (ops : Array Oper) (Q : Exit → Act → World → Prop) (T : Nat → Prop) (js : List Nat) : List Nat → Act → World → Prop
  | [], a, w => Q .normal a w
  | k :: ks, a, w => (js.contains k = false ∧ ∃ o v, ops[k]? = some o ∧ YieldsIf P ops (fun x => Fr w x T) o v a ∧ wpLex P ops Q T js ks (a.put o.dst v) w) ∨
      (js.contains k = true ∧ wpOp P ops (NoPanic Q) k (fun a' w' => Fr w w' T ∧ wpLex P ops Q T js ks a' w') a w)

theorem wpAnyH_mono {S S' : World → Prop} (hS : ∀ x, S' x → S x) : ∀ (fuel : Nat) (listed : Array Bool) (a : Act) (w : World), wpAnyH P md ops Q S' fuel listed a w → wpAnyH P md ops Q S fuel listed a w
  | 0, _, _, _, h => h
  | fuel + 1, _, _, _, h => ⟨h.1, fun i hi => wpOp_mono (fun a' w' h' => ⟨hS _ h'.1, wpAnyH_mono hS fuel _ a' w' h'.2⟩) (h.2 i hi)⟩

theorem wpAnyH_of_lex (hs : Region.noSelect ops = true) : ∀ (ks : List Nat) (listed : Array Bool) (a : Act) (w : World), schedChk md ops js ks listed = true → wpLex P ops Q T js ks a w →
    wpAnyH P md ops (NoPanic Q) (fun x => Fr w x T) ks.length listed a w
  | [], listed, a, w, hc, h => by
    have hr : Region.ready md ops listed = [] := by simpa [schedChk] using hc
    exact wpAnyH_done hr (NoPanic.normal h) _
  | k :: ks, listed, a, w, hc, h => by
    simp only [schedChk, Bool.and_eq_true] at hc
    obtain ⟨hc1, hc2⟩ := hc
    rcases h with ⟨hk, o, v, ho, hy, h⟩ | ⟨hk, h⟩
    · rw [hk] at hc1
      simp only [Bool.false_eq_true, if_false, Bool.and_eq_true] at hc1
      exact wpAnyH_take ho hs hc1.1 hc1.2 (fun _ _ _ h => h) hy (Fr.refl _ _) (wpAnyH_of_lex hs ks _ _ w hc2 h)
    · rw [hk] at hc1
      have hr : Region.ready md ops listed = [k] := by simpa using hc1
      refine wpAnyH_all hr (by simp) (fun i hi => ?_)
      obtain rfl : i = k := by simpa using hi
      refine wpOp_mono (fun a' w' h' => ⟨h'.1, ?_⟩) h
      exact wpAnyH_mono (fun x hx => h'.1.trans hx (fun _ _ ht => ht)) _ _ _ _ (wpAnyH_of_lex hs ks _ a' w' hc2 h'.2)

/-- The law: for a region that draws its order, of the operations l: js: those that come up alone (calls, stores); ks: the order that is walked; T: the blocks that they may touch. -/
theorem wp_region_lex {id : Nat} {a : Act} {w : World} {l : List Oper} (T : Nat → Prop) (js ks : List Nat) (hm : P.follows .mixedOrders = true) (hs : Region.noSelect l.toArray = true)
    (hl : ks.length = l.length) (hc : schedChk .any l.toArray js ks (Array.replicate l.length false) = true)
    (h : wpLex P l.toArray Q T js ks a w.drew) : (Code.region id l.toArray true).wp P Q a w := by
  refine wp_region_noPanic (wp_region_held (S := fun x => Fr w.drew x T) hm ?_)
  have := wpAnyH_of_lex (md := .any) hs ks _ a w.drew hc h
  rw [hl] at this
  simpa using this

theorem wpLex_nil {a : Act} {w : World} (h : Q .normal a w) : wpLex P ops Q T js [] a w := h

theorem wpLex_take {l : List Oper} {k : Nat} {ks : List Nat} {o : Oper} {v : Value} {a : Act} {w : World} (hk : js.contains k = false) (ho : l[k]? = some o) (hw : Region.wanted o (yielded l.toArray a.tmps) = true)
    (hy : ∀ x, Fr w x T → (execOp a.eval o).run P x = .ok (.value v) x) (h : wpLex P l.toArray Q T js ks (a.put o.dst v) w) : wpLex P l.toArray Q T js (k :: ks) a w :=
  .inl ⟨hk, o, v, by simpa using ho, .inl ⟨hw, hy⟩, h⟩

theorem wpLex_pass {l : List Oper} {k : Nat} {ks : List Nat} {o : Oper} {a : Act} {w : World} (hk : js.contains k = false) (ho : l[k]? = some o) (hw : Region.wanted o (yielded l.toArray a.tmps) = false)
    (h : wpLex P l.toArray Q T js ks (a.put o.dst undef) w) : wpLex P l.toArray Q T js (k :: ks) a w :=
  .inl ⟨hk, o, undef, by simpa using ho, .inr ⟨hw, rfl⟩, h⟩

theorem wpLex_step {l : List Oper} {k : Nat} {ks : List Nat} {o : Oper} {a : Act} {w : World} (hk : js.contains k = true) (ho : l[k]? = some o) (hw : Region.wanted o (yielded l.toArray a.tmps) = true)
    (h : ∀ K : Act → World → Prop, (∀ a' w', Fr w w' T → wpLex P l.toArray Q T js ks a' w' → K a' w') → o.wp P a w K (NoPanic Q)) : wpLex P l.toArray Q T js (k :: ks) a w := by
  have ho' : l.toArray[k]? = some o := by simpa using ho
  refine .inr ⟨hk, ?_⟩
  unfold wpOp
  simp only [ho', hw, if_true]
  exact .inl (h _ (fun a' w' h1 h2 => ⟨h1, h2⟩))

end
end Go.Proofs.YtnffjafddbbjaaaGreatDoor

/-
  A law for a statement whose order of evaluation Go leaves open, where two operations may come up at once: both ways are walked. No program is named here.
-/
namespace Go.Proofs.YtnffjafddbbjaaaGreatDoor
open Go.RowKit

/-- An order that is walked: 'take': what only reads, taken early; 'one': it comes up alone; 'two': one of two comes up. -/
inductive Sch where
  | nil
  | take (k : Nat) (s : Sch)
  | one (k : Nat) (s : Sch)
  | two (i : Nat) (s : Sch) (j : Nat) (t : Sch)

section
variable {P : Program} {ops : Array Oper} {Q : Exit → Act → World → Prop} {md : Region.Mode} {T : Nat → Prop}

def Sch.depth : Sch → Nat
  | .nil => 0
  | .take _ s => s.depth + 1
  | .one _ s => s.depth + 1
  | .two _ s _ t => max s.depth t.depth + 1
def Sch.chk (md : Region.Mode) (ops : Array Oper) : Sch → Array Bool → Bool
  | .nil, L => Region.ready md ops L == []
  | .take k s, L => (Region.free md ops L k && (Region.ready md ops L).contains k) && s.chk md ops (L.setIfInBounds k true)
  | .one k s, L => (Region.ready md ops L == [k]) && s.chk md ops (L.setIfInBounds k true)
  | .two i s j t, L => (Region.ready md ops L == [i, j]) && (s.chk md ops (L.setIfInBounds i true) && t.chk md ops (L.setIfInBounds j true))

def wpT (P : Program) (ops : Array Oper) (Q : Exit → Act → World → Prop) (T : Nat → Prop) : Sch → Act → World → Prop
  | .nil, a, w => Q .normal a w
  | .take k s, a, w => ∃ o v, ops[k]? = some o ∧ YieldsIf P ops (fun x => Fr w x T) o v a ∧ wpT P ops Q T s (a.put o.dst v) w
  | .one k s, a, w => wpOp P ops (NoPanic Q) k (fun a' w' => Fr w w' T ∧ wpT P ops Q T s a' w') a w
  | .two i s j t, a, w => wpOp P ops (NoPanic Q) i (fun a' w' => Fr w w' T ∧ wpT P ops Q T s a' w') a w ∧ wpOp P ops (NoPanic Q) j (fun a' w' => Fr w w' T ∧ wpT P ops Q T t a' w') a w

theorem wpAnyH_of_tree (hs : Region.noSelect ops = true) : ∀ (s : Sch) (fuel : Nat) (listed : Array Bool) (a : Act) (w : World), s.depth ≤ fuel → s.chk md ops listed = true → wpT P ops Q T s a w →
    wpAnyH P md ops (NoPanic Q) (fun x => Fr w x T) fuel listed a w
  | .nil, fuel, listed, a, w, _, hc, h => by
    have hr : Region.ready md ops listed = [] := by simpa [Sch.chk] using hc
    exact wpAnyH_done hr (NoPanic.normal h) _
  | .take k s, 0, _, _, _, hf, _, _ => by simp [Sch.depth] at hf
  | .take k s, fuel + 1, listed, a, w, hf, hc, h => by
    simp only [Sch.chk, Bool.and_eq_true] at hc
    obtain ⟨o, v, ho, hy, h⟩ := h
    exact wpAnyH_take ho hs hc.1.1 hc.1.2 (fun _ _ _ h => h) hy (Fr.refl _ _) (wpAnyH_of_tree hs s fuel _ _ w (by simpa [Sch.depth] using hf) hc.2 h)
  | .one k s, 0, _, _, _, hf, _, _ => by simp [Sch.depth] at hf
  | .one k s, fuel + 1, listed, a, w, hf, hc, h => by
    simp only [Sch.chk, Bool.and_eq_true] at hc
    have hr : Region.ready md ops listed = [k] := by simpa using hc.1
    refine wpAnyH_all hr (by simp) (fun i hi => ?_)
    obtain rfl : i = k := by simpa using hi
    refine wpOp_mono (fun a' w' h' => ⟨h'.1, ?_⟩) h
    exact wpAnyH_mono (fun x hx => h'.1.trans hx (fun _ _ ht => ht)) _ _ _ _ (wpAnyH_of_tree hs s fuel _ a' w' (by simpa [Sch.depth] using hf) hc.2 h'.2)
  | .two i s j t, 0, _, _, _, hf, _, _ => by simp [Sch.depth] at hf
  | .two i s j t, fuel + 1, listed, a, w, hf, hc, h => by
    simp only [Sch.chk, Bool.and_eq_true] at hc
    simp only [Sch.depth] at hf
    have hr : Region.ready md ops listed = [i, j] := by simpa using hc.1
    refine wpAnyH_all hr (by simp) (fun k hk => ?_)
    by_cases hki : k = i
    · subst hki
      refine wpOp_mono (fun a' w' h' => ⟨h'.1, ?_⟩) h.1
      exact wpAnyH_mono (fun x hx => h'.1.trans hx (fun _ _ ht => ht)) _ _ _ _ (wpAnyH_of_tree hs s fuel _ a' w' (by omega) hc.2.1 h'.2)
    · have hkj : k = j := by
        simp at hk
        rcases hk with h | h
        · exact absurd h hki
        · exact h
      subst hkj
      refine wpOp_mono (fun a' w' h' => ⟨h'.1, ?_⟩) h.2
      exact wpAnyH_mono (fun x hx => h'.1.trans hx (fun _ _ ht => ht)) _ _ _ _ (wpAnyH_of_tree hs t fuel _ a' w' (by omega) hc.2.2 h'.2)

/-- The law: of the operations l; T: the blocks that they may touch. -/
theorem wp_region_tree {id : Nat} {a : Act} {w : World} {l : List Oper} (T : Nat → Prop) (s : Sch) (hm : P.follows .mixedOrders = true) (hs : Region.noSelect l.toArray = true)
    (hl : s.depth ≤ l.length) (hc : s.chk .any l.toArray (Array.replicate l.length false) = true) (h : wpT P l.toArray Q T s a w.drew) : (Code.region id l.toArray true).wp P Q a w := by
  refine wp_region_noPanic (wp_region_held (S := fun x => Fr w.drew x T) hm ?_)
  have := wpAnyH_of_tree (md := .any) hs s l.length _ a w.drew hl hc h
  simpa using this

theorem wpT_take {l : List Oper} {k : Nat} {s : Sch} {o : Oper} {v : Value} {a : Act} {w : World} (ho : l[k]? = some o) (hw : Region.wanted o (yielded l.toArray a.tmps) = true)
    (hy : ∀ x, Fr w x T → (execOp a.eval o).run P x = .ok (.value v) x) (h : wpT P l.toArray Q T s (a.put o.dst v) w) : wpT P l.toArray Q T (.take k s) a w :=
  ⟨o, v, by simpa using ho, .inl ⟨hw, hy⟩, h⟩
theorem wpT_pass {l : List Oper} {k : Nat} {s : Sch} {o : Oper} {a : Act} {w : World} (ho : l[k]? = some o) (hw : Region.wanted o (yielded l.toArray a.tmps) = false)
    (h : wpT P l.toArray Q T s (a.put o.dst undef) w) : wpT P l.toArray Q T (.take k s) a w :=
  ⟨o, undef, by simpa using ho, .inr ⟨hw, rfl⟩, h⟩
theorem wpOp_run {l : List Oper} {k : Nat} {o : Oper} {a : Act} {w : World} {K : Act → World → Prop} (ho : l[k]? = some o) (hw : Region.wanted o (yielded l.toArray a.tmps) = true) (h : o.wp P a w K (NoPanic Q)) : wpOp P l.toArray (NoPanic Q) k K a w := by
  have ho' : l.toArray[k]? = some o := by simpa using ho
  unfold wpOp
  simp only [ho', hw, if_true]
  exact .inl h
theorem wpT_one {l : List Oper} {k : Nat} {s : Sch} {o : Oper} {a : Act} {w : World} (ho : l[k]? = some o) (hw : Region.wanted o (yielded l.toArray a.tmps) = true)
    (h : ∀ K : Act → World → Prop, (∀ a' w', Fr w w' T → wpT P l.toArray Q T s a' w' → K a' w') → o.wp P a w K (NoPanic Q)) : wpT P l.toArray Q T (.one k s) a w :=
  wpOp_run ho hw (h _ (fun _ _ h1 h2 => ⟨h1, h2⟩))
theorem wpT_two {l : List Oper} {i j : Nat} {s t : Sch} {o o' : Oper} {a : Act} {w : World} (ho : l[i]? = some o) (hw : Region.wanted o (yielded l.toArray a.tmps) = true) (ho' : l[j]? = some o') (hw' : Region.wanted o' (yielded l.toArray a.tmps) = true)
    (h : ∀ K : Act → World → Prop, (∀ a' w', Fr w w' T → wpT P l.toArray Q T s a' w' → K a' w') → o.wp P a w K (NoPanic Q))
    (h' : ∀ K : Act → World → Prop, (∀ a' w', Fr w w' T → wpT P l.toArray Q T t a' w' → K a' w') → o'.wp P a w K (NoPanic Q)) : wpT P l.toArray Q T (.two i s j t) a w :=
  ⟨wpOp_run ho hw (h _ (fun _ _ h1 h2 => ⟨h1, h2⟩)), wpOp_run ho' hw' (h' _ (fun _ _ h1 h2 => ⟨h1, h2⟩))⟩

/-- append, by its run. -/
theorem op_append_run {o : Oper} {a : Act} {w : World} {K : Act → World → Prop} (s x : Operand) (t : TypeId) (ho : o.op = .call { callee := .builtin .append, args := #[s, x], argTypes := #[t, t] }) {u v v' : Value} {w' : World} (hs : a.eval s = u) (hx : a.eval x = v)
    (hrun : (Builtin.append_ #[t, t] o.type #[u, v]).run P w = .ok v' w') (h : K (a.put o.dst v') w') : o.wp P a w K Q := by
  unfold Oper.wp execOp
  simp only [ho, resolve, invoke, builtin, Sem.run_bind, Sem.run_pure, Result.andThen_ok, List.map_toArray, List.map_cons, List.map_nil, hs, hx, hrun]
  exact h

end
end Go.Proofs.YtnffjafddbbjaaaGreatDoor

/-
  A scanner of a text: plain mathematics.
-/
namespace Go.Proofs.YtnffjafddbbjaaaGreatDoor
open Go.RowKit

/-- A scanner's state. -/
structure Sc where
  pos : Nat
  line : Nat
  col : Nat
  err : Nat
deriving DecidableEq
/-- A text's byte. -/
def chAt (s : ByteArray) (i : Nat) : Nat := (s[i]?.getD 0).toNat
def scFail (c : Sc) (e : Nat) : Sc := if c.err = 0 then { c with err := e } else c
def scStep (s : ByteArray) (c : Sc) : Sc := if chAt s c.pos = 10 then { c with pos := c.pos + 1, line := c.line + 1, col := 1 } else { c with pos := c.pos + 1, col := c.col + 1 }
def scMove (s : ByteArray) (c : Sc) : Nat → Sc
  | 0 => c
  | n + 1 => scMove s (scStep s c) n
theorem scStep_pos (s : ByteArray) (c : Sc) : (scStep s c).pos = c.pos + 1 := by unfold scStep; split <;> rfl
theorem scMove_pos (s : ByteArray) : ∀ (n : Nat) (c : Sc), (scMove s c n).pos = c.pos + n
  | 0, c => rfl
  | n + 1, c => by rw [scMove, scMove_pos s n, scStep_pos]; omega
/-- The numbers are no greater than a text's length lets them be. -/
def ScOk (s : ByteArray) (c : Sc) : Prop := c.pos ≤ s.size ∧ c.line ≤ c.pos + 1 ∧ c.col ≤ c.pos + 1

theorem five_cells {w : World} {x0 x1 x2 x3 x4 : Value} {T : TypeId} {p : Nat} (h : w.heap[p]? = some (.cells #[x0, x1, x2, x3, x4] T (0, 0))) : w.cell? ⟨p, 0, none⟩ = some x0 ∧ w.cell? ⟨p, 1, none⟩ = some x1 ∧ w.cell? ⟨p, 2, none⟩ = some x2 ∧ w.cell? ⟨p, 3, none⟩ = some x3 ∧ w.cell? ⟨p, 4, none⟩ = some x4 := by
  refine ⟨?_, ?_, ?_, ?_, ?_⟩ <;> simp [World.cell?, h]
theorem five_free {w : World} {x0 x1 x2 x3 x4 : Value} {T : TypeId} {p : Nat} (h : w.heap[p]? = some (.cells #[x0, x1, x2, x3, x4] T (0, 0))) (j : Nat) : w.frozen? ⟨p, j, none⟩ = false := by simp [World.frozen?, h]
theorem fr_put (w : World) (b o : Nat) (v : Value) : Fr w (w.setCell ⟨b, o, none⟩ v) (fun k => k = b) := (Fr.refl w (fun k => k = b)).setCell _ (fun _ => rfl) _
theorem five_put4 {w : World} {x0 x1 x2 x3 x4 : Value} {T : TypeId} {p : Nat} (h : w.heap[p]? = some (.cells #[x0, x1, x2, x3, x4] T (0, 0))) (u : Value) : (w.setCell ⟨p, 4, none⟩ u).heap[p]? = some (.cells #[x0, x1, x2, x3, u] T (0, 0)) := by
  have := heap_setCell_same w p 4 #[x0, x1, x2, x3, x4] T u h
  simpa using this
theorem five_put3 {w : World} {x0 x1 x2 x3 x4 : Value} {T : TypeId} {p : Nat} (h : w.heap[p]? = some (.cells #[x0, x1, x2, x3, x4] T (0, 0))) (u : Value) : (w.setCell ⟨p, 3, none⟩ u).heap[p]? = some (.cells #[x0, x1, x2, u, x4] T (0, 0)) := by
  have := heap_setCell_same w p 3 #[x0, x1, x2, x3, x4] T u h
  simpa using this
theorem five_put2 {w : World} {x0 x1 x2 x3 x4 : Value} {T : TypeId} {p : Nat} (h : w.heap[p]? = some (.cells #[x0, x1, x2, x3, x4] T (0, 0))) (u : Value) : (w.setCell ⟨p, 2, none⟩ u).heap[p]? = some (.cells #[x0, x1, u, x3, x4] T (0, 0)) := by
  have := heap_setCell_same w p 2 #[x0, x1, x2, x3, x4] T u h
  simpa using this
theorem five_put1 {w : World} {x0 x1 x2 x3 x4 : Value} {T : TypeId} {p : Nat} (h : w.heap[p]? = some (.cells #[x0, x1, x2, x3, x4] T (0, 0))) (u : Value) : (w.setCell ⟨p, 1, none⟩ u).heap[p]? = some (.cells #[x0, u, x2, x3, x4] T (0, 0)) := by
  have := heap_setCell_same w p 1 #[x0, x1, x2, x3, x4] T u h
  simpa using this

/-- A text's byte, by the program. -/
theorem index_any (s : ByteArray) (i : Nat) (h : i < s.size) (w : World) : (Instr.index 9 (.string s) (.int .i64 (i : Int))).run Tryz.prog w = .ok (.int .u8 (chAt s i : Int)) w := by
  rw [run_index_string w 9 s .i64 (i : Int) Tryz.underlying9, dif_pos ⟨by omega, by omega⟩]
  have e : (s[((i : Int)).toNat]'(by omega)).toNat = chAt s i := by
    unfold chAt
    simp only [Int.toNat_natCast]
    rw [ByteArray.getElem?_lt' s i h]
    rfl
  rw [e]

end Go.Proofs.YtnffjafddbbjaaaGreatDoor

/-
  Words of a text: plain mathematics.
-/
namespace Go.Proofs.YtnffjafddbbjaaaGreatDoor
open Go.RowKit

/-- What is wrong with a word at a place: 0, nothing; else the error. -/
def wordErr (s v : ByteArray) (pos : Nat) : Nat → Nat → Nat
  | _, 0 => 0
  | i, n + 1 => if s.size ≤ pos + i then 20 else if chAt s (pos + i) = chAt v i then wordErr s v pos (i + 1) n else 21
theorem wordErr_fits (s v : ByteArray) (pos : Nat) : ∀ (n i : Nat), pos + i ≤ s.size → wordErr s v pos i n = 0 → pos + i + n ≤ s.size
  | 0, i, h, _ => by omega
  | n + 1, i, h, he => by
    rw [wordErr] at he
    split at he
    · omega
    · split at he
      · have := wordErr_fits s v pos n (i + 1) (by omega) he
        omega
      · omega
theorem wordErr_or (s v : ByteArray) (pos : Nat) : ∀ (n i : Nat), wordErr s v pos i n = 0 ∨ wordErr s v pos i n = 20 ∨ wordErr s v pos i n = 21
  | 0, i => .inl rfl
  | n + 1, i => by
    rw [wordErr]
    split
    · exact .inr (.inl rfl)
    · split
      · exact wordErr_or s v pos n (i + 1)
      · exact .inr (.inr rfl)
def scWordOk (s v : ByteArray) (c : Sc) : Bool := c.err == 0 && wordErr s v c.pos 0 v.size == 0
def scWord (s v : ByteArray) (c : Sc) : Sc := if c.err = 0 then (if wordErr s v c.pos 0 v.size = 0 then scMove s c v.size else { c with err := wordErr s v c.pos 0 v.size }) else c

end Go.Proofs.YtnffjafddbbjaaaGreatDoor

/-
  A slice of bytes as a string.
-/
namespace Go.Proofs.YtnffjafddbbjaaaGreatDoor
open Go.RowKit

/-- Bytes as a string. -/
def strOf (bs : List Nat) : ByteArray := strOfNums (bs.map fun (b : Nat) => (b : Int))

theorem conv_reads {w : World} {v : Value} {bs : List Nat} (h : Reads .u8 w v bs) : (convert 26 9 v).run Tryz.prog w = .ok (.string (strOf bs)) w := by
  obtain ⟨ao, cap, rfl, hlc, hc⟩ := h
  rw [length_row] at hlc hc ⊢
  by_cases h0 : 0 < bs.length
  · obtain ⟨b, off, rfl, hcell⟩ := hc h0
    refine run_convert_bytes_arg w 26 5 Tryz.underlying26 Tryz.underlying5 b off bs.length cap _ (by simp) (fun i hi => ?_) 9 Tryz.underlying9
    rw [hcell i _ (row_get .u8 bs i hi)]
    simp [List.getD_eq_getElem?_getD, hi]
  · have e : bs = [] := List.eq_nil_of_length_eq_zero (by omega)
    subst e
    rw [run_convert_bytes_string w 26 9 5 _ _ cap Tryz.underlying26 Tryz.underlying5 Tryz.underlying9]
    cases ao with
    | none => simp [Conv.bytesToString, strOf, strOfNums]; rfl
    | some a =>
      have := run_bytesToString (P := Tryz.prog) w a 0 cap [] (by simp [loadCells, loadCellsFrom])
      exact this

end Go.Proofs.YtnffjafddbbjaaaGreatDoor

/-
  Bytes of a text: plain mathematics.
-/
namespace Go.Proofs.YtnffjafddbbjaaaGreatDoor
open Go.RowKit

theorem strOf_length (bs : List Nat) : (strOf bs).size = bs.length := by simp [strOf, strOfNums, ByteArray.size]
theorem strOf_one (b : Nat) (hb : b < 256) : chAt (strOf [b]) 0 = b := by
  have : (strOf [b])[0]? = some (UInt8.ofNat b) := by
    rw [ByteArray.getElem?_lt' _ 0 (by rw [strOf_length]; exact Nat.one_pos)]
    rfl
  unfold chAt
  rw [this]
  simp
  omega
def scByteOk (s : ByteArray) (b : Nat) (c : Sc) : Bool := scWordOk s (strOf [b]) c
def scByte (s : ByteArray) (b : Nat) (c : Sc) : Sc := scWord s (strOf [b]) c

/-- One byte as a string. -/
theorem conv_one (w : World) (b : Nat) : (convert 26 9 (.slice (some ⟨w.heap.size, 0, none⟩) 1 1)).run Tryz.prog (w.alloc (.cells #[.int .u8 (b : Int)] 5)) = .ok (.string (strOf [b])) (w.alloc (.cells #[.int .u8 (b : Int)] 5)) := by
  refine conv_reads (bs := [b]) ⟨_, _, rfl, Nat.le_refl 1, fun _ => ⟨_, 0, rfl, fun k v hk => ?_⟩⟩
  match k, hk with
  | 0, hk => cases hk; exact cell_one_new w _ _ 0 _ rfl
  | k + 1, hk => simp [row] at hk

end Go.Proofs.YtnffjafddbbjaaaGreatDoor

/-
  Numbers of a text: plain mathematics.
-/
namespace Go.Proofs.YtnffjafddbbjaaaGreatDoor
open Go.RowKit

def isDig (b : Nat) : Bool := decide (48 ≤ b) && decide (b ≤ 57)
/-- How many digits stand there. -/
def digN (s : ByteArray) : Nat → Nat → Nat
  | _, 0 => 0
  | i, k + 1 => if isDig (chAt s i) then digN s (i + 1) k + 1 else 0
theorem digN_le (s : ByteArray) : ∀ (k i : Nat), digN s i k ≤ k
  | 0, _ => Nat.le_refl _
  | k + 1, i => by
    rw [digN]
    split
    · have := digN_le s k (i + 1); omega
    · omega
theorem digN_dig (s : ByteArray) : ∀ (k i j : Nat), j < digN s i k → isDig (chAt s (i + j)) = true
  | 0, _, j, h => by rw [digN] at h; omega
  | k + 1, i, j, h => by
    rw [digN] at h
    split at h
    case isTrue hd =>
      match j with
      | 0 => exact hd
      | j + 1 =>
        have := digN_dig s k (i + 1) j (by omega)
        rw [show i + (j + 1) = i + 1 + j by omega]
        exact this
    case isFalse => omega
/-- The number that so many digits are; none above most. -/
def numVal (s : ByteArray) (pos most : Nat) : Nat → Nat → Nat → Option Nat
  | _, v, 0 => some v
  | i, v, k + 1 => if most < chAt s (pos + i) - 48 ∨ (most - (chAt s (pos + i) - 48)) / 10 < v then none else numVal s pos most (i + 1) (10 * v + (chAt s (pos + i) - 48)) k
def scEnd (s : ByteArray) (c : Sc) (n : Nat) : Option Nat → Sc
  | none => { c with err := 22 }
  | some _ => scMove s c n
def scDigs (s : ByteArray) (c : Sc) : Nat := digN s c.pos (s.size - c.pos)
def scNumVal (s : ByteArray) (most : Nat) (c : Sc) : Nat :=
  if c.err = 0 then (if scDigs s c = 0 ∧ c.pos = s.size then 0 else if scDigs s c = 0 ∨ (1 < scDigs s c ∧ chAt s c.pos = 48) then 0 else (numVal s c.pos most 0 0 (scDigs s c)).getD 0) else 0
def scNum (s : ByteArray) (most : Nat) (c : Sc) : Sc :=
  if c.err = 0 then (if scDigs s c = 0 ∧ c.pos = s.size then { c with err := 20 } else if scDigs s c = 0 ∨ (1 < scDigs s c ∧ chAt s c.pos = 48) then { c with err := 21 } else scEnd s c (scDigs s c) (numVal s c.pos most 0 0 (scDigs s c))) else c

end Go.Proofs.YtnffjafddbbjaaaGreatDoor

/-
  A drawn region walked by a tree: a call under a guard that isn't wanted. No program is named here.
-/
namespace Go.Proofs.YtnffjafddbbjaaaGreatDoor
open Go.RowKit

theorem wpT_skip {P : Program} {Q : Exit → Act → World → Prop} {T : Nat → Prop} {l : List Oper} {k : Nat} {s : Sch} {o : Oper} {a : Act} {w : World} (ho : l[k]? = some o) (hw : Region.wanted o (yielded l.toArray a.tmps) = false)
    (h : wpT P l.toArray Q T s (a.put o.dst undef) w) : wpT P l.toArray Q T (.one k s) a w := by
  have ho' : l.toArray[k]? = some o := by simpa using ho
  show wpOp P l.toArray (NoPanic Q) k (fun a' w' => Fr w w' T ∧ wpT P l.toArray Q T s a' w') a w
  unfold wpOp
  simp only [ho', hw]
  exact ⟨Fr.refl _ _, h⟩

end Go.Proofs.YtnffjafddbbjaaaGreatDoor

/-
  The decimal of a number.
-/
namespace Go.Proofs.YtnffjafddbbjaaaGreatDoor
open Go.RowKit

/-- A number's decimal digits, as bytes. -/
def decL (n : Nat) : List Nat := if h : n < 10 then [48 + n] else decL (n / 10) ++ [48 + n % 10]
theorem decL_small (n : Nat) (h : n < 10) : decL n = [48 + n] := by rw [decL, dif_pos h]
theorem decL_big (n : Nat) (h : ¬ n < 10) : decL n = decL (n / 10) ++ [48 + n % 10] := by rw [decL, dif_neg h]
theorem decL_len : ∀ (k n : Nat), n < 10 ^ (k + 1) → (decL n).length ≤ k + 1
  | 0, n, h => by rw [decL_small n (by omega)]; exact Nat.le_refl 1
  | k + 1, n, h => by
    by_cases h1 : n < 10
    · rw [decL_small n h1]
      simp
    · have := decL_len k (n / 10) (by rw [Nat.pow_succ] at h; omega)
      rw [decL_big n h1, List.length_append]
      simp only [List.length_cons, List.length_nil]
      omega
theorem decL_len20 (n : Nat) (h : n < 18446744073709551616) : (decL n).length ≤ 20 := decL_len 19 n (by omega)
theorem strOf_append (a b : List Nat) : strOf a ++ strOf b = strOf (a ++ b) := by
  apply ByteArray.ext
  simp [strOf, strOfNums]
theorem digs_cut (d : Nat) (h : d < 10) : (ByteArray.mk #[48, 49, 50, 51, 52, 53, 54, 55, 56, 57]).extract d (d + 1) = strOf [48 + d] := by
  match d, h with
  | 0, _ => rfl
  | 1, _ => rfl
  | 2, _ => rfl
  | 3, _ => rfl
  | 4, _ => rfl
  | 5, _ => rfl
  | 6, _ => rfl
  | 7, _ => rfl
  | 8, _ => rfl
  | 9, _ => rfl
theorem digs_slice (d : Nat) (h : d < 10) (w : World) : (Instr.slice 9 (.string ⟨#[48, 49, 50, 51, 52, 53, 54, 55, 56, 57]⟩) (some (.int .u64 (d : Int))) (some (.int .u64 ((d : Int) + 1))) none).run Tryz.prog w = .ok (.string (strOf [48 + d])) w := by
  rw [run_slice_string w 9 _ .u64 .u64 (d : Int) ((d : Int) + 1) Tryz.underlying9 (by omega) (by omega) (by show _ ≤ (10 : Int); omega)]
  rw [← digs_cut d h]
  rfl

set_option maxRecDepth 4000 in
set_option maxHeartbeats 800000 in
theorem refDecimal_any (n : Nat) : ∀ (w : World), n < 18446744073709551616 → Calls Tryz.prog 20 #[.int .u64 (n : Int)] w fun r w' => r = .returned (.string (strOf (decL n))) ∧ Fr w w' (fun _ => False) := by
  induction n using Nat.strongRecOn with
  | ind n ih =>
  intro w hn
  by_cases h1 : n < 10
  · have g1 : (n : Int) < 10 := by omega
    have g1' : decide (n < 10) = true := decide_eq_true h1
    have hw1 : IntKind.u64.wrap ((n : Int) + 1) = (n : Int) + 1 := IntWalk.u64_in _ (by omega)
    have hsl := digs_slice n h1
    rw [decL_small n h1]
    generalize strOf [48 + n] = X at hsl ⊢
    go_enter Tryz.func20, Tryz.ntmps20
    go_wp2_with fail
    go_ret
    exact ⟨rfl, Fr.refl _ _⟩
  · have g1 : ¬ (n : Int) < 10 := by omega
    have g1' : decide (n < 10) = false := decide_eq_false h1
    obtain ⟨q, hq⟩ : ∃ q, q = n / 10 := ⟨_, rfl⟩
    obtain ⟨d, hd⟩ : ∃ d, d = n % 10 := ⟨_, rfl⟩
    have hd10 : d < 10 := by omega
    have hqn : q < n := by omega
    have IH := ih q hqn
    have hsl := digs_slice d hd10
    have h20 := decL_len20 q (by omega)
    have hno : ¬ 9223372036854775807 < (strOf (decL q)).size + (strOf [48 + d]).size := by rw [strOf_length, strOf_length]; show ¬ _ < _ + 1; omega
    have hcat := strOf_append (decL q) [48 + d]
    have Hres : Hid (decL n = decL q ++ [48 + d]) := by show _ = _; rw [hq, hd]; exact decL_big n h1
    rw [Hres.out]
    generalize decL q ++ [48 + d] = Y at hcat ⊢
    generalize strOf (decL q) = A at hno hcat IH
    generalize strOf [48 + d] = X at hsl hno hcat
    generalize strOf Y = Z at hcat ⊢
    have Hcat : Hid _ := hcat
    have hqi : (n : Int) / 10 = (q : Int) := by omega
    have hqt : (n : Int).tdiv 10 = (q : Int) := by rw [Int.tdiv_eq_ediv_of_nonneg (by omega)]; exact hqi
    have hdi : (n : Int) % 10 = (d : Int) := by omega
    have hdt : (n : Int).tmod 10 = (d : Int) := by rw [Int.tmod_eq_emod_of_nonneg (by omega)]; exact hdi
    have hwq : IntKind.u64.wrap (q : Int) = (q : Int) := IntWalk.u64_in _ (by omega)
    have hwd : IntKind.u64.wrap (d : Int) = (d : Int) := IntWalk.u64_in _ (by omega)
    have hw1 : IntKind.u64.wrap ((d : Int) + 1) = (d : Int) + 1 := IntWalk.u64_in _ (by omega)
    have IH2 : Hid _ := fun w => IH w (by omega)
    clear hq hd ih IH hcat Hres h20
    go_enter Tryz.func20, Tryz.ntmps20
    go_wp2_with fail
    refine wp_region_tree (fun _ => False) (.take 0 (.take 1 (.take 3 (.take 4 (.take 5 (.take 6 (.take 7 (.take 8 (.one 2 (.take 9 (.take 10 .nil))))))))))) (by kernel_rfl) (by kernel_rfl) (by decide) (by kernel_rfl) ?_
    iterate 8 (refine wpT_take (v := ?_) rfl rfl (fun x hx => ?_) ?_; rotate_left; (focus (go_simp; with_reducible rfl)); simp only [Act.put, List.setIfInBounds_toArray, List.set_cons_zero, List.set_cons_succ])
    refine wpT_one rfl rfl (fun K hK => ?_)
    go_simp
    refine (IH2.out _).mono ?_
    rintro r x3 ⟨rfl, g⟩
    refine hK _ _ g ?_
    clear hK K
    have Hf3 : Hid (Fr w x3 (fun _ => False)) := (Fr.refl w (fun _ => False)).drew.none g
    clear g
    iterate 2 (refine wpT_take (v := ?_) rfl rfl (fun x hx => ?_) ?_; rotate_left; (focus (go_simp; with_reducible rfl)); simp only [Act.put, List.setIfInBounds_toArray, List.set_cons_zero, List.set_cons_succ])
    unfold wpT
    go_wp2_with fail
    go_ret
    rw [Hcat.out]
    exact ⟨rfl, Hf3.out⟩

end Go.Proofs.YtnffjafddbbjaaaGreatDoor

/-
  What stands at a place of a text.
-/
namespace Go.Proofs.YtnffjafddbbjaaaGreatDoor
open Go.RowKit

/-- What stands there. -/
def scNext (s : ByteArray) (c : Sc) : Nat × Bool := if c.err = 0 ∧ c.pos < s.size then (chAt s c.pos, true) else (0, false)

end Go.Proofs.YtnffjafddbbjaaaGreatDoor

/-
  Helps for the laws of scanners.
-/
namespace Go.Proofs.YtnffjafddbbjaaaGreatDoor
open Go.RowKit Go.ChangeShapes Go.WideShapes

theorem cu8 (n : Int) (h : (Lit.int .u8 n).wf = true) : 0 ≤ n ∧ n < (256 : Nat) := by have := bounds_u8 h; omega
theorem cbelow {w w' : World} (h : Fr w w' (fun _ => False)) : Below w.heap.size w w' := h.below (Nat.le_refl _) (fun _ h => h.elim)
/-- Bytes that came in. -/
theorem cbytes_arg {w : World} {a : Option Addr} {len cap : Nat} {z : List Int} (h : IsRow .u8 w a len cap z) : ∃ bs : List Nat, bs.length = len ∧ (∀ x ∈ bs, x < 256) ∧ Reads .u8 w (.slice a len cap) bs := by
  obtain ⟨bs, h1, h2, h3, -⟩ := reads_isRow cu8 (by decide) h
  refine ⟨bs, h1, fun x hx => ?_, h3⟩
  obtain ⟨i, hi⟩ := List.getElem?_of_mem hx
  have := h2 i
  rw [List.getD_eq_getElem?_getD, hi] at this
  exact this
theorem chAt_strOf (bs : List Nat) (i : Nat) (h : i < bs.length) (hb : ∀ x ∈ bs, x < 256) : chAt (strOf bs) i = bs.getD i 0 := by
  have hx := hb (bs.getD i 0) (by rw [List.getD_eq_getElem?_getD, List.getElem?_eq_getElem h]; exact List.getElem_mem h)
  have : (strOf bs)[i]? = some (UInt8.ofNat (bs.getD i 0)) := by
    rw [ByteArray.getElem?_lt' _ i (by rw [strOf_length]; exact h)]
    simp [strOf, strOfNums, List.getD_eq_getElem?_getD, h]
    show (List.map ((fun n : Int => UInt8.ofNat n.toNat) ∘ fun b : Nat => (b : Int)) bs).toArray[i]'(by simpa using h) = UInt8.ofNat bs[i]
    simp
  unfold chAt
  rw [this]
  generalize bs.getD i 0 = y at hx
  simp
  omega
theorem scByte_hit {s : ByteArray} {c : Sc} {b : Nat} (he : c.err = 0) (hp : c.pos < s.size) (hb : b < 256) (h : chAt s c.pos = b) : scByteOk s b c = true ∧ scByte s b c = scStep s c := by
  have hw : wordErr s (strOf [b]) c.pos 0 (strOf [b]).size = 0 := by
    rw [strOf_length]
    show (if s.size ≤ c.pos + 0 then 20 else if chAt s (c.pos + 0) = chAt (strOf [b]) 0 then 0 else 21) = 0
    rw [Nat.add_zero, if_neg (by omega), strOf_one b hb, if_pos h]
  unfold scByteOk scByte scWordOk scWord
  rw [hw, he, if_pos rfl, if_pos rfl, strOf_length]
  exact ⟨rfl, rfl⟩
theorem scByte_miss {s : ByteArray} {c : Sc} {b : Nat} (he : c.err = 0) (hp : c.pos < s.size) (hb : b < 256) (h : chAt s c.pos ≠ b) : scByteOk s b c = false ∧ scByte s b c = { c with err := 21 } := by
  have hw : wordErr s (strOf [b]) c.pos 0 (strOf [b]).size = 21 := by
    rw [strOf_length]
    show (if s.size ≤ c.pos + 0 then 20 else if chAt s (c.pos + 0) = chAt (strOf [b]) 0 then 0 else 21) = 21
    rw [Nat.add_zero, if_neg (by omega), strOf_one b hb, if_neg h]
  unfold scByteOk scByte scWordOk scWord
  rw [hw, he, if_pos rfl, if_neg (by decide)]
  exact ⟨rfl, rfl⟩
theorem scByte_end {s : ByteArray} {c : Sc} {b : Nat} (he : c.err = 0) (hp : s.size ≤ c.pos) : scByteOk s b c = false ∧ scByte s b c = { c with err := 20 } := by
  have hw : wordErr s (strOf [b]) c.pos 0 (strOf [b]).size = 20 := by
    rw [strOf_length]
    show (if s.size ≤ c.pos + 0 then 20 else if chAt s (c.pos + 0) = chAt (strOf [b]) 0 then 0 else 21) = 20
    rw [if_pos (by omega)]
  unfold scByteOk scByte scWordOk scWord
  rw [hw, he, if_pos rfl, if_neg (by decide)]
  exact ⟨rfl, rfl⟩
theorem scByte_stop {s : ByteArray} {c : Sc} {b : Nat} (he : c.err ≠ 0) : scByteOk s b c = false ∧ scByte s b c = c := by
  unfold scByteOk scByte scWordOk scWord
  rw [beq_eq_false_iff_ne.mpr he, if_neg he]
  exact ⟨rfl, rfl⟩
theorem scNext_in {s : ByteArray} {c : Sc} (he : c.err = 0) (hp : c.pos < s.size) : scNext s c = (chAt s c.pos, true) := if_pos ⟨he, hp⟩
theorem scNext_end {s : ByteArray} {c : Sc} (hp : s.size ≤ c.pos) : scNext s c = (0, false) := if_neg (fun h => by omega)
theorem scNext_stop {s : ByteArray} {c : Sc} (he : c.err ≠ 0) : scNext s c = (0, false) := if_neg (fun h => he h.1)

end Go.Proofs.YtnffjafddbbjaaaGreatDoor

/-
  What is read of a number's decimal.
-/
namespace Go.Proofs.YtnffjafddbbjaaaGreatDoor
open Go.RowKit

/-- The number of digits, by Horner. -/
def hL (v : Nat) (l : List Nat) : Nat := l.foldl (fun a x => 10 * a + (x - 48)) v
theorem hL_ge : ∀ (l : List Nat) (v : Nat), v ≤ hL v l
  | [], v => Nat.le_refl _
  | x :: l, v => by
    have := hL_ge l (10 * v + (x - 48))
    show v ≤ hL (10 * v + (x - 48)) l
    omega
theorem hL_dec (n : Nat) : hL 0 (decL n) = n := by
  induction n using Nat.strongRecOn with
  | ind n ih =>
  by_cases h : n < 10
  · rw [decL_small n h]
    show 10 * 0 + (48 + n - 48) = n
    omega
  · have := ih (n / 10) (by omega)
    rw [decL_big n h]
    unfold hL at this ⊢
    rw [List.foldl_append, this]
    show 10 * (n / 10) + (48 + n % 10 - 48) = n
    omega
theorem decL_dig (n : Nat) : ∀ x ∈ decL n, isDig x = true := by
  induction n using Nat.strongRecOn with
  | ind n ih =>
  intro x hx
  by_cases h : n < 10
  · rw [decL_small n h] at hx
    simp only [List.mem_cons, List.not_mem_nil, or_false] at hx
    subst hx
    unfold isDig
    rw [decide_eq_true (by omega), decide_eq_true (by omega)]
    rfl
  · rw [decL_big n h, List.mem_append] at hx
    rcases hx with hx | hx
    · exact ih (n / 10) (by omega) x hx
    · simp only [List.mem_cons, List.not_mem_nil, or_false] at hx
      subst hx
      unfold isDig
      rw [decide_eq_true (by omega), decide_eq_true (by omega)]
      rfl
theorem decL_pos (n : Nat) : 0 < (decL n).length := by
  by_cases h : n < 10
  · rw [decL_small n h]; exact Nat.one_pos
  · rw [decL_big n h, List.length_append]; exact Nat.lt_of_lt_of_le Nat.one_pos (Nat.le_add_left _ _)
theorem decL_head (n : Nat) : 1 < (decL n).length → (decL n).getD 0 0 ≠ 48 := by
  induction n using Nat.strongRecOn with
  | ind n ih =>
  intro h1
  by_cases h : n < 10
  · rw [decL_small n h] at h1
    exact absurd h1 (by simp)
  · rw [decL_big n h]
    have hp := decL_pos (n / 10)
    rw [List.getD_eq_getElem?_getD, List.getElem?_append_left hp, ← List.getD_eq_getElem?_getD]
    by_cases h2 : n / 10 < 10
    · rw [decL_small _ h2]
      show 48 + n / 10 ≠ 48
      omega
    · refine ih (n / 10) (by omega) ?_
      rw [decL_big _ h2, List.length_append]
      have := decL_pos (n / 10 / 10)
      show 1 < _ + 1
      omega

/-- A text bears these bytes from there on. -/
def Bears (s : ByteArray) (i : Nat) (l : List Nat) : Prop := ∀ j, j < l.length → chAt s (i + j) = l.getD j 0
theorem Bears.head {s : ByteArray} {i x : Nat} {l : List Nat} (h : Bears s i (x :: l)) : chAt s i = x := h 0 (Nat.succ_pos _)
theorem Bears.tail {s : ByteArray} {i x : Nat} {l : List Nat} (h : Bears s i (x :: l)) : Bears s (i + 1) l := fun j hj => by
  have := h (j + 1) (Nat.succ_lt_succ hj)
  rw [show i + 1 + j = i + (j + 1) by omega]
  exact this
theorem digN_bears (s : ByteArray) : ∀ (l : List Nat) (i k : Nat), Bears s i l → (∀ x ∈ l, isDig x = true) → l.length ≤ k → (l.length = k ∨ isDig (chAt s (i + l.length)) = false) → digN s i k = l.length
  | [], i, k, _, _, _, h => by
    match k, h with
    | 0, _ => rfl
    | k + 1, .inr h => rw [digN, if_neg (by rw [show i = i + ([] : List Nat).length from rfl, h]; exact Bool.false_ne_true)]; rfl
  | x :: l, i, k, hb, hd, hk, h => by
    match k, hk with
    | k + 1, hk =>
      have h1 := digN_bears s l (i + 1) k hb.tail (fun y hy => hd y (List.mem_cons_of_mem _ hy)) (Nat.le_of_succ_le_succ hk) (by
        rcases h with h | h
        · exact .inl (Nat.succ.inj h)
        · exact .inr (by rw [show i + 1 + l.length = i + (x :: l).length by simp only [List.length_cons]; omega]; exact h))
      rw [digN, if_pos (by rw [hb.head]; exact hd x (List.mem_cons_self ..)), h1]
      rfl
theorem numVal_bears (s : ByteArray) (pos most : Nat) : ∀ (l : List Nat) (i v : Nat), Bears s (pos + i) l → v ≤ most → numVal s pos most i v l.length = if hL v l ≤ most then some (hL v l) else none
  | [], i, v, _, hv => by rw [show hL v [] = v from rfl, if_pos hv]; rfl
  | x :: l, i, v, hb, hv => by
    rw [List.length_cons, numVal, hb.head, show hL v (x :: l) = hL (10 * v + (x - 48)) l from rfl]
    by_cases h : most < 10 * v + (x - 48)
    · rw [if_pos (by omega), if_neg (by have := hL_ge l (10 * v + (x - 48)); omega)]
    · rw [if_neg (by omega)]
      exact numVal_bears s pos most l (i + 1) _ (by rw [← Nat.add_assoc]; exact hb.tail) (by omega)
theorem scMove_plain (s : ByteArray) : ∀ (l : List Nat) (c : Sc), Bears s c.pos l → (∀ x ∈ l, x ≠ 10) → scMove s c l.length = { c with pos := c.pos + l.length, col := c.col + l.length }
  | [], c, _, _ => rfl
  | x :: l, c, hb, hn => by
    have h1 : scStep s c = { c with pos := c.pos + 1, col := c.col + 1 } := by
      unfold scStep
      rw [if_neg (by rw [hb.head]; exact hn x (List.mem_cons_self ..))]
    rw [List.length_cons, scMove, h1, scMove_plain s l _ hb.tail (fun y hy => hn y (List.mem_cons_of_mem _ hy))]
    simp only [Sc.mk.injEq, true_and, and_true]
    omega
theorem isDig_ne {x : Nat} (h : isDig x = true) : x ≠ 10 := by
  unfold isDig at h
  rw [Bool.and_eq_true, decide_eq_true_iff, decide_eq_true_iff] at h
  omega
/-- A text that begins with a number's decimal, where no digit follows. -/
def Heads (s : ByteArray) (v : Nat) : Prop := Bears s 0 (decL v) ∧ (decL v).length ≤ s.size ∧ ((decL v).length = s.size ∨ isDig (chAt s (decL v).length) = false)
theorem Heads.digs {s : ByteArray} {v : Nat} (h : Heads s v) : scDigs s ⟨0, 1, 1, 0⟩ = (decL v).length :=
  digN_bears s (decL v) 0 _ h.1 (decL_dig v) h.2.1 (h.2.2.imp (fun h => by rw [h]; rfl) (fun h => by rw [Nat.zero_add]; exact h))
theorem Heads.form {s : ByteArray} {v : Nat} (h : Heads s v) : ¬ (scDigs s ⟨0, 1, 1, 0⟩ = 0 ∧ (⟨0, 1, 1, 0⟩ : Sc).pos = s.size) ∧ ¬ (scDigs s ⟨0, 1, 1, 0⟩ = 0 ∨ 1 < scDigs s ⟨0, 1, 1, 0⟩ ∧ chAt s (⟨0, 1, 1, 0⟩ : Sc).pos = 48) := by
  have h1 := h.digs
  have h2 := decL_pos v
  have h3 := decL_head v
  have h4 := h.1 0 h2
  rw [h1]
  refine ⟨fun h => by omega, fun h => ?_⟩
  rcases h with h | ⟨h, h5⟩
  · omega
  · exact h3 h (by rw [← h4]; exact h5)
theorem Heads.reads {s : ByteArray} {v most : Nat} (h : Heads s v) (hm : v ≤ most) : scNumVal s most ⟨0, 1, 1, 0⟩ = v ∧ scNum s most ⟨0, 1, 1, 0⟩ = ⟨(decL v).length, 1, (decL v).length + 1, 0⟩ := by
  have h1 := numVal_bears s 0 most (decL v) 0 0 h.1 (Nat.zero_le _)
  rw [hL_dec, if_pos hm] at h1
  unfold scNumVal scNum
  rw [if_pos rfl, if_pos rfl, if_neg h.form.1, if_neg h.form.2, if_neg h.form.1, if_neg h.form.2, h.digs, h1]
  refine ⟨rfl, ?_⟩
  show scMove s _ _ = _
  rw [scMove_plain s (decL v) _ h.1 (fun x hx => isDig_ne (decL_dig v x hx))]
  simp only [Sc.mk.injEq, true_and, and_true]
  omega
theorem Heads.long {s : ByteArray} {v most : Nat} (h : Heads s v) (hm : most < v) : scNumVal s most ⟨0, 1, 1, 0⟩ = 0 ∧ scNum s most ⟨0, 1, 1, 0⟩ = ⟨0, 1, 1, 22⟩ := by
  have h1 := numVal_bears s 0 most (decL v) 0 0 h.1 (Nat.zero_le _)
  rw [hL_dec, if_neg (by omega)] at h1
  unfold scNumVal scNum
  rw [if_pos rfl, if_pos rfl, if_neg h.form.1, if_neg h.form.2, if_neg h.form.1, if_neg h.form.2, h.digs, h1]
  exact ⟨rfl, rfl⟩
theorem chAt_append (a b : ByteArray) (i : Nat) : chAt (a ++ b) i = if i < a.size then chAt a i else chAt b (i - a.size) := by
  unfold chAt
  split
  case isTrue h =>
    rw [show (a ++ b)[i]? = a[i]? by
      rw [ByteArray.getElem?_lt' _ i (by rw [ByteArray.size_append]; omega), ByteArray.getElem?_lt' _ i h, ByteArray.getElem_append_left h]]
  case isFalse h =>
    by_cases h2 : i - a.size < b.size
    · rw [show (a ++ b)[i]? = b[i - a.size]? by
        rw [ByteArray.getElem?_lt' _ i (by rw [ByteArray.size_append]; omega), ByteArray.getElem?_lt' _ _ h2, ByteArray.getElem_append_right (by omega)]]
    · rw [show (a ++ b)[i]? = none by
        rw [getElem?_neg (a ++ b) i (by rw [ByteArray.size_append]; omega)], getElem?_neg b (i - a.size) h2]
theorem decL_lt (n : Nat) : ∀ x ∈ decL n, x < 256 := fun x hx => by
  have := decL_dig n x hx
  unfold isDig at this
  rw [Bool.and_eq_true, decide_eq_true_iff, decide_eq_true_iff] at this
  omega
/-- The decimal, and something behind it. -/
theorem heads_dec (v : Nat) (m : ByteArray) (hm : m.size = 0 ∨ isDig (chAt m 0) = false) : Heads (strOf (decL v) ++ m) v := by
  refine ⟨fun j hj => ?_, ?_, ?_⟩
  · rw [chAt_append, if_pos (by rw [strOf_length]; omega), Nat.zero_add]
    exact chAt_strOf _ _ hj (decL_lt v)
  · rw [ByteArray.size_append, strOf_length]
    omega
  · rcases hm with hm | hm
    · left
      rw [ByteArray.size_append, strOf_length, hm]
      rfl
    · right
      rw [chAt_append, strOf_length, if_neg (by omega), Nat.sub_self]
      exact hm
/-- A nought ahead of a digit. -/
theorem nought_dec (v most : Nat) : scNum (strOf [48] ++ strOf (decL v)) most ⟨0, 1, 1, 0⟩ = ⟨0, 1, 1, 21⟩ := by
  obtain ⟨s, hs⟩ : ∃ s, s = strOf [48] ++ strOf (decL v) := ⟨_, rfl⟩
  have hsz : s.size = 1 + (decL v).length := by rw [hs, ByteArray.size_append, strOf_length, strOf_length]; rfl
  have hp := decL_pos v
  have hb : Bears s 0 (48 :: decL v) := fun j hj => by
    rw [hs, strOf_append, Nat.zero_add]
    refine chAt_strOf _ _ hj (fun x hx => ?_)
    rcases List.mem_cons.mp hx with rfl | hx
    · decide
    · exact decL_lt v x hx
  have hd := digN_bears s (48 :: decL v) 0 (s.size - 0) hb (fun x hx => by
    rcases List.mem_cons.mp hx with rfl | hx
    · decide
    · exact decL_dig v x hx) (by rw [hsz, List.length_cons]; omega) (.inl (by rw [hsz, List.length_cons]; omega))
  rw [← hs]
  unfold scNum
  have hd' : scDigs s ⟨0, 1, 1, 0⟩ = (decL v).length + 1 := hd
  rw [if_pos rfl, hd', if_neg (by omega), if_pos (.inr ⟨by omega, hb.head⟩)]

end Go.Proofs.YtnffjafddbbjaaaGreatDoor

/-
  Where a word is read, where it is bent, where it is short.
-/
namespace Go.Proofs.YtnffjafddbbjaaaGreatDoor
open Go.RowKit

theorem wordErr_hit (s u : ByteArray) (pos : Nat) : ∀ (n i : Nat), (∀ j, j < n → pos + i + j < s.size ∧ chAt s (pos + i + j) = chAt u (i + j)) → wordErr s u pos i n = 0
  | 0, _, _ => rfl
  | n + 1, i, h => by
    have h0 := h 0 (Nat.succ_pos _)
    rw [wordErr, if_neg (by omega), if_pos (show chAt s (pos + i) = chAt u i from h0.2)]
    refine wordErr_hit s u pos n (i + 1) (fun j hj => ?_)
    have := h (j + 1) (by omega)
    rw [show pos + (i + 1) + j = pos + i + (j + 1) by omega, show i + 1 + j = i + (j + 1) by omega]
    exact this
theorem wordErr_form (s u : ByteArray) (pos : Nat) : ∀ (k n i : Nat), k < n → (∀ j, j < k → pos + i + j < s.size ∧ chAt s (pos + i + j) = chAt u (i + j)) → pos + i + k < s.size → chAt s (pos + i + k) ≠ chAt u (i + k) → wordErr s u pos i n = 21
  | 0, n + 1, i, _, _, h1, h2 => by rw [wordErr, if_neg (by omega), if_neg (show ¬ chAt s (pos + i) = chAt u i from h2)]
  | k + 1, n + 1, i, hk, h, h1, h2 => by
    have h0 := h 0 (Nat.succ_pos _)
    rw [wordErr, if_neg (by omega), if_pos (show chAt s (pos + i) = chAt u i from h0.2)]
    have e1 : pos + (i + 1) + k = pos + i + (k + 1) := by omega
    have e2 : i + 1 + k = i + (k + 1) := by omega
    refine wordErr_form s u pos k n (i + 1) (by omega) (fun j hj => ?_) (by rw [e1]; exact h1) (by rw [e1, e2]; exact h2)
    have := h (j + 1) (by omega)
    rw [show pos + (i + 1) + j = pos + i + (j + 1) by omega, show i + 1 + j = i + (j + 1) by omega]
    exact this
theorem wordErr_short (s u : ByteArray) (pos : Nat) : ∀ (k n i : Nat), k < n → (∀ j, j < k → pos + i + j < s.size ∧ chAt s (pos + i + j) = chAt u (i + j)) → s.size ≤ pos + i + k → wordErr s u pos i n = 20
  | 0, n + 1, i, _, _, h1 => by rw [wordErr, if_pos (by omega)]
  | k + 1, n + 1, i, hk, h, h1 => by
    have h0 := h 0 (Nat.succ_pos _)
    rw [wordErr, if_neg (by omega), if_pos (show chAt s (pos + i) = chAt u i from h0.2)]
    refine wordErr_short s u pos k n (i + 1) (by omega) (fun j hj => ?_) (by omega)
    have := h (j + 1) (by omega)
    rw [show pos + (i + 1) + j = pos + i + (j + 1) by omega, show i + 1 + j = i + (j + 1) by omega]
    exact this
theorem scMove_err (s : ByteArray) : ∀ (n : Nat) (c : Sc), (scMove s c n).err = c.err
  | 0, c => rfl
  | n + 1, c => by rw [scMove, scMove_err s n]; unfold scStep; split <;> rfl
/-- A word, and more behind it. -/
theorem word_hit (bs cs : List Nat) : scWordOk (strOf bs ++ strOf cs) (strOf bs) ⟨0, 1, 1, 0⟩ = true ∧ (scWord (strOf bs ++ strOf cs) (strOf bs) ⟨0, 1, 1, 0⟩).err = 0 := by
  have h : wordErr (strOf bs ++ strOf cs) (strOf bs) 0 0 (strOf bs).size = 0 := by
    refine wordErr_hit _ _ 0 _ 0 (fun j hj => ?_)
    simp only [Nat.zero_add]
    refine ⟨by rw [ByteArray.size_append]; omega, ?_⟩
    rw [chAt_append, if_pos hj]
  unfold scWordOk scWord
  rw [show (⟨0, 1, 1, 0⟩ : Sc).pos = 0 from rfl, h, if_pos rfl, if_pos rfl, scMove_err]
  exact ⟨rfl, rfl⟩
/-- A word, bent in one byte. -/
theorem word_bent (bs : List Nat) (k y : Nat) (hk : k < bs.length) (hb : ∀ x ∈ bs, x < 256) (hy : y < 256) (hne : y ≠ bs.getD k 0) : scWordOk (strOf (bs.set k y)) (strOf bs) ⟨0, 1, 1, 0⟩ = false ∧ scWord (strOf (bs.set k y)) (strOf bs) ⟨0, 1, 1, 0⟩ = ⟨0, 1, 1, 21⟩ := by
  have hb2 : ∀ x ∈ bs.set k y, x < 256 := fun x hx => by
    rcases List.mem_or_eq_of_mem_set hx with h | rfl
    · exact hb x h
    · exact hy
  have h : wordErr (strOf (bs.set k y)) (strOf bs) 0 0 (strOf bs).size = 21 := by
    refine wordErr_form _ _ 0 k _ 0 (by rw [strOf_length]; exact hk) (fun j hj => ?_) (by rw [strOf_length, List.length_set]; omega) ?_
    · simp only [Nat.zero_add]
      refine ⟨by rw [strOf_length, List.length_set]; omega, ?_⟩
      rw [chAt_strOf _ j (by rw [List.length_set]; omega) hb2, chAt_strOf bs j (by omega) hb, List.getD_eq_getElem?_getD, List.getD_eq_getElem?_getD, List.getElem?_set_ne (by omega)]
    · simp only [Nat.zero_add]
      rw [chAt_strOf _ k (by rw [List.length_set]; omega) hb2, chAt_strOf bs k hk hb, List.getD_eq_getElem?_getD, List.getElem?_set_self hk]
      exact hne
  unfold scWordOk scWord
  rw [show (⟨0, 1, 1, 0⟩ : Sc).pos = 0 from rfl, h, if_pos rfl, if_neg (by decide)]
  exact ⟨rfl, rfl⟩
/-- A word, cut short. -/
theorem word_short (bs : List Nat) (m : Nat) (hm : m < bs.length) (hb : ∀ x ∈ bs, x < 256) : scWordOk (strOf (bs.take m)) (strOf bs) ⟨0, 1, 1, 0⟩ = false ∧ scWord (strOf (bs.take m)) (strOf bs) ⟨0, 1, 1, 0⟩ = ⟨0, 1, 1, 20⟩ := by
  have hl : (bs.take m).length = m := by rw [List.length_take]; omega
  have h : wordErr (strOf (bs.take m)) (strOf bs) 0 0 (strOf bs).size = 20 := by
    refine wordErr_short _ _ 0 m _ 0 (by rw [strOf_length]; exact hm) (fun j hj => ?_) (by rw [strOf_length, hl]; omega)
    simp only [Nat.zero_add]
    refine ⟨by rw [strOf_length, hl]; exact hj, ?_⟩
    rw [chAt_strOf _ j (by rw [hl]; exact hj) (fun x hx => hb x (List.mem_of_mem_take hx)), chAt_strOf bs j (by omega) hb, List.getD_eq_getElem?_getD, List.getD_eq_getElem?_getD, List.getElem?_take_of_lt hj]
  unfold scWordOk scWord
  rw [show (⟨0, 1, 1, 0⟩ : Sc).pos = 0 from rfl, h, if_pos rfl, if_neg (by decide)]
  exact ⟨rfl, rfl⟩

end Go.Proofs.YtnffjafddbbjaaaGreatDoor

/-
  A scanner on a text of tokens (numbers, bytes): what it reads where they stand, where the text ends within them, and what stood there where it read on. Plain mathematics.
-/
namespace Go.Proofs.YtnffjafddbbjaaaGreatDoor
open Go.RowKit

theorem scNum_stop' {s : ByteArray} {most : Nat} {c : Sc} (he : c.err ≠ 0) : scNumVal s most c = 0 ∧ scNum s most c = c := by
  unfold scNumVal scNum
  rw [if_neg he, if_neg he]
  exact ⟨rfl, rfl⟩
theorem scWord_stop' {s u : ByteArray} {c : Sc} (he : c.err ≠ 0) : scWordOk s u c = false ∧ scWord s u c = c := by
  unfold scWordOk scWord
  rw [beq_eq_false_iff_ne.mpr he, if_neg he]
  exact ⟨rfl, rfl⟩

/-- Over some bytes. -/
def adv : List Nat → Sc → Sc
  | [], c => c
  | x :: l, c => adv l (if x = 10 then { c with pos := c.pos + 1, line := c.line + 1, col := 1 } else { c with pos := c.pos + 1, col := c.col + 1 })
theorem adv_append : ∀ (a b : List Nat) (c : Sc), adv (a ++ b) c = adv b (adv a c)
  | [], _, _ => rfl
  | x :: a, b, c => by rw [List.cons_append, adv, adv, adv_append a b]
theorem adv_pos : ∀ (a : List Nat) (c : Sc), (adv a c).pos = c.pos + a.length
  | [], _ => rfl
  | x :: a, c => by
    rw [adv, adv_pos a, List.length_cons]
    split <;> dsimp only <;> omega
theorem adv_err : ∀ (a : List Nat) (c : Sc), (adv a c).err = c.err
  | [], _ => rfl
  | x :: a, c => by
    rw [adv, adv_err a]
    split <;> rfl
theorem adv_plain : ∀ (l : List Nat) (c : Sc), (∀ x ∈ l, x ≠ 10) → adv l c = { c with pos := c.pos + l.length, col := c.col + l.length }
  | [], c, _ => rfl
  | x :: l, c, h => by
    rw [adv, if_neg (h x (List.mem_cons_self ..)), adv_plain l _ (fun y hy => h y (List.mem_cons_of_mem _ hy))]
    simp only [Sc.mk.injEq, true_and, and_true, List.length_cons]
    omega
theorem step_adv {s : ByteArray} {c : Sc} {x : Nat} (h : chAt s c.pos = x) : scStep s c = adv [x] c := by
  unfold scStep
  rw [h]
  rfl
theorem move_adv (s : ByteArray) : ∀ (l : List Nat) (c : Sc), Bears s c.pos l → scMove s c l.length = adv l c
  | [], c, _ => rfl
  | x :: l, c, h => by
    have h1 := step_adv (s := s) (c := c) h.head
    rw [List.length_cons, scMove, h1, move_adv s l _ (by rw [adv_pos]; exact h.tail)]
    rfl
theorem Bears.append {s : ByteArray} {i : Nat} : ∀ {a b : List Nat}, Bears s i a → Bears s (i + a.length) b → Bears s i (a ++ b)
  | [], _, _, hb => by simpa using hb
  | x :: a, b, ha, hb => by
    intro j hj
    match j with
    | 0 => exact ha.head
    | j + 1 =>
      have h1 : Bears s (i + 1) (a ++ b) := Bears.append ha.tail (by rw [show i + 1 + a.length = i + (x :: a).length by rw [List.length_cons]; omega]; exact hb)
      have := h1 j (by simp at hj ⊢; omega)
      rw [show i + (j + 1) = i + 1 + j by omega, this]
      rfl
theorem Bears.left {s : ByteArray} {i : Nat} {a b : List Nat} (h : Bears s i (a ++ b)) : Bears s i a := fun j hj => by
  have := h j (by rw [List.length_append]; omega)
  rw [this, List.getD_eq_getElem?_getD, List.getElem?_append_left hj, ← List.getD_eq_getElem?_getD]
theorem Bears.right {s : ByteArray} {i : Nat} {a b : List Nat} (h : Bears s i (a ++ b)) : Bears s (i + a.length) b := fun j hj => by
  have := h (a.length + j) (by rw [List.length_append]; omega)
  rw [show i + a.length + j = i + (a.length + j) by omega, this, List.getD_eq_getElem?_getD, List.getElem?_append_right (by omega), List.getD_eq_getElem?_getD]
  congr 2
  omega
theorem Bears.nil (s : ByteArray) (i : Nat) : Bears s i [] := fun j hj => by simp at hj
theorem Bears.one {s : ByteArray} {i x : Nat} (h : chAt s i = x) : Bears s i [x] := fun j hj => by
  obtain rfl : j = 0 := by simp at hj; omega
  exact h

/-- A number, digit by digit: so it is read. -/
structure DigsAt (s : ByteArray) (c : Sc) (l : List Nat) : Prop where
  bears : Bears s c.pos l
  pos : 0 < l.length
  dig : ∀ x ∈ l, isDig x = true
  head : 1 < l.length → l.getD 0 0 ≠ 48
  fits : c.pos + l.length ≤ s.size
  stop : c.pos + l.length = s.size ∨ isDig (chAt s (c.pos + l.length)) = false
theorem DigsAt.digs {s : ByteArray} {c : Sc} {l : List Nat} (h : DigsAt s c l) : scDigs s c = l.length :=
  digN_bears s l c.pos _ h.bears h.dig (by have := h.fits; omega) (h.stop.imp (fun h => by omega) (fun h => h))
theorem DigsAt.form {s : ByteArray} {c : Sc} {l : List Nat} (h : DigsAt s c l) : ¬ (scDigs s c = 0 ∧ c.pos = s.size) ∧ ¬ (scDigs s c = 0 ∨ 1 < scDigs s c ∧ chAt s c.pos = 48) := by
  have h1 := h.digs
  have h2 := h.pos
  have h4 := h.bears 0 h2
  rw [h1]
  refine ⟨fun h => by omega, fun h5 => ?_⟩
  rcases h5 with h5 | ⟨h5, h6⟩
  · omega
  · exact h.head h5 (by rw [← h4]; exact h6)
theorem DigsAt.reads {s : ByteArray} {c : Sc} {l : List Nat} {most : Nat} (h : DigsAt s c l) (he : c.err = 0) (hm : hL 0 l ≤ most) : scNumVal s most c = hL 0 l ∧ scNum s most c = adv l c := by
  have h1 := numVal_bears s c.pos most l 0 0 h.bears (Nat.zero_le _)
  rw [if_pos hm] at h1
  unfold scNumVal scNum
  rw [if_pos he, if_pos he, if_neg h.form.1, if_neg h.form.2, if_neg h.form.1, if_neg h.form.2, h.digs, h1]
  exact ⟨rfl, move_adv s l c h.bears⟩
theorem DigsAt.long {s : ByteArray} {c : Sc} {l : List Nat} {most : Nat} (h : DigsAt s c l) (he : c.err = 0) (hm : most < hL 0 l) : scNumVal s most c = 0 ∧ scNum s most c = { c with err := 22 } := by
  have h1 := numVal_bears s c.pos most l 0 0 h.bears (Nat.zero_le _)
  rw [if_neg (by omega)] at h1
  unfold scNumVal scNum
  rw [if_pos he, if_pos he, if_neg h.form.1, if_neg h.form.2, if_neg h.form.1, if_neg h.form.2, h.digs, h1]
  exact ⟨rfl, rfl⟩
theorem digs_dec {s : ByteArray} {c : Sc} {v : Nat} (h : Bears s c.pos (decL v)) (hp : c.pos + (decL v).length ≤ s.size) (hn : c.pos + (decL v).length = s.size ∨ isDig (chAt s (c.pos + (decL v).length)) = false) : DigsAt s c (decL v) :=
  ⟨h, decL_pos v, decL_dig v, decL_head v, hp, hn⟩
/-- At the end there is none. -/
theorem num_end {s : ByteArray} {c : Sc} {most : Nat} (he : c.err = 0) (hp : c.pos = s.size) : scNumVal s most c = 0 ∧ scNum s most c = { c with err := 20 } := by
  have h0 : scDigs s c = 0 := by unfold scDigs; rw [hp, Nat.sub_self]; rfl
  unfold scNumVal scNum
  rw [if_pos he, if_pos he, if_pos ⟨h0, hp⟩, if_pos ⟨h0, hp⟩]
  exact ⟨rfl, rfl⟩
/-- Where no digit stands. -/
theorem num_form {s : ByteArray} {c : Sc} {most : Nat} (he : c.err = 0) (hp : c.pos < s.size) (hd : isDig (chAt s c.pos) = false) : scNumVal s most c = 0 ∧ scNum s most c = { c with err := 21 } := by
  have h0 : scDigs s c = 0 := by
    unfold scDigs
    obtain ⟨k, hk⟩ : ∃ k, s.size - c.pos = k + 1 := ⟨s.size - c.pos - 1, by omega⟩
    rw [hk, digN, if_neg (by rw [hd]; exact Bool.false_ne_true)]
  unfold scNumVal scNum
  rw [if_pos he, if_pos he, if_neg (by omega), if_pos (.inl h0), if_neg (by omega), if_pos (.inl h0)]
  exact ⟨rfl, rfl⟩

/-- Digits are their number's decimal. -/
theorem dec_hL : ∀ (n : Nat) (l : List Nat), l.length = n → 0 < l.length → (∀ x ∈ l, isDig x = true) → (1 < l.length → l.getD 0 0 ≠ 48) → decL (hL 0 l) = l := by
  intro n
  induction n with
  | zero => intro l hl h0; omega
  | succ n ih =>
    intro l hl h0 hd hh
    have hne : l ≠ [] := fun h => by rw [h] at h0; simp at h0
    obtain ⟨x, m, hx, hlm⟩ : ∃ x m, isDig x = true ∧ l = m ++ [x] := ⟨l.getLast hne, l.dropLast, hd _ (List.getLast_mem hne), (List.dropLast_concat_getLast hne).symm⟩
    subst hlm
    have hxd : 48 ≤ x ∧ x ≤ 57 := by
      unfold isDig at hx
      rw [Bool.and_eq_true, decide_eq_true_iff, decide_eq_true_iff] at hx
      exact hx
    have hv : hL 0 (m ++ [x]) = 10 * hL 0 m + (x - 48) := by
      unfold hL
      rw [List.foldl_append]
      rfl
    rw [hv]
    by_cases hm : m.length = 0
    · obtain rfl : m = [] := List.eq_nil_of_length_eq_zero hm
      rw [decL_small _ (by simp [hL]; omega)]
      show [48 + (10 * 0 + (x - 48))] = [x]
      congr 1
      omega
    · have hml : m.length = n := by simp at hl; omega
      have hh2 : m.getD 0 0 ≠ 48 := by
        have := hh (by simp; omega)
        rwa [List.getD_eq_getElem?_getD, List.getElem?_append_left (by omega), ← List.getD_eq_getElem?_getD] at this
      have h1 := ih m hml (by omega) (fun y hy => hd y (List.mem_append_left _ hy)) (fun _ => hh2)
      have h2 : hL 0 m ≠ 0 := fun h => by
        rw [h, decL_small 0 (by decide)] at h1
        rw [← h1] at hh2
        exact hh2 rfl
      rw [decL_big _ (by omega), show (10 * hL 0 m + (x - 48)) / 10 = hL 0 m by omega, show (10 * hL 0 m + (x - 48)) % 10 = x - 48 by omega, h1]
      congr 2
      omega
theorem digN_end (s : ByteArray) : ∀ (k i : Nat), digN s i k < k → isDig (chAt s (i + digN s i k)) = false
  | 0, _, h => by omega
  | k + 1, i, h => by
    rw [digN] at h ⊢
    split at h
    case isTrue hd =>
      rw [if_pos hd]
      have := digN_end s k (i + 1) (by omega)
      rw [show i + (digN s (i + 1) k + 1) = i + 1 + digN s (i + 1) k by omega]
      exact this
    case isFalse hd =>
      rw [if_neg hd]
      simpa using hd
/-- What stood there, where a number was read. -/
theorem num_inv {s : ByteArray} {c : Sc} {most : Nat} (he : c.err = 0) (hp : c.pos ≤ s.size) (h : (scNum s most c).err = 0) : DigsAt s c (decL (scNumVal s most c)) ∧ scNumVal s most c ≤ most ∧ scNum s most c = adv (decL (scNumVal s most c)) c := by
  by_cases h1 : scDigs s c = 0 ∧ c.pos = s.size
  · rw [(num_end he h1.2).2] at h; simp at h
  · by_cases h2 : scDigs s c = 0 ∨ 1 < scDigs s c ∧ chAt s c.pos = 48
    · unfold scNum at h
      rw [if_pos he, if_neg h1, if_pos h2] at h
      simp at h
    · obtain ⟨l, hl⟩ : ∃ l, l = (List.range (scDigs s c)).map (fun j => chAt s (c.pos + j)) := ⟨_, rfl⟩
      have hlen : l.length = scDigs s c := by rw [hl]; simp
      have hle : scDigs s c ≤ s.size - c.pos := digN_le s _ _
      have hD : DigsAt s c l := by
        refine ⟨fun j hj => ?_, by omega, fun x hx => ?_, fun h5 h6 => ?_, by omega, ?_⟩
        · rw [hl, List.getD_eq_getElem?_getD]
          rw [hlen] at hj
          simp [hj]
        · rw [hl] at hx
          simp only [List.mem_map, List.mem_range] at hx
          obtain ⟨j, hj, rfl⟩ := hx
          exact digN_dig s _ _ j hj
        · refine h2 (.inr ⟨by omega, ?_⟩)
          rw [hl, List.getD_eq_getElem?_getD] at h6
          have h7 : 0 < scDigs s c := by omega
          simpa [h7] using h6
        · by_cases h5 : scDigs s c = s.size - c.pos
          · exact .inl (by omega)
          · refine .inr ?_
            rw [hlen]
            exact digN_end s _ _ (by have : scDigs s c = digN s c.pos (s.size - c.pos) := rfl; omega)
      have hdec := dec_hL _ l rfl hD.pos hD.dig hD.head
      by_cases hm : hL 0 l ≤ most
      · obtain ⟨e1, e2⟩ := hD.reads he hm
        rw [e1, hdec]
        exact ⟨hD, hm, e2⟩
      · rw [(hD.long he (by omega)).2] at h
        simp at h
/-- .. where a byte was. -/
theorem byte_inv {s : ByteArray} {c : Sc} {b : Nat} (he : c.err = 0) (hb : b < 256) (h : (scByte s b c).err = 0) : c.pos < s.size ∧ chAt s c.pos = b ∧ scByte s b c = adv [b] c := by
  by_cases hp : c.pos < s.size
  · by_cases h1 : chAt s c.pos = b
    · exact ⟨hp, h1, by rw [(scByte_hit he hp hb h1).2, step_adv h1]⟩
    · rw [(scByte_miss he hp hb h1).2] at h
      simp at h
  · rw [(scByte_end he (by omega)).2] at h
    simp at h

/-- A token: a number, at most so great; a byte. -/
inductive Tok where
  | num (v most : Nat)
  | byte (b : Nat)
def Tok.bytes : Tok → List Nat
  | .num v _ => decL v
  | .byte b => [b]
def toksL (l : List Tok) : List Nat := l.flatMap Tok.bytes
def runT (s : ByteArray) : List Tok → Sc → Sc
  | [], c => c
  | .num _ most :: r, c => runT s r (scNum s most c)
  | .byte b :: r, c => runT s r (scByte s b c)
/-- Behind each number stands a byte that is no digit. -/
def TokOk : List Tok → Prop
  | [] => True
  | .num v most :: r => v ≤ most ∧ (∃ b r', r = .byte b :: r' ∧ isDig b = false) ∧ TokOk r
  | .byte b :: r => b < 256 ∧ TokOk r
theorem runT_stop {s : ByteArray} : ∀ (l : List Tok) {c : Sc}, c.err ≠ 0 → runT s l c = c
  | [], _, _ => rfl
  | .num v most :: r, c, h => by rw [runT, (scNum_stop' h).2, runT_stop r h]
  | .byte b :: r, c, h => by rw [runT, (scByte_stop h).2, runT_stop r h]
theorem toksL_cons (t : Tok) (r : List Tok) : toksL (t :: r) = t.bytes ++ toksL r := rfl
theorem runT_append (s : ByteArray) : ∀ (a b : List Tok) (c : Sc), runT s (a ++ b) c = runT s b (runT s a c)
  | [], _, _ => rfl
  | .num v most :: a, b, c => by rw [List.cons_append, runT, runT, runT_append s a b]
  | .byte x :: a, b, c => by rw [List.cons_append, runT, runT, runT_append s a b]
/-- Where all of them stand. -/
theorem runT_at {s : ByteArray} : ∀ (r : List Tok) {c : Sc}, TokOk r → c.err = 0 → Bears s c.pos (toksL r) → c.pos + (toksL r).length ≤ s.size → runT s r c = adv (toksL r) c
  | [], _, _, _, _, _ => rfl
  | .num v most :: r, c, hk, he, hb, hs => by
    obtain ⟨hm, ⟨b, r', hr, hd⟩, hk'⟩ := hk
    rw [toksL_cons] at hb hs ⊢
    rw [List.length_append] at hs
    have hbl : (Tok.bytes (.num v most)) = decL v := rfl
    rw [hbl] at hb hs ⊢
    have hnext : isDig (chAt s (c.pos + (decL v).length)) = false := by
      have := hb.right
      rw [hr, toksL_cons] at this
      have h2 : chAt s (c.pos + (decL v).length) = b := this.head
      rw [h2]; exact hd
    obtain ⟨e1, e2⟩ := (digs_dec hb.left (by omega) (.inr hnext)).reads (most := most) he (by rw [hL_dec]; exact hm)
    rw [runT, e2, runT_at r hk' (by rw [adv_err]; exact he) (by rw [adv_pos]; exact hb.right) (by rw [adv_pos]; omega), adv_append]
  | .byte b :: r, c, hk, he, hb, hs => by
    obtain ⟨hb6, hk'⟩ := hk
    rw [toksL_cons] at hb hs ⊢
    rw [List.length_append] at hs
    have hbl : (Tok.bytes (.byte b)) = [b] := rfl
    rw [hbl] at hb hs ⊢
    have h1 : chAt s c.pos = b := hb.left.head
    have e2 : scByte s b c = adv [b] c := by rw [(scByte_hit he (by simp at hs; omega) hb6 h1).2, step_adv h1]
    rw [runT, e2, runT_at r hk' (by rw [adv_err]; exact he) (by rw [adv_pos]; exact hb.right) (by rw [adv_pos]; omega), adv_append]
/-- Where the text ends within them: short, at its end. -/
theorem hL_take (l : List Nat) (k : Nat) : hL 0 (l.take k) ≤ hL 0 l := by
  conv => rhs; rw [← List.take_append_drop k l]
  unfold hL
  rw [List.foldl_append]
  exact hL_ge (l.drop k) _
theorem take_bears {s : ByteArray} {i k : Nat} {a b : List Nat} (h : Bears s i ((a ++ b).take k)) (hk : a.length ≤ k) : Bears s i a ∧ Bears s (i + a.length) (b.take (k - a.length)) := by
  rw [List.take_append, List.take_of_length_le hk] at h
  exact ⟨h.left, h.right⟩
theorem runT_cut {s : ByteArray} : ∀ (r : List Tok) {c : Sc}, TokOk r → c.err = 0 → c.pos ≤ s.size → s.size < c.pos + (toksL r).length → Bears s c.pos ((toksL r).take (s.size - c.pos)) → runT s r c = { adv ((toksL r).take (s.size - c.pos)) c with err := 20 }
  | [], _, _, _, _, h, _ => by simp [toksL] at h; omega
  | .num v most :: r, c, hk, he, hp, hs, hb => by
    obtain ⟨hm, ⟨b, r', hr, hd⟩, hk'⟩ := hk
    rw [toksL_cons] at hb hs ⊢
    have hbl : (Tok.bytes (.num v most)) = decL v := rfl
    rw [hbl] at hb hs ⊢
    rw [List.length_append] at hs
    by_cases hin : (decL v).length ≤ s.size - c.pos
    · -- all of the number
      obtain ⟨h1, h2⟩ := take_bears hb hin
      have hD : DigsAt s c (decL v) := by
        refine digs_dec h1 (by omega) ?_
        by_cases h3 : c.pos + (decL v).length = s.size
        · exact .inl h3
        · refine .inr ?_
          have h4 : 0 < s.size - c.pos - (decL v).length := by omega
          rw [hr, toksL_cons] at h2
          have h5 : ([b] ++ toksL r').take (s.size - c.pos - (decL v).length) = b :: (toksL r').take (s.size - c.pos - (decL v).length - 1) := by
            obtain ⟨m, hm⟩ : ∃ m, s.size - c.pos - (decL v).length = m + 1 := ⟨s.size - c.pos - (decL v).length - 1, by omega⟩
            rw [hm]
            rfl
          have h6 : Bears s (c.pos + (decL v).length) (b :: (toksL r').take (s.size - c.pos - (decL v).length - 1)) := by rw [← h5]; exact h2
          rw [h6.head]; exact hd
      obtain ⟨e1, e2⟩ := hD.reads (most := most) he (by rw [hL_dec]; exact hm)
      have e3 : s.size - (adv (decL v) c).pos = s.size - c.pos - (decL v).length := by rw [adv_pos]; omega
      rw [runT, e2, runT_cut r hk' (by rw [adv_err]; exact he) (by rw [adv_pos]; omega) (by rw [adv_pos]; omega) (by rw [e3, adv_pos]; exact h2), e3, List.take_append, List.take_of_length_le hin, adv_append]
    · -- part of it
      have ht : (decL v ++ toksL r).take (s.size - c.pos) = (decL v).take (s.size - c.pos) := by rw [List.take_append_of_le_length (by omega)]
      rw [ht] at hb ⊢
      by_cases h0 : s.size - c.pos = 0
      · have hpe : c.pos = s.size := by omega
        rw [runT, (num_end he hpe).2, runT_stop r (by simp), h0]
        rfl
      · have hlen : ((decL v).take (s.size - c.pos)).length = s.size - c.pos := by rw [List.length_take]; omega
        have hD : DigsAt s c ((decL v).take (s.size - c.pos)) := by
          refine ⟨hb, by omega, fun x hx => decL_dig v x (List.mem_of_mem_take hx), fun h1 => ?_, by omega, .inl (by omega)⟩
          have h2 := decL_head v (by omega)
          rwa [List.getD_eq_getElem?_getD, List.getElem?_take, if_pos (by omega), ← List.getD_eq_getElem?_getD]
        obtain ⟨e1, e2⟩ := hD.reads (most := most) he (Nat.le_trans (hL_take _ _) (by rw [hL_dec]; exact hm))
        have hpe : (adv ((decL v).take (s.size - c.pos)) c).pos = s.size := by rw [adv_pos]; omega
        rw [runT, e2, hr, runT, (scByte_end (by rw [adv_err]; exact he) (by omega)).2, runT_stop r' (by simp)]
  | .byte b :: r, c, hk, he, hp, hs, hb => by
    obtain ⟨hb6, hk'⟩ := hk
    rw [toksL_cons] at hb hs ⊢
    have hbl : (Tok.bytes (.byte b)) = [b] := rfl
    rw [hbl] at hb hs ⊢
    rw [List.length_append] at hs
    by_cases h0 : s.size - c.pos = 0
    · rw [runT, (scByte_end he (by omega)).2, runT_stop r (by simp), h0]
      rfl
    · obtain ⟨h1, h2⟩ := take_bears hb (show [b].length ≤ s.size - c.pos by simp; omega)
      have h3 : chAt s c.pos = b := h1.head
      have e2 : scByte s b c = adv [b] c := by rw [(scByte_hit he (by omega) hb6 h3).2, step_adv h3]
      have e3 : s.size - (adv [b] c).pos = s.size - c.pos - [b].length := by rw [adv_pos]; omega
      rw [runT, e2, runT_cut r hk' (by rw [adv_err]; exact he) (by rw [adv_pos]; simp; omega) (by rw [adv_pos]; simp at hs ⊢; omega) (by rw [e3, adv_pos]; exact h2), e3, List.take_append, List.take_of_length_le (show [b].length ≤ s.size - c.pos by simp; omega), adv_append]

end Go.Proofs.YtnffjafddbbjaaaGreatDoor

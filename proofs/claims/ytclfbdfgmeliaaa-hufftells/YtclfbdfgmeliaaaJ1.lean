/-
  Texts of ours, joined: Mem PMath PLens PLaws BMath KMath Lex.
-/
import Derived.WalkKit
import Derived.WalkSpells
import Derived.Deep.QuietTactic
import Derived.BigQuiet
import Derived.Deep.AppendLies
import Derived.ProofKit
import Derived.OpenShut
import Derived.Deep.RegionHeld3

/-
  What a call may have touched: a frame by a set of blocks; and what the call's own rows keep. No program is named here.
-/
namespace Go.Proofs.Ytclfbdfgmeliaaa
open Go.RowKit

/-- Of the blocks that were there all but those of S are as they were. -/
structure Fr (w w' : World) (S : Nat → Prop) : Prop where
  os : w'.os = w.os
  tape : w'.tape = w.tape
  output : w'.output = w.output
  size : w.heap.size ≤ w'.heap.size
  block : ∀ k, k < w.heap.size → ¬ S k → w'.heap[k]? = w.heap[k]?

theorem Fr.refl (w : World) (S : Nat → Prop) : Fr w w S := ⟨rfl, rfl, rfl, Nat.le_refl _, fun _ _ _ => rfl⟩

theorem Fr.trans {a b c : World} {S T : Nat → Prop} (h : Fr a b S) (k : Fr b c T) (hT : ∀ i, i < a.heap.size → T i → S i) : Fr a c S :=
  ⟨k.os.trans h.os, k.tape.trans h.tape, k.output.trans h.output, Nat.le_trans h.size k.size,
    fun i hi hs => (k.block i (Nat.lt_of_lt_of_le hi h.size) (fun ht => hs (hT i hi ht))).trans (h.block i hi hs)⟩

theorem Fr.mono {a b : World} {S T : Nat → Prop} (h : Fr a b S) (hT : ∀ i, i < a.heap.size → S i → T i) : Fr a b T :=
  ⟨h.os, h.tape, h.output, h.size, fun i hi hs => h.block i hi (fun ht => hs (hT i hi ht))⟩

theorem Fr.alloc {a b : World} {S : Nat → Prop} (h : Fr a b S) (o : Obj) : Fr a (b.alloc o) S :=
  ⟨h.os, h.tape, h.output, by have := h.size; simp; omega, fun k hk hs => (Below.heap_alloc _ _ _ (by have := h.size; omega)).trans (h.block k hk hs)⟩

theorem Fr.drew {a b : World} {S : Nat → Prop} (h : Fr a b S) : Fr a b.drew S := ⟨h.os, h.tape, h.output, h.size, h.block⟩

theorem Fr.drewN {a b : World} {S : Nat → Prop} (h : Fr a b S) (n : Nat) : Fr a (b.drewN n) S := ⟨h.os, h.tape, h.output, h.size, h.block⟩

theorem Fr.setCell {a b : World} {S : Nat → Prop} (h : Fr a b S) (p : Addr) (hp : p.block < a.heap.size → S p.block) (u : Value) : Fr a (b.setCell p u) S :=
  ⟨h.os, h.tape, h.output, by have := h.size; simp [World.setCell]; omega, fun k hk hs => (Below.heap_setCell _ _ _ _ (fun e => by subst e; exact hs (hp hk))).trans (h.block k hk hs)⟩

theorem Fr.grown {a b c : World} {S : Nat → Prop} {row : Option Nat} (h : Fr a b S) (hg : b.grownBy c row) (hr : ∀ k, row = some k → k < a.heap.size → S k) : Fr a c S :=
  ⟨hg.os.trans h.os, hg.tape.trans h.tape, hg.output.trans h.output, Nat.le_trans h.size hg.size,
    fun k hk hs => (hg.block k (by have := h.size; omega) (fun e => hs (hr k e.symm hk))).trans (h.block k hk hs)⟩

theorem Fr.below {w w' : World} {S : Nat → Prop} (h : Fr w w' S) {B : Nat} (hB : B ≤ w.heap.size) (hS : ∀ k, S k → B ≤ k) : Below B w w' :=
  ⟨h.os, h.tape, h.output, h.size, fun k hk => h.block k (by omega) (fun hs => by have := hS k hs; omega)⟩

theorem Fr.of_below {w w' : World} (h : Below w.heap.size w w') (S : Nat → Prop) : Fr w w' S :=
  ⟨h.os, h.tape, h.output, h.size, fun k hk _ => h.block k hk⟩

theorem Fr.kept {w w' : World} {S : Nat → Prop} (h : Fr w w' S) {b : Nat} {o : Obj} (hb : w.heap[b]? = some o) (hs : ¬ S b) : w'.heap[b]? = some o :=
  (h.block b (lt_of_block hb) hs).trans hb

theorem Fr.owns {w w' : World} {S : Nat → Prop} (h : Fr w w' S) {base : Nat} {e : TypeId} {size : Nat} {v : Value} {n : Nat} {xs : List Value} (ho : w.ownsRow base e size v n xs)
    (hs : ∀ k, v.ownBlock = some k → ¬ S k) : w'.ownsRow base e size v n xs := by
  refine ⟨ho.1, ?_⟩
  rcases ho.2 with hn | ⟨g, cap, cur, rfl, hb, hgg, rest⟩
  · exact .inl hn
  · exact .inr ⟨g, cap, cur, rfl, hb, h.kept hgg (hs g rfl), rest⟩

/-- A block of two cells. -/
theorem two_cell0 {w : World} {b : Nat} {x y : Value} {t : TypeId} (h : w.heap[b]? = some (.cells #[x, y] t (0, 0))) : w.cell? ⟨b, 0, none⟩ = some x := by simp [World.cell?, h]
theorem two_cell1 {w : World} {b : Nat} {x y : Value} {t : TypeId} (h : w.heap[b]? = some (.cells #[x, y] t (0, 0))) : w.cell? ⟨b, 1, none⟩ = some y := by simp [World.cell?, h]
theorem two_free {w : World} {b : Nat} {x y : Value} {t : TypeId} (h : w.heap[b]? = some (.cells #[x, y] t (0, 0))) (j : Nat) : w.frozen? ⟨b, j, none⟩ = false := by simp [World.frozen?, h]
theorem two_set0 {w : World} {b : Nat} {x y u : Value} {t : TypeId} (h : w.heap[b]? = some (.cells #[x, y] t (0, 0))) : (w.setCell ⟨b, 0, none⟩ u).heap[b]? = some (.cells #[u, y] t (0, 0)) := by
  have := heap_setCell_same w b 0 #[x, y] t u h
  simpa using this
theorem two_set1 {w : World} {b : Nat} {x y u : Value} {t : TypeId} (h : w.heap[b]? = some (.cells #[x, y] t (0, 0))) : (w.setCell ⟨b, 1, none⟩ u).heap[b]? = some (.cells #[x, u] t (0, 0)) := by
  have := heap_setCell_same w b 1 #[x, y] t u h
  simpa using this
/-- A store into another block. -/
theorem blk_set_other {w : World} {b : Nat} {o : Obj} {a : Addr} {u : Value} (h : w.heap[b]? = some o) (hne : b ≠ a.block) : (w.setCell a u).heap[b]? = some o := by
  rw [Below.heap_setCell _ _ _ _ hne]; exact h
theorem blk_alloc {w : World} {b : Nat} {o : Obj} (x : Obj) (h : w.heap[b]? = some o) : (w.alloc x).heap[b]? = some o := by
  rw [Below.heap_alloc _ _ _ (lt_of_block h)]; exact h

/-- A row of numbers of one kind. -/
def row (k : IntKind) (bs : List Nat) : List Value := bs.map fun (b : Nat) => Value.int k (b : Int)
theorem length_row (k : IntKind) (bs : List Nat) : (row k bs).length = bs.length := by simp [row]
theorem row_get (k : IntKind) (bs : List Nat) (j : Nat) (h : j < bs.length) : (row k bs)[j]? = some (.int k ((bs.getD j 0 : Nat) : Int)) := by simp [row, h, List.getD]
theorem row_append (k : IntKind) (a b : List Nat) : row k (a ++ b) = row k a ++ row k b := by simp [row]
theorem row_set (k : IntKind) (a : List Nat) (j x : Nat) : row k (a.set j x) = (row k a).set j (.int k (x : Int)) := by simp [row, List.map_set]
theorem row_take (k : IntKind) (a : List Nat) (n : Nat) : row k (a.take n) = (row k a).take n := by simp [row, List.map_take]
theorem row_drop (k : IntKind) (a : List Nat) (n : Nat) : row k (a.drop n) = (row k a).drop n := by simp [row, List.map_drop]
theorem row_one (k : IntKind) (bs : List Nat) : ∀ u ∈ row k bs, u.oneCell' = true := by
  intro u hu
  simp only [row, List.mem_map] at hu
  obtain ⟨b, _, rfl⟩ := hu
  rfl

theorem add_none (b off j : Nat) : (⟨b, off, none⟩ : Addr).add j = ⟨b, off + j, none⟩ := by unfold Addr.add; split <;> simp_all

/-- A slice that can be read: the cells xs. -/
def Holds (w : World) (v : Value) (xs : List Value) : Prop :=
  ∃ ao cap, v = .slice ao xs.length cap ∧ xs.length ≤ cap ∧ (0 < xs.length → ∃ b off, ao = some ⟨b, off, none⟩ ∧ ∀ j u, xs[j]? = some u → w.cell? ⟨b, off + j, none⟩ = some u)
/-- A slice of numbers of one kind that can be read: bs. -/
def Reads (k : IntKind) (w : World) (v : Value) (bs : List Nat) : Prop := Holds w v (row k bs)

theorem Holds.frame' {w w' : World} {v : Value} {xs : List Value} {S : Nat → Prop} (h : Holds w v xs) (f : Fr w w' S) (hs : 0 < xs.length → ∀ k, v.ownBlock = some k → ¬ S k) : Holds w' v xs := by
  obtain ⟨ao, cap, rfl, hlc, hc⟩ := h
  refine ⟨ao, cap, rfl, hlc, fun hp => ?_⟩
  obtain ⟨b, off, rfl, hcell⟩ := hc hp
  refine ⟨b, off, rfl, fun j u hj => ?_⟩
  have h1 := hcell j u hj
  have h2 := World.block_lt_of_cell? _ _ h1
  rw [World.cell?_of_block (w := w) (f.block _ h2 (hs hp _ rfl))]
  exact h1
theorem Holds.frame {w w' : World} {v : Value} {xs : List Value} {S : Nat → Prop} (h : Holds w v xs) (f : Fr w w' S) (hs : ∀ k, v.ownBlock = some k → ¬ S k) : Holds w' v xs := h.frame' f (fun _ => hs)
theorem Holds.keep {w w' : World} {v : Value} {xs : List Value} (h : Holds w v xs) (f : Fr w w' (fun _ => False)) : Holds w' v xs := h.frame f (fun _ _ h => h)
theorem Reads.keep {k : IntKind} {w w' : World} {v : Value} {bs : List Nat} (h : Reads k w v bs) (f : Fr w w' (fun _ => False)) : Reads k w' v bs := Holds.keep h f
theorem Reads.frame {k : IntKind} {w w' : World} {v : Value} {bs : List Nat} {S : Nat → Prop} (h : Reads k w v bs) (f : Fr w w' S) (hs : ∀ k, v.ownBlock = some k → ¬ S k) : Reads k w' v bs := Holds.frame h f hs
theorem Reads.frame' {k : IntKind} {w w' : World} {v : Value} {bs : List Nat} {S : Nat → Prop} (h : Reads k w v bs) (f : Fr w w' S) (hs : 0 < bs.length → ∀ k, v.ownBlock = some k → ¬ S k) : Reads k w' v bs :=
  Holds.frame' h f (by rw [length_row]; exact hs)

theorem holds_own {w : World} {e : TypeId} {v : Value} {n : Nat} {xs : List Value} (h : w.ownsRow 0 e 1 v n xs) : Holds w v xs := by
  have hl : xs.length = n := by have := h.1; omega
  rcases h.2 with ⟨rfl, h0⟩ | ⟨g, cap, cur, rfl, _, _, hcc, _⟩
  · exact ⟨_, 0, by rw [hl, h0], by omega, fun hp => by omega⟩
  · exact ⟨some ⟨g, 0, _⟩, cap, by rw [hl], by omega, fun _ => ⟨g, 0, rfl, fun j u hj => by have := h.cells rfl j u hj; rwa [add_none] at this⟩⟩

/-- The first cells of a slice: what b[:n] is. -/
theorem Holds.take {w : World} {ao : Option Addr} {len cap : Nat} {xs : List Value} (h : Holds w (.slice ao len cap) xs) (n : Nat) (hn : n ≤ len) (cap' : Nat) (hcap : n ≤ cap') : Holds w (.slice ao n cap') (xs.take n) := by
  obtain ⟨ao', cap0, e, -, hc⟩ := h
  simp only [Value.slice.injEq] at e
  obtain ⟨rfl, rfl, rfl⟩ := e
  refine ⟨ao, cap', by rw [List.length_take, Nat.min_eq_left hn], by rw [List.length_take]; omega, fun hp => ?_⟩
  obtain ⟨b, off, rfl, hcell⟩ := hc (by rw [List.length_take] at hp; omega)
  refine ⟨b, off, rfl, fun j u hj => hcell j u ?_⟩
  rw [List.getElem?_take] at hj
  split at hj
  · exact hj
  · cases hj
/-- The cells of a slice from n on: what b[n:] is. -/
theorem Holds.drop {w : World} {b off len cap : Nat} {xs : List Value} (h : Holds w (.slice (some ⟨b, off, none⟩) len cap) xs) (n : Nat) (_hn : n ≤ len) (cap' : Nat) (hcap : len - n ≤ cap') : Holds w (.slice (some ⟨b, off + n, none⟩) (len - n) cap') (xs.drop n) := by
  obtain ⟨ao', cap0, e, -, hc⟩ := h
  simp only [Value.slice.injEq] at e
  obtain ⟨rfl, rfl, rfl⟩ := e
  refine ⟨some ⟨b, off + n, _⟩, cap', by rw [List.length_drop], by rw [List.length_drop]; exact hcap, fun hp => ⟨b, off + n, rfl, fun j u hj => ?_⟩⟩
  rw [List.length_drop] at hp
  obtain ⟨b', off', e, hcell⟩ := hc (by omega)
  simp only [Option.some.injEq, Addr.mk.injEq, and_true] at e
  obtain ⟨rfl, rfl⟩ := e
  rw [List.getElem?_drop] at hj
  rw [Nat.add_assoc]
  exact hcell _ u hj

/-- The slice is where it was, or in new memory. -/
def Moved (w : World) (sv sv' : Value) : Prop := ∀ k, sv'.ownBlock = some k → sv.ownBlock = some k ∨ w.heap.size ≤ k
theorem Moved.refl (w : World) (sv : Value) : Moved w sv sv := fun _ h => .inl h
theorem Moved.trans {w w1 : World} {a b c : Value} (h : Moved w a b) (h1 : Moved w1 b c) (hs : w.heap.size ≤ w1.heap.size) : Moved w a c := fun k hk => by
  rcases h1 k hk with h2 | h2
  · exact h k h2
  · exact .inr (by omega)
theorem Moved.mono' {w w1 : World} {a b : Value} (h : Moved w1 a b) (hs : w.heap.size ≤ w1.heap.size) : Moved w a b := fun k hk => by
  rcases h k hk with h2 | h2
  · exact .inl h2
  · exact .inr (by omega)
theorem Fr.none {a b c : World} {S : Nat → Prop} (h : Fr a b S) (k : Fr b c (fun _ => False)) : Fr a c S :=
  h.trans k (fun _ _ ht => ht.elim)
/-- Behind a step that touches a slice's own row alone. -/
theorem Fr.own {a b c : World} {sv sv' : Value} (h : Fr a b (fun k => sv.ownBlock = some k)) (k : Fr b c (fun k => sv'.ownBlock = some k)) (hm : Moved a sv sv') : Fr a c (fun k => sv.ownBlock = some k) :=
  h.trans k (fun i hi ht => by
    rcases hm i ht with h2 | h2
    · exact h2
    · omega)
/-- Behind a step that touches what is newer alone. -/
theorem Fr.newer {a b c : World} {S T : Nat → Prop} (h : Fr a b S) (k : Fr b c T) (hn : ∀ i, T i → a.heap.size ≤ i) : Fr a c S :=
  h.trans k (fun i hi ht => by have := hn i ht; omega)

/-- A slice that is written out. -/
theorem own_lit (w : World) (e : TypeId) (cs : List Value) (h : cs.length ≤ 1000) : (w.alloc (.cells cs.toArray e)).ownsRow 0 e 1 (.slice (some ⟨w.heap.size, 0, Option.none⟩) cs.length cs.length) cs.length cs := by
  have := World.ownsRow_lit (e := e) (size := 1) (base := 0) w cs.toArray cs.length (Nat.zero_le _) (by unfold maxLen; omega) (by simp)
  simpa using this
theorem holds_lit (w : World) (e : TypeId) (cs : List Value) (h : cs.length ≤ 1000) : Holds (w.alloc (.cells cs.toArray e)) (.slice (some ⟨w.heap.size, 0, Option.none⟩) cs.length cs.length) cs :=
  holds_own (own_lit w e cs h)
theorem row1_one (k : IntKind) (x : Int) : ∀ y ∈ [Value.int k x], y.oneCell' = true := by intro y hy; simp at hy; subst hy; rfl

/-- append onto a slice that the call owns, of a slice that can be read: what was there still reads as it did. -/
theorem run_append_holds {P : Program} (w : World) (t ty e : TypeId) (i : TypeInfo) (z : Value) (bytes : Nat) (ht : P.underlying t = some (.slice e)) (hi : P.info? e = some i) (hz : i.zero = some z)
    (hsize : i.size = 1) (hby : i.bytes = bytes) (hzs : z.cells.size = 1) (hb8 : bytes ≤ 1000) (v : Value) (n : Nat) (xs : List Value) (hown : w.ownsRow 0 e 1 v n xs) (u : Value) (ys : List Value) (hu : Holds w u ys)
    (h1 : ∀ y ∈ ys, y.oneCell' = true) (hb : n + ys.length ≤ 100000000000) :
    ∃ v' w', (Builtin.append_ #[t, t] ty #[v, u]).run P w = .ok v' w' ∧ w'.ownsRow 0 e 1 v' (n + ys.length) (xs ++ ys) ∧ Fr w w' (fun k => v.ownBlock = some k) ∧ Moved w v v' ∧ Holds w' v xs ∧ (∀ k, v'.ownBlock = some k → k < w'.heap.size) := by
  obtain ⟨ao, cap, rfl, hlc, hc⟩ := hu
  have hbb : (n + ys.length) * bytes ≤ 140737488355328 := by
    have := Nat.mul_le_mul hb hb8
    omega
  by_cases h0 : 0 < ys.length
  · obtain ⟨b, off, rfl, hcell⟩ := hc h0
    have hnews : ∀ j u, ys[j]? = some u → w.cell? ((⟨b, off, Option.none⟩ : Addr).add j) = some u := fun j u hj => by rw [add_none]; exact hcell j u hj
    obtain ⟨v', w', hr, ho, hg, _, hat⟩ := run_append_own_at (P := P) w 0 t ty e i z 1 bytes ht hi hz hsize hby hzs (by decide) v n xs hown ⟨b, off, Option.none⟩ ys.length cap ys (by omega) hnews h1 (by unfold maxLen; omega) hbb (Nat.zero_le _)
    refine ⟨v', w', hr, ho, (Fr.refl w _).grown hg (fun k hk _ => hk), fun k hk => ?_, ?_, fun k hk => (ho.lt k hk).2⟩
    · rcases hat with hat | hat
      · exact .inl (hat ▸ hk)
      · rw [hat] at hk; simp at hk; exact .inr (by omega)
    · have hxl : xs.length = n := by have := hown.1; omega
      rcases hown.2 with ⟨rfl, h0⟩ | ⟨g, cp, cur, rfl, hbg, hgg, hnc, hcm, hcs, htake⟩
      · exact ⟨Option.none, 0, by rw [hxl, h0], by omega, fun hp => by omega⟩
      · by_cases hroom : n + ys.length ≤ cp
        · have hr2 := run_append_room (P := P) w t ty e i ht hi g n cp cur hgg ⟨b, off, Option.none⟩ ys.length cap ys (by rw [hsize]; omega) hnews h1 hroom (by rw [hsize]; omega)
          rw [hr] at hr2
          simp only [Result.ok.injEq] at hr2
          obtain ⟨rfl, _⟩ := hr2
          refine ⟨some ⟨g, 0, Option.none⟩, cp, by rw [hxl], by omega, fun _ => ⟨g, 0, rfl, fun j u hj => ?_⟩⟩
          have := ho.cells (g := g) rfl j u (by rw [List.getElem?_append_left (List.getElem?_eq_some_iff.1 hj).1]; exact hj)
          rwa [add_none] at this
        · have hr2 := run_append_grow (P := P) w t ty e i z ht hi hz ⟨g, 0, Option.none⟩ n cp xs (by rw [hsize]; exact hown.1) (hown.cells rfl) ⟨b, off, Option.none⟩ ys.length cap ys (by rw [hsize]; omega) hnews (by omega) (by omega) (growslice_fits (by omega) (by rw [hby]; exact hbb))
          rw [hr] at hr2
          simp only [Result.ok.injEq] at hr2
          obtain ⟨_, rfl⟩ := hr2
          exact (holds_own hown).keep ((Fr.refl w (fun _ => False)).drew.alloc _)
  · have e0 : ys = [] := List.eq_nil_of_length_eq_zero (by omega)
    subst e0
    refine ⟨v, w, ?_, by simpa using hown, Fr.refl _ _, Moved.refl _ _, holds_own hown, fun k hk => (hown.lt k hk).2⟩
    cases ao with
    | none =>
      by_cases hc0 : cap = 0
      · subst hc0
        exact run_append_owned_none (P := P) w 0 t ty e i 1 ht hi v n xs hown
      · rcases hown.2 with ⟨rfl, rfl⟩ | ⟨g, cp, cur, rfl, _, _, hnc, _⟩
        · simp [Builtin.append_, run_underlying ht, sizeOf, typeInfo, hi, Builtin.lenOf, Builtin.firstCells]
        · simp [Builtin.append_, run_underlying ht, sizeOf, typeInfo, hi, Builtin.lenOf, Builtin.firstCells, hnc, storeCells]
    | some a =>
      rcases hown.2 with ⟨rfl, rfl⟩ | ⟨g, cp, cur, rfl, _, _, hnc, _⟩
      · simp [Builtin.append_, run_underlying ht, sizeOf, typeInfo, hi, Builtin.lenOf, Builtin.firstCells, loadCells, loadCellsFrom]
      · simp [Builtin.append_, run_underlying ht, sizeOf, typeInfo, hi, Builtin.lenOf, Builtin.firstCells, loadCells, loadCellsFrom, hnc, storeCells]

/-- append outside a region that draws, by its run. -/
theorem wpList_append_run {P : Program} {w : World} {ops : Array Oper} {rest : List Oper} {o : Oper} {a : Act} {Q : Exit → Act → World → Prop} (hgd : o.guard = none) (s x : Operand) (t : TypeId)
    (ho : o.op = .call { callee := .builtin .append, args := #[s, x], argTypes := #[t, t] }) {u v v' : Value} {w' : World} (hs : a.eval s = u) (hx : a.eval x = v)
    (hrun : (Builtin.append_ #[t, t] o.type #[u, v]).run P w = .ok v' w') (h : wpList P ops Q rest (a.put o.dst v') w') : wpList P ops Q (o :: rest) a w := by
  refine wpList_plain hgd fun K hK => ?_
  unfold Oper.wp execOp
  simp only [ho, resolve, invoke, builtin, Sem.run_bind, Sem.run_pure, Result.andThen_ok, List.map_toArray, List.map_cons, List.map_nil, hs, hx, hrun]
  exact hK _ _ h

/-- What is known of a slice of integers that came in. -/
def IsRow (k : IntKind) (w : World) (a : Option Addr) (len cap : Nat) (zs : List Int) : Prop :=
  (a = none ∧ len = 0 ∧ cap = 0 ∧ zs = []) ∨
  ∃ x, a = some x ∧ len ≤ cap ∧ cap ≤ maxLen ∧ zs.length = cap ∧ (∀ i, i < zs.length → w.cell? (x.add i) = some (.int k (zs.getD i 0))) ∧ ∀ n ∈ zs, (Lit.int k n).wf = true

theorem spot_none {w : World} {x : Addr} {u : Value} (h : w.cell? (x.add 0) = some u) : ∃ b off, x = ⟨b, off, none⟩ := by
  obtain ⟨b, off, spot⟩ := x
  cases spot with
  | none => exact ⟨b, off, rfl⟩
  | some s =>
    exfalso
    unfold World.cell? at h
    split at h
    · simp [Addr.add] at h
    · cases h

/-- It can be read, as numbers below m. -/
theorem reads_isRow {k : IntKind} {m : Nat} (hm : ∀ n : Int, (Lit.int k n).wf = true → 0 ≤ n ∧ n < m) (hm0 : 0 < m) {w : World} {a : Option Addr} {len cap : Nat} {zs : List Int} (h : IsRow k w a len cap zs) :
    ∃ bs : List Nat, bs.length = len ∧ (∀ j, bs.getD j 0 < m) ∧ Reads k w (.slice a len cap) bs ∧ (∀ k, (Value.slice a len cap).ownBlock = some k → 0 < len → k < w.heap.size) := by
  rcases h with ⟨rfl, rfl, rfl, rfl⟩ | ⟨x, rfl, hl, _, hz, hc, hw⟩
  · exact ⟨[], rfl, fun j => by simpa using hm0, ⟨Option.none, 0, rfl, Nat.le_refl _, fun h => by simp [row] at h⟩, fun k h => by simp [Value.ownBlock] at h⟩
  · refine ⟨(zs.take len).map Int.toNat, by simp; omega, fun j => ?_, ⟨some x, cap, by simp [row]; omega, by simp [row]; omega, fun hp => ?_⟩, fun k hk hp => ?_⟩
    · simp only [List.getD_eq_getElem?_getD, List.getElem?_map]
      cases hj : (zs.take len)[j]? with
      | none => simpa using hm0
      | some z =>
        have hmm : z ∈ zs := List.mem_of_mem_take (List.mem_of_getElem? hj)
        have := hm z (hw z hmm)
        simp; omega
    · have hp' : 0 < len := by simp [row] at hp; omega
      obtain ⟨b, off, rfl⟩ := spot_none (hc 0 (by omega))
      refine ⟨b, off, rfl, fun j u hj => ?_⟩
      have hjl : j < len := by
        have := (List.getElem?_eq_some_iff.1 hj).1
        simp [row] at this; omega
      have hcj := hc j (by omega)
      rw [add_none] at hcj
      rw [hcj]
      have hzj : j < zs.length := by omega
      have hb := hm _ (hw (zs.getD j 0) (by rw [List.getD_eq_getElem?_getD, List.getElem?_eq_getElem hzj]; exact List.getElem_mem hzj))
      simp only [row, List.getElem?_map, List.getElem?_take, hjl, if_true, List.getElem?_eq_getElem hzj, Option.map_some, Option.some.injEq] at hj
      rw [← hj]
      simp only [List.getD_eq_getElem?_getD, List.getElem?_eq_getElem hzj, Option.getD_some] at hb ⊢
      congr 2
      omega
    · simp [Value.ownBlock] at hk
      subst hk
      have := World.block_lt_of_cell? _ _ (hc 0 (by omega))
      obtain ⟨b, off, rfl⟩ := spot_none (hc 0 (by omega))
      exact this
theorem small_u8 (n : Int) (h : (Lit.int .u8 n).wf = true) : 0 ≤ n ∧ n < (256 : Nat) := by have := bounds_u8 h; omega
theorem small_u64 (n : Int) (h : (Lit.int .u64 n).wf = true) : 0 ≤ n ∧ n < (18446744073709551616 : Nat) := by have := bounds_u64 h; omega

/-- A row that is owned and has an element is no nil: its block. -/
theorem own_form {w : World} {base : Nat} {e : TypeId} {size : Nat} {v : Value} {n : Nat} {xs : List Value} (h : w.ownsRow base e size v n xs) (hn : 0 < n) :
    ∃ g cap, v = .slice (some ⟨g, 0, none⟩) n cap ∧ ∃ cur, w.heap[g]? = some (.cells cur e (0, 0)) := by
  rcases h.2 with ⟨_, h'⟩ | ⟨g, cap, cur, h', _, hg, _⟩
  · omega
  · exact ⟨g, cap, h', cur, hg⟩

theorem getD_mem {us : List Nat} {i : Nat} (h : i < us.length) : us.getD i 0 ∈ us := by
  rw [List.getD_eq_getElem?_getD, List.getElem?_eq_getElem h]; exact List.getElem_mem h
theorem take_step {us : List Nat} {i : Nat} (h : i < us.length) : us.take (i + 1) = us.take i ++ [us.getD i 0] := by
  rw [List.take_add_one, List.getD_eq_getElem?_getD, List.getElem?_eq_getElem h]; rfl

theorem drop_step {bs : List Nat} {i : Nat} (h : i < bs.length) : bs.drop i = bs.getD i 0 :: bs.drop (i + 1) := by
  rw [List.drop_eq_getElem_cons h, List.getD_eq_getElem?_getD, List.getElem?_eq_getElem h]; rfl

theorem getD_lt {bs : List Nat} {m : Nat} (hm : 0 < m) (h : ∀ x ∈ bs, x < m) (j : Nat) : bs.getD j 0 < m := by
  rw [List.getD_eq_getElem?_getD]
  cases hj : bs[j]? with
  | none => simpa using hm
  | some x => simpa using h x (List.mem_of_getElem? hj)

theorem mem_take_lt {bs : List Nat} {n : Nat} (h : ∀ x ∈ bs, x < 256) : ∀ x ∈ bs.take n, x < 256 := fun x hx => h x (List.mem_of_mem_take hx)

/-- What b[n:] is. -/
theorem reads_drop {k : IntKind} {w : World} {ao : Option Addr} {len cap : Nat} {bs : List Nat} (h : Reads k w (.slice ao len cap) bs) (n : Nat) (hn : n ≤ len) :
    Reads k w (.slice (if cap = n then ao else Option.map (fun x => x.add n) ao) (len - n) (cap - n)) (bs.drop n) := by
  obtain ⟨ao', cap', e, hlc, hc⟩ := id h
  simp only [Value.slice.injEq] at e
  obtain ⟨rfl, hl, rfl⟩ := e
  rw [length_row] at hl hlc hc
  by_cases h0 : 0 < bs.length - n
  · obtain ⟨b, off, rfl, -⟩ := hc (by omega)
    rw [if_neg (by omega)]
    simp only [Option.map_some, add_none]
    have := Holds.drop h n hn (cap - n) (by omega)
    rwa [← row_drop] at this
  · refine ⟨if cap = n then ao else Option.map (fun x => x.add n) ao, cap - n, ?_, ?_, fun hp => ?_⟩
    · rw [length_row, List.length_drop, hl]
    · rw [length_row, List.length_drop]; omega
    · rw [length_row, List.length_drop] at hp; omega

/-- A slice that can be read is a slice. -/
theorem Reads.form {k : IntKind} {w : World} {v : Value} {bs : List Nat} (h : Reads k w v bs) : ∃ a l c, v = .slice a l c := by
  obtain ⟨a, c, h, _⟩ := h
  exact ⟨_, _, _, h⟩

end Go.Proofs.Ytclfbdfgmeliaaa

/-
  Package-merge: plain mathematics, no program. Lists of packages by levels; what the first of them hold; no lengths cost less.
-/
namespace Go.Proofs.Ytclfbdfgmeliaaa

section
variable (wt : Nat → Nat)

/-- What a package weighs. -/
def W (y : List Nat) : Nat := (y.map wt).sum
/-- Two by two. -/
def pk : List (List Nat) → List (List Nat)
  | a :: b :: r => (a ++ b) :: pk r
  | _ => []
/-- By weight, the first list ahead where alike. -/
def mg : List (List Nat) → List (List Nat) → List (List Nat)
  | [], q => q
  | c :: cs, [] => c :: cs
  | c :: cs, p :: ps => if W wt c ≤ W wt p then c :: mg cs (p :: ps) else p :: mg (c :: cs) ps
termination_by c p => c.length + p.length
def coin (cs : List Nat) : List (List Nat) := cs.map fun s => [s]
def lv (cs : List Nat) : Nat → List (List Nat)
  | 0 => coin cs
  | k + 1 => mg wt (coin cs) (pk (lv cs k))
/-- How often a symbol is in packages. -/
def occ (T : List (List Nat)) (s : Nat) : Nat := T.flatten.count s
/-- By weight. -/
def Up (l : List (List Nat)) : Prop := l.Pairwise fun a b => W wt a ≤ W wt b

theorem W_append (a b : List Nat) : W wt (a ++ b) = W wt a + W wt b := by simp [W]
theorem W_one (s : Nat) : W wt [s] = wt s := by simp [W]
theorem W_mem {y : List Nat} {s : Nat} (h : s ∈ y) : wt s ≤ W wt y := by
  induction y with
  | nil => cases h
  | cons a y ih =>
    simp only [W, List.map_cons, List.sum_cons] at ih ⊢
    rcases List.mem_cons.1 h with rfl | h
    · omega
    · have := ih h; omega

theorem pk_length : ∀ l : List (List Nat), (pk l).length = l.length / 2
  | [] => rfl
  | [_] => by simp [pk]
  | a :: b :: r => by simp [pk, pk_length r]; omega
theorem pk_take : ∀ (l : List (List Nat)) (p : Nat), p ≤ (pk l).length → (pk l).take p = pk (l.take (2 * p))
  | l, 0, _ => by simp [pk]
  | [], p + 1, h => by simp [pk] at h
  | [_], p + 1, h => by simp [pk] at h
  | a :: b :: r, p + 1, h => by
    have := pk_take r p (by simpa [pk] using h)
    simp [pk, this, Nat.mul_add]
theorem pk_flatten : ∀ (l : List (List Nat)), l.length % 2 = 0 → (pk l).flatten = l.flatten
  | [], _ => rfl
  | [_], h => by simp at h
  | a :: b :: r, h => by
    have := pk_flatten r (by simp at h; omega)
    simp [pk, this]
theorem pk_ge : ∀ (r : List (List Nat)) (x y : Nat), (∀ z ∈ r, x ≤ W wt z) → (∀ z ∈ r, y ≤ W wt z) → ∀ q ∈ pk r, x + y ≤ W wt q
  | [], _, _, _, _, q, hq => by simp [pk] at hq
  | [_], _, _, _, _, q, hq => by simp [pk] at hq
  | a :: b :: r, x, y, hx, hy, q, hq => by
    rw [pk, List.mem_cons] at hq
    rcases hq with rfl | hq
    · rw [W_append]
      have := hx a (by simp)
      have := hy b (by simp)
      omega
    · exact pk_ge r x y (fun z hz => hx z (by simp [hz])) (fun z hz => hy z (by simp [hz])) q hq
theorem pk_up : ∀ (l : List (List Nat)), Up wt l → Up wt (pk l)
  | [], _ => List.Pairwise.nil
  | [_], _ => List.Pairwise.nil
  | a :: b :: r, h => by
    unfold Up at *
    rw [List.pairwise_cons, List.pairwise_cons] at h
    obtain ⟨h1, h2, h3⟩ := h
    rw [pk, List.pairwise_cons]
    refine ⟨fun q hq => ?_, pk_up r h3⟩
    rw [W_append]
    exact pk_ge wt r _ _ (fun z hz => h1 z (by simp [hz])) h2 q hq

theorem mg_length : ∀ (c p : List (List Nat)), (mg wt c p).length = c.length + p.length
  | [], p => by simp [mg]
  | c :: cs, [] => by simp [mg]
  | c :: cs, p :: ps => by
    unfold mg
    split
    · simp [mg_length cs (p :: ps)]; omega
    · simp [mg_length (c :: cs) ps]; omega
termination_by c p => c.length + p.length

theorem mg_mem : ∀ (c p : List (List Nat)) (x : List Nat), x ∈ mg wt c p ↔ x ∈ c ∨ x ∈ p
  | [], p, x => by simp [mg]
  | c :: cs, [], x => by simp [mg]
  | c :: cs, p :: ps, x => by
    unfold mg
    split
    · simp [mg_mem cs (p :: ps) x, or_assoc]
    · simp [mg_mem (c :: cs) ps x]
      constructor
      · rintro (h | h | h)
        · exact .inr (.inl h)
        · exact .inl h
        · exact .inr (.inr h)
      · rintro (h | h | h)
        · exact .inr (.inl h)
        · exact .inl h
        · exact .inr (.inr h)
termination_by c p => c.length + p.length

theorem mg_up : ∀ (c p : List (List Nat)), Up wt c → Up wt p → Up wt (mg wt c p)
  | [], p, _, h => by simpa [mg] using h
  | c :: cs, [], h, _ => by simpa [mg] using h
  | c :: cs, p :: ps, hc, hp => by
    have hc' := hc
    have hp' := hp
    unfold Up at hc hp
    rw [List.pairwise_cons] at hc hp
    unfold mg
    split
    · rename_i h
      unfold Up
      rw [List.pairwise_cons]
      refine ⟨fun x hx => ?_, mg_up cs (p :: ps) hc.2 hp'⟩
      rcases (mg_mem wt _ _ x).1 hx with hx | hx
      · exact hc.1 x hx
      · rcases List.mem_cons.1 hx with rfl | hx
        · exact h
        · exact Nat.le_trans h (hp.1 x hx)
    · rename_i h
      unfold Up
      rw [List.pairwise_cons]
      refine ⟨fun x hx => ?_, mg_up (c :: cs) ps hc' hp.2⟩
      rcases (mg_mem wt _ _ x).1 hx with hx | hx
      · rcases List.mem_cons.1 hx with rfl | hx
        · omega
        · have := hc.1 x hx; omega
      · exact hp.1 x hx
termination_by c p => c.length + p.length

/-- The first t of two merged lists: the first of each; what is left of the first list weighs more than those of the second. -/
theorem mg_take : ∀ (c p : List (List Nat)) (t : Nat), Up wt c → t ≤ c.length + p.length →
    ∃ i j, i + j = t ∧ i ≤ c.length ∧ j ≤ p.length ∧ List.Perm ((mg wt c p).take t) (c.take i ++ p.take j) ∧ ∀ x ∈ c.drop i, ∀ q ∈ p.take j, W wt q < W wt x
  | [], p, t, _, h => ⟨0, t, by omega, by simp, by simpa using h, by simp [mg], by simp⟩
  | c :: cs, [], t, _, h => ⟨t, 0, by omega, by simpa using h, by simp, by simp [mg], by simp⟩
  | c :: cs, p :: ps, 0, _, _ => ⟨0, 0, rfl, by simp, by simp, by simp, by simp⟩
  | c :: cs, p :: ps, t + 1, hc, h => by
    have hc' := hc
    unfold Up at hc
    rw [List.pairwise_cons] at hc
    unfold mg
    split
    · obtain ⟨i, j, h1, h2, h3, h4, h5⟩ := mg_take cs (p :: ps) t hc.2 (by simp at h ⊢; omega)
      refine ⟨i + 1, j, by omega, by simp; omega, h3, ?_, by simpa using h5⟩
      simpa using h4
    · rename_i hlt
      obtain ⟨i, j, h1, h2, h3, h4, h5⟩ := mg_take (c :: cs) ps t hc' (by simp at h ⊢; omega)
      refine ⟨i, j + 1, by omega, h2, by simp; omega, ?_, fun x hx q hq => ?_⟩
      · rw [List.take_succ_cons, List.take_succ_cons]
        refine (List.Perm.cons p h4).trans ?_
        exact List.perm_middle.symm
      · rw [List.take_succ_cons, List.mem_cons] at hq
        rcases hq with rfl | hq
        · rcases List.mem_cons.1 (List.mem_of_mem_drop hx) with rfl | hx
          · omega
          · have := hc.1 x hx; omega
        · exact h5 x hx q hq
termination_by c p => c.length + p.length

theorem coin_up {cs : List Nat} (h : cs.Pairwise fun a b => wt a ≤ wt b) : Up wt (coin cs) := by
  unfold Up coin
  rw [List.pairwise_map]
  simpa [W] using h
theorem coin_length (cs : List Nat) : (coin cs).length = cs.length := by simp [coin]
theorem coin_flatten (cs : List Nat) : (coin cs).flatten = cs := by
  induction cs with
  | nil => rfl
  | cons a cs ih => simp [coin] at ih ⊢; exact ih
theorem coin_take (cs : List Nat) (i : Nat) : (coin cs).take i = coin (cs.take i) := by simp [coin, List.map_take]
theorem coin_drop (cs : List Nat) (i : Nat) : (coin cs).drop i = coin (cs.drop i) := by simp [coin, List.map_drop]

theorem lv_up {cs : List Nat} (h : cs.Pairwise fun a b => wt a ≤ wt b) : ∀ k, Up wt (lv wt cs k)
  | 0 => coin_up wt h
  | k + 1 => mg_up wt _ _ (coin_up wt h) (pk_up wt _ (lv_up h k))

theorem lv_length (cs : List Nat) : ∀ k, (lv wt cs k).length = cs.length * (2 ^ (k + 1) - 1) / 2 ^ k
  | 0 => by simp [lv, coin_length]
  | k + 1 => by
    rw [lv, mg_length, coin_length, pk_length, lv_length cs k, Nat.div_div_eq_div_mul, ← Nat.pow_succ]
    have h2 : 2 ^ (k + 1 + 1) = 2 * 2 ^ (k + 1) := by rw [Nat.pow_succ]; omega
    have hp := Nat.two_pow_pos (k + 1)
    generalize 2 ^ (k + 1) = x at *
    rw [h2, show cs.length * (2 * x - 1) = cs.length * (x - 1) + cs.length * x by rw [← Nat.mul_add]; congr 1; omega, Nat.add_mul_div_right _ _ hp, Nat.add_comm]

theorem sum_congr {l : List Nat} {f g : Nat → Nat} (h : ∀ s ∈ l, f s = g s) : (l.map f).sum = (l.map g).sum := by
  rw [List.map_congr_left h]
theorem sum_add (l : List Nat) (f g : Nat → Nat) : (l.map fun s => f s + g s).sum = (l.map f).sum + (l.map g).sum := by
  induction l with
  | nil => rfl
  | cons a l ih => simp only [List.map_cons, List.sum_cons, ih]; omega
theorem sum_const_map (l : List Nat) (c : Nat) : (l.map fun _ => c).sum = l.length * c := by
  induction l with
  | nil => simp
  | cons a l ih => simp only [List.map_cons, List.sum_cons, ih, List.length_cons, Nat.succ_mul]; omega
theorem sum_split (l : List Nat) (i : Nat) (f : Nat → Nat) : (l.map f).sum = ((l.take i).map f).sum + ((l.drop i).map f).sum := by
  conv => lhs; rw [← List.take_append_drop i l]
  rw [List.map_append, List.sum_append]

/-- How wide so many coins of a symbol are. -/
def wide2 (k n : Nat) : Nat := 2 ^ (k + 1) - 2 ^ (k + 1 - n)
theorem wide2_zero (k : Nat) : wide2 k 0 = 0 := by simp [wide2]
theorem wide2_succ (k n : Nat) (_h : n ≤ k + 1) : wide2 (k + 1) (1 + n) = 2 ^ (k + 1) + wide2 k n := by
  unfold wide2
  have h1 : 2 ^ (k + 1 - n) ≤ 2 ^ (k + 1) := Nat.pow_le_pow_right (by omega) (by omega)
  rw [show k + 1 + 1 - (1 + n) = k + 1 - n by omega, Nat.pow_succ 2 (k + 1)]
  omega

theorem nodup_count {l : List Nat} (h : l.Nodup) {s : Nat} (hs : s ∈ l) : l.count s = 1 := by
  induction l with
  | nil => cases hs
  | cons a l ih =>
    rw [List.nodup_cons] at h
    rcases List.mem_cons.1 hs with rfl | hs
    · rw [List.count_cons_self, List.count_eq_zero.2 h.1]
    · have : a ≠ s := fun e => h.1 (e ▸ hs)
      rw [List.count_cons_of_ne this, ih h.2 hs]
theorem nodup_split {l : List Nat} (h : l.Nodup) (i : Nat) {s : Nat} (h1 : s ∈ l.take i) (h2 : s ∈ l.drop i) : False := by
  rw [← List.take_append_drop i l, List.nodup_append] at h
  exact h.2.2 s h1 s h2 rfl

/-- One coin more of the first i: no later symbol has more. -/
theorem down_step {cs : List Nat} (i : Nat) {o n : Nat → Nat} (h1 : ∀ s ∈ cs.take i, o s = 1 + n s) (h0 : ∀ s ∈ cs.drop i, o s = 0) (hd : cs.Pairwise fun a b => n b ≤ n a) : cs.Pairwise fun a b => o b ≤ o a := by
  rw [← List.take_append_drop i cs, List.pairwise_append]
  refine ⟨?_, ?_, fun a _ b hb => by rw [h0 b hb]; omega⟩
  · refine List.Pairwise.imp_of_mem ?_ (hd.sublist (List.take_sublist i cs))
    intro a b ha hb h
    rw [h1 a ha, h1 b hb]; omega
  · refine List.Pairwise.imp_of_mem ?_ (hd.sublist (List.drop_sublist i cs))
    intro a b ha hb _
    rw [h0 b hb]; omega

/-- The first t of level k + 1. -/
theorem lv_split {cs : List Nat} (hup : cs.Pairwise fun a b => wt a ≤ wt b) (hnd : cs.Nodup) (k t : Nat) (ht : t ≤ (lv wt cs (k + 1)).length) :
    ∃ i j, i + j = t ∧ i ≤ cs.length ∧ 2 * j ≤ (lv wt cs k).length ∧
      (∀ s, occ ((lv wt cs (k + 1)).take t) s = (cs.take i).count s + occ ((lv wt cs k).take (2 * j)) s) ∧
      (∀ s ∈ cs.drop i, (cs.take i).count s = 0 ∧ occ ((lv wt cs k).take (2 * j)) s = 0) ∧ (∀ s ∈ cs.take i, (cs.take i).count s = 1) ∧
      (((lv wt cs (k + 1)).take t).map (W wt)).sum = ((cs.take i).map wt).sum + (((lv wt cs k).take (2 * j)).map (W wt)).sum := by
  rw [lv] at ht ⊢
  obtain ⟨i, j, h1, h2, h3, h4, h5⟩ := mg_take wt (coin cs) (pk (lv wt cs k)) t (coin_up wt hup) (by rw [mg_length] at ht; exact ht)
  rw [coin_length] at h2
  have h3' := h3
  rw [pk_length] at h3'
  have hpk := pk_take (lv wt cs k) j h3
  have hl : ((lv wt cs k).take (2 * j)).length = 2 * j := by rw [List.length_take]; omega
  have hfl : ((pk (lv wt cs k)).take j).flatten = ((lv wt cs k).take (2 * j)).flatten := by rw [hpk]; exact pk_flatten _ (by rw [hl]; omega)
  have hflat : List.Perm (((mg wt (coin cs) (pk (lv wt cs k))).take t).flatten) (cs.take i ++ ((lv wt cs k).take (2 * j)).flatten) := by
    have := h4.flatten
    rwa [List.flatten_append, coin_take, coin_flatten, hfl] at this
  have hWf : ∀ l : List (List Nat), (l.map (W wt)).sum = (l.flatten.map wt).sum := by
    intro l
    induction l with
    | nil => rfl
    | cons a l ih => simp [ih, W]
  refine ⟨i, j, h1, h2, by omega, fun s => ?_, fun s hs => ⟨?_, ?_⟩, fun s hs => ?_, ?_⟩
  · unfold occ
    rw [hflat.count_eq, List.count_append]
  · exact List.count_eq_zero.2 (fun h => nodup_split hnd i h hs)
  · unfold occ
    rw [List.count_eq_zero, ← hfl]
    intro h
    obtain ⟨q, hq, hsq⟩ := List.mem_flatten.1 h
    have h6 := h5 [s] (by rw [coin_drop]; exact List.mem_map.2 ⟨s, hs, rfl⟩) q hq
    have h7 := W_mem wt hsq
    rw [W_one] at h6
    omega
  · exact nodup_count (hnd.sublist (List.take_sublist i cs)) hs
  · rw [hWf, hWf, ← List.sum_append, ← List.map_append]
    exact (hflat.map wt).sum_nat

structure Fills (cs : List Nat) (k t : Nat) (T : List (List Nat)) : Prop where
  most : ∀ s, occ T s ≤ k + 1
  none : ∀ s, s ∉ cs → occ T s = 0
  down : cs.Pairwise fun a b => occ T b ≤ occ T a
  width : (cs.map fun s => wide2 k (occ T s)).sum = t * 2 ^ k
  cost : (T.map (W wt)).sum = (cs.map fun s => wt s * occ T s).sum

theorem lv_fills {cs : List Nat} (hup : cs.Pairwise fun a b => wt a ≤ wt b) (hnd : cs.Nodup) : ∀ (k t : Nat), t ≤ (lv wt cs k).length → Fills wt cs k t ((lv wt cs k).take t)
  | 0, t, ht => by
    have hoc : ∀ s, occ ((lv wt cs 0).take t) s = (cs.take t).count s := fun s => by unfold occ; rw [lv, coin_take, coin_flatten]
    have hco : (((lv wt cs 0).take t).map (W wt)).sum = ((cs.take t).map wt).sum := by
      rw [lv, coin_take]
      unfold coin
      rw [List.map_map]
      exact sum_congr fun s _ => W_one wt s
    rw [lv, coin_length] at ht
    have h1 : ∀ s ∈ cs.take t, (cs.take t).count s = 1 := fun s hs => nodup_count (hnd.sublist (List.take_sublist t cs)) hs
    have h0 : ∀ s ∈ cs.drop t, (cs.take t).count s = 0 := fun s hs => List.count_eq_zero.2 (fun h => nodup_split hnd t h hs)
    have hl : (cs.take t).length = t := by rw [List.length_take]; omega
    refine ⟨fun s => ?_, fun s hs => ?_, ?_, ?_, ?_⟩
    · rw [hoc]
      by_cases h : s ∈ cs.take t
      · rw [h1 s h]; omega
      · rw [List.count_eq_zero.2 h]; omega
    · rw [hoc]; exact List.count_eq_zero.2 (fun h => hs (List.mem_of_mem_take h))
    · exact down_step t (n := fun _ => 0) (fun s hs => by rw [hoc, h1 s hs]) (fun s hs => by rw [hoc, h0 s hs]) (List.pairwise_of_forall fun _ _ => Nat.le_refl _)
    · rw [sum_split cs t, sum_congr (l := cs.take t) (g := fun _ => 1) (fun s hs => by rw [hoc, h1 s hs]; rfl), sum_congr (l := cs.drop t) (g := fun _ => 0) (fun s hs => by rw [hoc, h0 s hs]; rfl), sum_const_map, sum_const_map, hl]
      simp
    · rw [hco, sum_split cs t, sum_congr (l := cs.take t) (f := fun s => wt s * occ _ s) (g := wt) (fun s hs => by rw [hoc, h1 s hs, Nat.mul_one]), sum_congr (l := cs.drop t) (f := fun s => wt s * occ _ s) (g := fun _ => 0) (fun s hs => by rw [hoc, h0 s hs, Nat.mul_zero]), sum_const_map]
      simp
  | k + 1, t, ht => by
    obtain ⟨i, j, hij, hi, hj, hoc, hd, hone, hco⟩ := lv_split wt hup hnd k t ht
    have ih := lv_fills hup hnd k (2 * j) hj
    generalize (lv wt cs k).take (2 * j) = T at hoc hd hco ih
    have ho1 : ∀ s ∈ cs.take i, occ ((lv wt cs (k + 1)).take t) s = 1 + occ T s := fun s hs => by rw [hoc, hone s hs]
    have ho0 : ∀ s ∈ cs.drop i, occ ((lv wt cs (k + 1)).take t) s = 0 := fun s hs => by rw [hoc, (hd s hs).1, (hd s hs).2]
    have hl : (cs.take i).length = i := by rw [List.length_take]; omega
    refine ⟨fun s => ?_, fun s hs => ?_, down_step i ho1 ho0 ih.down, ?_, ?_⟩
    · have h1 := ih.most s
      rw [hoc]
      by_cases h : s ∈ cs.take i
      · rw [hone s h]; omega
      · rw [List.count_eq_zero.2 h]; omega
    · rw [hoc, ih.none s hs, List.count_eq_zero.2 (fun h => hs (List.mem_of_mem_take h))]
    · have hw := ih.width
      rw [sum_split cs i, sum_congr (l := cs.drop i) (g := fun _ => 0) (fun s hs => by rw [(hd s hs).2, wide2_zero]), sum_const_map, Nat.mul_zero, Nat.add_zero] at hw
      rw [sum_split cs i, sum_congr (l := cs.take i) (g := fun s => 2 ^ (k + 1) + wide2 k (occ T s)) (fun s hs => by rw [ho1 s hs, wide2_succ k _ (ih.most s)]),
        sum_congr (l := cs.drop i) (g := fun _ => 0) (fun s hs => by rw [ho0 s hs, wide2_zero]), sum_add, sum_const_map, sum_const_map, hl, hw, Nat.mul_zero, Nat.add_zero, ← hij, Nat.pow_succ, Nat.add_mul]
      rw [Nat.mul_assoc 2 j, Nat.mul_comm 2 (j * 2 ^ k), Nat.mul_assoc]
    · have hc := ih.cost
      rw [sum_split cs i, sum_congr (l := cs.drop i) (g := fun _ => 0) (fun s hs => by rw [(hd s hs).2, Nat.mul_zero]), sum_const_map, Nat.mul_zero, Nat.add_zero] at hc
      rw [hco, hc, sum_split cs i, sum_congr (l := cs.take i) (f := fun s => wt s * occ ((lv wt cs (k + 1)).take t) s) (g := fun s => wt s + wt s * occ T s) (fun s hs => by rw [ho1 s hs, Nat.mul_add, Nat.mul_one]),
        sum_congr (l := cs.drop i) (f := fun s => wt s * occ ((lv wt cs (k + 1)).take t) s) (g := fun _ => 0) (fun s hs => by rw [ho0 s hs, Nat.mul_zero]), sum_add, sum_const_map]
      simp

/-- What packages weigh together. -/
def SW (l : List (List Nat)) : Nat := (l.map (W wt)).sum
theorem SW_cons (a : List Nat) (l : List (List Nat)) : SW wt (a :: l) = W wt a + SW wt l := rfl
theorem SW_append (a b : List (List Nat)) : SW wt (a ++ b) = SW wt a + SW wt b := by simp [SW]
theorem SW_flatten (l : List (List Nat)) : SW wt l = (l.flatten.map wt).sum := by
  induction l with
  | nil => rfl
  | cons a l ih => rw [SW_cons, ih]; simp [W]
theorem SW_coin (cs : List Nat) : SW wt (coin cs) = (cs.map wt).sum := by rw [SW_flatten, coin_flatten]

theorem SW_next {c : List Nat} {cs : List (List Nat)} (h : Up wt (c :: cs)) (t : Nat) (ht : t < (c :: cs).length) : SW wt ((c :: cs).take t) + W wt c ≤ SW wt ((c :: cs).take (t + 1)) := by
  rw [List.take_add_one, SW_append, List.getElem?_eq_getElem ht]
  have : W wt c ≤ W wt ((c :: cs)[t]) := by
    cases t with
    | zero => exact Nat.le_refl _
    | succ t =>
      unfold Up at h
      rw [List.pairwise_cons] at h
      exact h.1 _ (by simp)
  simp only [Option.toList, SW_cons]
  have e : SW wt [] = 0 := rfl
  omega

/-- No a of the one and b of the other weigh less than the first of both. -/
theorem mg_least : ∀ (c p : List (List Nat)) (a b : Nat), Up wt c → Up wt p → a ≤ c.length → b ≤ p.length → SW wt ((mg wt c p).take (a + b)) ≤ SW wt (c.take a) + SW wt (p.take b)
  | [], p, a, b, _, _, ha, _ => by
    have : a = 0 := by simpa using ha
    subst this
    simp [mg, SW]
  | c :: cs, [], a, b, _, _, _, hb => by
    have : b = 0 := by simpa using hb
    subst this
    simp [mg, SW]
  | c :: cs, p :: ps, a, b, hc, hp, ha, hb => by
    have hc' := hc
    have hp' := hp
    unfold Up at hc hp
    rw [List.pairwise_cons] at hc hp
    unfold mg
    split
    · rename_i h
      match a, b with
      | 0, 0 => simp [SW]
      | a + 1, b =>
        have ih := mg_least cs (p :: ps) a b hc.2 hp' (by simpa using ha) hb
        rw [show a + 1 + b = (a + b) + 1 by omega, List.take_succ_cons, List.take_succ_cons, SW_cons, SW_cons]
        omega
      | 0, b + 1 =>
        have ih := mg_least cs (p :: ps) 0 b hc.2 hp' (Nat.zero_le _) (by omega)
        have hn := SW_next wt hp' b (by omega)
        rw [Nat.zero_add] at ih ⊢
        rw [List.take_succ_cons, SW_cons]
        have e : SW wt (cs.take 0) = 0 := by simp [SW]
        have e2 : SW wt ((c :: cs).take 0) = 0 := by simp [SW]
        omega
    · rename_i h
      match a, b with
      | 0, 0 => simp [SW]
      | a, b + 1 =>
        have ih := mg_least (c :: cs) ps a b hc' hp.2 ha (by simpa using hb)
        rw [show a + (b + 1) = (a + b) + 1 by omega, List.take_succ_cons, List.take_succ_cons, SW_cons, SW_cons]
        omega
      | a + 1, 0 =>
        have ih := mg_least (c :: cs) ps a 0 hc' hp.2 (by omega) (Nat.zero_le _)
        have hn := SW_next wt hc' a (by omega)
        rw [Nat.add_zero] at ih ⊢
        rw [List.take_succ_cons, SW_cons]
        have e : SW wt (ps.take 0) = 0 := by simp [SW]
        have e2 : SW wt ((p :: ps).take 0) = 0 := by simp [SW]
        omega
termination_by c p => c.length + p.length

theorem take_shift : ∀ (a : Nat) (cs : List Nat) (t : Nat), (a :: cs).Pairwise (fun a b => wt a ≤ wt b) → t ≤ cs.length → (((a :: cs).take t).map wt).sum ≤ ((cs.take t).map wt).sum
  | a, cs, 0, _, _ => by simp
  | a, [], t + 1, _, h => by simp at h
  | a, c :: cs, t + 1, hp, h => by
    have hp' := hp
    rw [List.pairwise_cons] at hp
    have ih := take_shift c cs t hp.2 (by simpa using h)
    have h1 := hp.1 c (by simp)
    rw [List.take_succ_cons, List.take_succ_cons, List.map_cons, List.map_cons, List.sum_cons, List.sum_cons]
    omega

/-- Any so many coins weigh no less than the first so many. -/
theorem coins_least : ∀ (cs : List Nat) (b : Nat → Nat), cs.Pairwise (fun a b => wt a ≤ wt b) → (∀ s ∈ cs, b s ≤ 1) → ((cs.take (cs.map b).sum).map wt).sum ≤ (cs.map fun s => wt s * b s).sum ∧ (cs.map b).sum ≤ cs.length
  | [], b, _, _ => by simp
  | a :: cs, b, hp, hb => by
    have hp' := hp
    rw [List.pairwise_cons] at hp
    obtain ⟨ih, ihl⟩ := coins_least cs b hp.2 (fun s hs => hb s (by simp [hs]))
    have h1 := hb a (by simp)
    simp only [List.map_cons, List.sum_cons, List.length_cons]
    rcases Nat.le_one_iff_eq_zero_or_eq_one.1 h1 with h | h
    · rw [h, Nat.zero_add, Nat.mul_zero, Nat.zero_add]
      exact ⟨Nat.le_trans (take_shift wt a cs _ hp' ihl) ih, by omega⟩
    · rw [h, Nat.mul_one, Nat.add_comm 1, List.take_succ_cons, List.map_cons, List.sum_cons]
      exact ⟨by omega, by omega⟩

theorem take_mono (cs : List Nat) {t a : Nat} (h : t ≤ a) : ((cs.take t).map wt).sum ≤ ((cs.take a).map wt).sum := by
  have : cs.take t = (cs.take a).take t := by rw [List.take_take, Nat.min_eq_left h]
  rw [this]
  conv => rhs; rw [← List.take_append_drop t (cs.take a), List.map_append, List.sum_append]
  omega

theorem sum_le {l : List Nat} {f g : Nat → Nat} (h : ∀ s ∈ l, f s ≤ g s) : (l.map f).sum ≤ (l.map g).sum := by
  induction l with
  | nil => exact Nat.le_refl _
  | cons a l ih =>
    simp only [List.map_cons, List.sum_cons]
    have := h a (by simp)
    have := ih (fun s hs => h s (by simp [hs]))
    omega

/-- No coins that are as wide weigh less than the first t of level k. -/
theorem lv_best {cs : List Nat} (hup : cs.Pairwise fun a b => wt a ≤ wt b) : ∀ (k t : Nat) (n : Nat → Nat), (∀ s ∈ cs, n s ≤ k + 1) → t * 2 ^ k ≤ (cs.map fun s => wide2 k (n s)).sum →
    SW wt ((lv wt cs k).take t) ≤ (cs.map fun s => wt s * n s).sum
  | 0, t, n, hn, ht => by
    have e : (cs.map fun s => wide2 0 (n s)).sum = (cs.map n).sum := sum_congr fun s hs => by
      have := hn s hs
      unfold wide2
      have h : n s = 0 ∨ n s = 1 := by omega
      rcases h with h | h <;> rw [h]
    rw [e] at ht
    rw [lv, coin_take, SW_coin]
    exact Nat.le_trans (take_mono wt cs (by omega)) (coins_least wt cs n hup (fun s hs => by have := hn s hs; omega)).1
  | k + 1, t, n, hn, ht => by
    obtain ⟨a, ha⟩ : ∃ a, a = (cs.map fun s => min (n s) 1).sum := ⟨_, rfl⟩
    have hb := coins_least wt cs (fun s => min (n s) 1) hup (fun s _ => by omega)
    rw [← ha] at hb
    have hsplit : (cs.map fun s => wide2 (k + 1) (n s)).sum = a * 2 ^ (k + 1) + (cs.map fun s => wide2 k (n s - 1)).sum := by
      have e1 : (cs.map fun s => min (n s) 1 * 2 ^ (k + 1)).sum = a * 2 ^ (k + 1) := by
        rw [ha]
        generalize 2 ^ (k + 1) = x
        generalize cs = l
        induction l with
        | nil => simp
        | cons y l ih => simp only [List.map_cons, List.sum_cons, ih, Nat.add_mul]
      rw [← e1, ← sum_add]
      refine sum_congr fun s hs => ?_
      have h := hn s hs
      by_cases h0 : n s = 0
      · rw [h0]; simp [wide2_zero]
      · have := wide2_succ k (n s - 1) (by omega)
        rw [show 1 + (n s - 1) = n s by omega] at this
        rw [this, Nat.min_eq_right (by omega), Nat.one_mul]
    have hcost : (cs.map fun s => wt s * n s).sum = (cs.map fun s => wt s * min (n s) 1).sum + (cs.map fun s => wt s * (n s - 1)).sum := by
      rw [← sum_add]
      refine sum_congr fun s _ => ?_
      rw [← Nat.mul_add]
      congr 1
      omega
    rw [hsplit] at ht
    have hpu := pk_up wt _ (lv_up wt hup k)
    rw [lv]
    by_cases hta : t ≤ a
    · have := mg_least wt (coin cs) (pk (lv wt cs k)) t 0 (coin_up wt hup) hpu (by rw [coin_length]; omega) (Nat.zero_le _)
      rw [Nat.add_zero, coin_take, SW_coin] at this
      have e : SW wt ((pk (lv wt cs k)).take 0) = 0 := by simp [SW]
      have hm := take_mono wt cs hta
      omega
    · obtain ⟨d, hd⟩ : ∃ d, t = a + d := ⟨t - a, by omega⟩
      subst hd
      rw [Nat.add_mul] at ht
      have hw : 2 * d * 2 ^ k ≤ (cs.map fun s => wide2 k (n s - 1)).sum := by
        have : d * 2 ^ (k + 1) = 2 * d * 2 ^ k := by rw [Nat.pow_succ, Nat.mul_comm 2 d, Nat.mul_assoc, Nat.mul_comm 2]
        omega
      have ih := lv_best hup k (2 * d) (fun s => n s - 1) (fun s hs => by have := hn s hs; omega) hw
      have hlen : 2 * d ≤ (lv wt cs k).length := by
        rw [lv_length, Nat.le_div_iff_mul_le (Nat.two_pow_pos k)]
        refine Nat.le_trans hw ?_
        rw [← sum_const_map]
        refine sum_le fun s _ => ?_
        unfold wide2
        have := Nat.two_pow_pos (k + 1 - (n s - 1))
        omega
      have hdl : d ≤ (pk (lv wt cs k)).length := by rw [pk_length]; omega
      have hm := mg_least wt (coin cs) (pk (lv wt cs k)) a d (coin_up wt hup) hpu (by rw [coin_length]; exact hb.2) hdl
      rw [coin_take, SW_coin, pk_take _ _ hdl] at hm
      have he : SW wt (pk ((lv wt cs k).take (2 * d))) = SW wt ((lv wt cs k).take (2 * d)) := by
        rw [SW_flatten, SW_flatten, pk_flatten _ (by rw [List.length_take]; omega)]
      omega

end
end Go.Proofs.Ytclfbdfgmeliaaa

/-
  The lengths of codes by package-merge: plain mathematics, no program.
-/
namespace Go.Proofs.Ytclfbdfgmeliaaa

/-- A symbol put behind all that weigh no more. -/
def insSym (wt : Nat → Nat) (s : Nat) : List Nat → List Nat
  | [] => [s]
  | y :: ys => if wt s < wt y then s :: y :: ys else y :: insSym wt s ys
/-- The symbols below n that weigh anything, by weight, then by symbol. -/
def symsTo (wt : Nat → Nat) : Nat → List Nat
  | 0 => []
  | n + 1 => if wt n = 0 then symsTo wt n else insSym wt n (symsTo wt n)

theorem ins_perm (wt : Nat → Nat) (s : Nat) : ∀ l, List.Perm (insSym wt s l) (s :: l)
  | [] => List.Perm.refl _
  | y :: ys => by
    unfold insSym
    split
    · exact List.Perm.refl _
    · exact (List.Perm.cons y (ins_perm wt s ys)).trans (List.Perm.swap s y ys)
theorem ins_up (wt : Nat → Nat) (s : Nat) : ∀ l, l.Pairwise (fun a b => wt a ≤ wt b) → (insSym wt s l).Pairwise fun a b => wt a ≤ wt b
  | [], _ => by simp [insSym]
  | y :: ys, h => by
    have h' := h
    rw [List.pairwise_cons] at h
    unfold insSym
    split
    · rename_i hlt
      rw [List.pairwise_cons]
      refine ⟨fun z hz => ?_, h'⟩
      rcases List.mem_cons.1 hz with rfl | hz
      · omega
      · have := h.1 z hz; omega
    · rename_i hlt
      rw [List.pairwise_cons]
      refine ⟨fun z hz => ?_, ins_up wt s ys h.2⟩
      rcases List.mem_cons.1 ((ins_perm wt s ys).mem_iff.1 hz) with rfl | hz
      · omega
      · exact h.1 z hz

theorem syms_up (wt : Nat → Nat) : ∀ n, (symsTo wt n).Pairwise fun a b => wt a ≤ wt b
  | 0 => List.Pairwise.nil
  | n + 1 => by
    unfold symsTo
    split
    · exact syms_up wt n
    · exact ins_up wt n _ (syms_up wt n)
theorem syms_mem (wt : Nat → Nat) : ∀ n s, s ∈ symsTo wt n ↔ s < n ∧ wt s ≠ 0
  | 0, s => by simp [symsTo]
  | n + 1, s => by
    unfold symsTo
    split
    · rename_i h
      rw [syms_mem wt n s]
      constructor
      · rintro ⟨h1, h2⟩; exact ⟨by omega, h2⟩
      · rintro ⟨h1, h2⟩
        refine ⟨?_, h2⟩
        rcases Nat.lt_succ_iff_lt_or_eq.1 h1 with h3 | rfl
        · exact h3
        · exact absurd h h2
    · rename_i h
      rw [(ins_perm wt n _).mem_iff, List.mem_cons, syms_mem wt n s]
      constructor
      · rintro (rfl | ⟨h1, h2⟩)
        · exact ⟨by omega, h⟩
        · exact ⟨by omega, h2⟩
      · rintro ⟨h1, h2⟩
        rcases Nat.lt_succ_iff_lt_or_eq.1 h1 with h3 | rfl
        · exact .inr ⟨h3, h2⟩
        · exact .inl rfl
theorem syms_nodup (wt : Nat → Nat) : ∀ n, (symsTo wt n).Nodup
  | 0 => List.nodup_nil
  | n + 1 => by
    unfold symsTo
    split
    · exact syms_nodup wt n
    · rw [(ins_perm wt n _).nodup_iff, List.nodup_cons]
      exact ⟨fun h => by have := (syms_mem wt n n).1 h; omega, syms_nodup wt n⟩
/-- A sum over all symbols, where those that weigh nothing count nothing. -/
theorem syms_sum (wt f : Nat → Nat) : ∀ n, (∀ s, s < n → wt s = 0 → f s = 0) → ((List.range n).map f).sum = ((symsTo wt n).map f).sum
  | 0, _ => rfl
  | n + 1, h => by
    have ih := syms_sum wt f n (fun s hs => h s (by omega))
    rw [List.range_succ, List.map_append, List.sum_append, ih, symsTo]
    split
    · rename_i h0
      simp [h n (by omega) h0]
    · rw [((ins_perm wt n _).map f).sum_nat]
      simp; omega

/-- How many of each symbol the first 2m - 2 of the last level hold. -/
def pmOcc (wt : Nat → Nat) (cs : List Nat) (most : Nat) (s : Nat) : Nat := occ ((lv wt cs (most - 1)).take (2 * cs.length - 2)) s

section
variable {wt : Nat → Nat} {cs : List Nat} {L : Nat}

theorem pm_fits (hL : 1 ≤ L) (hm2 : 2 ≤ cs.length) (hm : cs.length ≤ 2 ^ L) : 2 * cs.length - 2 ≤ (lv wt cs (L - 1)).length := by
  rw [lv_length, Nat.le_div_iff_mul_le (Nat.two_pow_pos _), show L - 1 + 1 = L by omega]
  obtain ⟨K, rfl⟩ : ∃ K, L = K + 1 := ⟨L - 1, by omega⟩
  rw [show K + 1 - 1 = K by omega]
  rw [Nat.pow_succ] at hm ⊢
  generalize 2 ^ K = x at *
  obtain ⟨m, hm'⟩ : ∃ m, cs.length = m + 2 := ⟨cs.length - 2, by omega⟩
  rw [hm'] at hm ⊢
  rw [show 2 * (m + 2) - 2 = 2 * (m + 1) by omega]
  rw [Nat.mul_sub, Nat.mul_one, show 2 * (m + 1) * x = (m + 1) * (x * 2) by rw [Nat.mul_comm 2 (m + 1), Nat.mul_assoc, Nat.mul_comm 2 x], show (m + 2) * (x * 2) = (m + 1) * (x * 2) + x * 2 by rw [← Nat.succ_mul]]
  omega

structure PmFacts (wt : Nat → Nat) (cs : List Nat) (L : Nat) : Prop where
  most : ∀ s, pmOcc wt cs L s ≤ L
  none : ∀ s, s ∉ cs → pmOcc wt cs L s = 0
  some : ∀ s ∈ cs, 1 ≤ pmOcc wt cs L s
  down : cs.Pairwise fun a b => pmOcc wt cs L b ≤ pmOcc wt cs L a
  kraft : (cs.map fun s => 2 ^ (L - pmOcc wt cs L s)).sum = 2 ^ L
  best : ∀ n : Nat → Nat, (∀ s ∈ cs, n s ≤ L) → (cs.map fun s => 2 ^ (L - n s)).sum ≤ 2 ^ L → (cs.map fun s => wt s * pmOcc wt cs L s).sum ≤ (cs.map fun s => wt s * n s).sum

/-- Widths and Kraft's sum together. -/
theorem wide_kraft (K : Nat) (cs : List Nat) (n : Nat → Nat) : (cs.map fun s => wide2 K (n s)).sum + (cs.map fun s => 2 ^ (K + 1 - n s)).sum = cs.length * 2 ^ (K + 1) := by
  rw [← sum_add, ← sum_const_map]
  refine sum_congr fun s _ => ?_
  unfold wide2
  have : 2 ^ (K + 1 - n s) ≤ 2 ^ (K + 1) := Nat.pow_le_pow_right (by omega) (by omega)
  omega

theorem pm_facts (hup : cs.Pairwise fun a b => wt a ≤ wt b) (hnd : cs.Nodup) (hL : 1 ≤ L) (hm2 : 2 ≤ cs.length) (hm : cs.length ≤ 2 ^ L) : PmFacts wt cs L := by
  have hf := lv_fills wt hup hnd (L - 1) (2 * cs.length - 2) (pm_fits hL hm2 hm)
  obtain ⟨K, rfl⟩ : ∃ K, L = K + 1 := ⟨L - 1, by omega⟩
  rw [show K + 1 - 1 = K by omega] at hf
  have hpm : ∀ s, pmOcc wt cs (K + 1) s = occ ((lv wt cs K).take (2 * cs.length - 2)) s := fun s => rfl
  have hw := wide_kraft K cs (pmOcc wt cs (K + 1))
  have hwd : (cs.map fun s => wide2 K (pmOcc wt cs (K + 1) s)).sum = (2 * cs.length - 2) * 2 ^ K := hf.width
  have hkr : (cs.map fun s => 2 ^ (K + 1 - pmOcc wt cs (K + 1) s)).sum = 2 ^ (K + 1) := by
    rw [hwd] at hw
    rw [Nat.pow_succ] at hw ⊢
    generalize 2 ^ K = x at *
    obtain ⟨m, hm'⟩ : ∃ m, cs.length = m + 1 := ⟨cs.length - 1, by omega⟩
    rw [hm', show 2 * (m + 1) - 2 = 2 * m by omega, Nat.add_mul, Nat.one_mul, show m * (x * 2) = 2 * m * x by rw [Nat.mul_comm 2 m, Nat.mul_assoc, Nat.mul_comm x 2]] at hw
    omega
  refine ⟨hf.most, hf.none, fun s hs => ?_, hf.down, hkr, fun n hn hk => ?_⟩
  · rcases Nat.eq_zero_or_pos (pmOcc wt cs (K + 1) s) with h0 | h0
    · exfalso
      have hpos : ∀ x ∈ cs, 1 ≤ 2 ^ (K + 1 - pmOcc wt cs (K + 1) x) := fun x _ => Nat.two_pow_pos _
      have hs1 : ∀ (l : List Nat), s ∈ l → (∀ x ∈ l, 1 ≤ 2 ^ (K + 1 - pmOcc wt cs (K + 1) x)) → l.length - 1 + 2 ^ (K + 1) ≤ (l.map fun s => 2 ^ (K + 1 - pmOcc wt cs (K + 1) s)).sum := by
        intro l
        induction l with
        | nil => intro h; cases h
        | cons a l ih =>
          intro h hp
          simp only [List.map_cons, List.sum_cons, List.length_cons]
          by_cases hl : s ∈ l
          · have := ih hl (fun x hx => hp x (by simp [hx]))
            have := hp a (by simp)
            have : 0 < l.length := List.length_pos_of_mem hl
            omega
          · have hsa : s = a := by
              rcases List.mem_cons.1 h with h | h
              · exact h
              · exact absurd h hl
            rw [← hsa, h0]
            have : l.length ≤ (l.map fun s => 2 ^ (K + 1 - pmOcc wt cs (K + 1) s)).sum := by
              have := sum_le (l := l) (f := fun _ => 1) (g := fun s => 2 ^ (K + 1 - pmOcc wt cs (K + 1) s)) (fun x hx => hp x (by simp [hx]))
              rw [sum_const_map] at this
              omega
            rw [Nat.sub_zero]
            omega
      have := hs1 cs hs hpos
      omega
    · exact h0
  · have hb := lv_best wt hup K (2 * cs.length - 2) n hn ?_
    · have hc := hf.cost
      unfold SW at hb
      rw [hc] at hb
      exact hb
    · have hw2 := wide_kraft K cs n
      rw [hwd] at hw
      omega

end
end Go.Proofs.Ytclfbdfgmeliaaa

/-
  What the statements say of the lengths by package-merge: plain mathematics, no program.
-/
namespace Go.Proofs.Ytclfbdfgmeliaaa

/-- The count of a symbol; the symbols that are there, by count. -/
def cnt (counts : List Nat) (s : Nat) : Nat := counts.getD s 0
def there (counts : List Nat) : List Nat := symsTo (cnt counts) counts.length
/-- The length of a symbol's code. -/
def pmLen (counts : List Nat) (most s : Nat) : Nat :=
  if (there counts).length = 1 then (if cnt counts s = 0 then 0 else 1) else pmOcc (cnt counts) (there counts) most s
/-- The lengths of all; nothing of too many. -/
def pmLens (counts : List Nat) (most : Nat) : List Nat :=
  if 256 < counts.length ∨ 2 ^ most < (there counts).length then [] else (List.range counts.length).map (pmLen counts most)

theorem there_mem (counts : List Nat) (s : Nat) : s ∈ there counts ↔ cnt counts s ≠ 0 := by
  unfold there
  rw [syms_mem]
  constructor
  · exact fun h => h.2
  · intro h
    refine ⟨?_, h⟩
    rcases Nat.lt_or_ge s counts.length with h1 | h1
    · exact h1
    · exact absurd (by unfold cnt; rw [List.getD_eq_getElem?_getD, List.getElem?_eq_none h1]; rfl) h
theorem there_facts {counts : List Nat} {L : Nat} (hL : 1 ≤ L) (h2 : 2 ≤ (there counts).length) (hm : (there counts).length ≤ 2 ^ L) : PmFacts (cnt counts) (there counts) L :=
  pm_facts (syms_up _ _) (syms_nodup _ _) hL h2 hm

theorem len_pmLens {counts : List Nat} {L : Nat} (h1 : counts.length ≤ 256) (h2 : (there counts).length ≤ 2 ^ L) : (pmLens counts L).length = counts.length := by
  unfold pmLens
  rw [if_neg (by omega)]
  simp
theorem get_pmLens {counts : List Nat} {L : Nat} (h1 : counts.length ≤ 256) (h2 : (there counts).length ≤ 2 ^ L) (s : Nat) (hs : s < counts.length) : (pmLens counts L).getD s 0 = pmLen counts L s := by
  unfold pmLens
  rw [if_neg (by omega), List.getD_eq_getElem?_getD]
  simp [hs]

/-- None but of those that are there; none too long. -/
theorem pmLen_pos {counts : List Nat} {L : Nat} (hL : 1 ≤ L) (hm : (there counts).length ≤ 2 ^ L) (s : Nat) : (0 < pmLen counts L s ↔ 0 < cnt counts s) ∧ pmLen counts L s ≤ L := by
  unfold pmLen
  have hmem := there_mem counts s
  split
  · rename_i h
    split
    · rename_i h0; rw [h0]; simp
    · rename_i h0
      constructor
      · constructor <;> intro _ <;> omega
      · exact hL
  · rename_i h
    by_cases h2 : 2 ≤ (there counts).length
    · have hf := there_facts hL h2 hm
      refine ⟨⟨fun hp => ?_, fun hp => ?_⟩, hf.most s⟩
      · rcases Nat.eq_zero_or_pos (cnt counts s) with h0 | h0
        · have := hf.none s (fun hs => (hmem.1 hs) h0); omega
        · exact h0
      · exact hf.some s (hmem.2 (by omega))
    · have h0 : there counts = [] := List.eq_nil_of_length_eq_zero (by omega)
      have hc0 : cnt counts s = 0 := by
        rcases Nat.eq_zero_or_pos (cnt counts s) with h1 | h1
        · exact h1
        · have := hmem.2 (by omega)
          rw [h0] at this
          cases this
      have ho : pmOcc (cnt counts) (there counts) L s = 0 := by
        unfold pmOcc
        rw [h0]
        simp [occ]
      rw [ho, hc0]
      simp

/-- Kraft's sum, by fifteen bits. -/
def kraftOf (l : List Nat) : Nat := (l.map fun n => if 1 ≤ n ∧ n ≤ 15 then 2 ^ (15 - n) else 0).sum
theorem kraft_full {counts : List Nat} {L : Nat} (h256 : counts.length ≤ 256) (hL : 1 ≤ L) (hL15 : L ≤ 15) (h2 : 2 ≤ (there counts).length) (hm : (there counts).length ≤ 2 ^ L) : kraftOf (pmLens counts L) = 2 ^ 15 := by
  have hf := there_facts hL h2 hm
  unfold kraftOf pmLens
  rw [if_neg (by omega), List.map_map]
  have e : ((List.range counts.length).map ((fun n => if 1 ≤ n ∧ n ≤ 15 then 2 ^ (15 - n) else 0) ∘ pmLen counts L)).sum = ((there counts).map fun s => 2 ^ (15 - L) * 2 ^ (L - pmOcc (cnt counts) (there counts) L s)).sum := by
    rw [syms_sum (cnt counts) _ counts.length (fun s _ h0 => by
      have := (pmLen_pos hL hm s).1
      simp only [Function.comp]
      rw [if_neg (by omega)])]
    refine sum_congr fun s hs => ?_
    have h1 := hf.some s hs
    have h3 := hf.most s
    have e1 : pmLen counts L s = pmOcc (cnt counts) (there counts) L s := by unfold pmLen; rw [if_neg (by omega)]
    simp only [Function.comp]
    rw [e1, if_pos ⟨h1, by omega⟩, ← Nat.pow_add]
    congr 1
    omega
  rw [e]
  have hmul : ∀ (l : List Nat) (c : Nat) (f : Nat → Nat), (l.map fun s => c * f s).sum = c * (l.map f).sum := by
    intro l c f
    induction l with
    | nil => simp
    | cons a l ih => simp only [List.map_cons, List.sum_cons, ih, Nat.mul_add]
  rw [hmul, hf.kraft, ← Nat.pow_add]
  congr 1
  omega

/-- Who comes oftener isn't longer. -/
theorem pm_order {counts : List Nat} {L : Nat} (hL : 1 ≤ L) (hm : (there counts).length ≤ 2 ^ L) (a b : Nat) (h1 : cnt counts b < cnt counts a) (h2 : 0 < cnt counts b) : pmLen counts L a ≤ pmLen counts L b := by
  have ha := (there_mem counts a).2 (by omega)
  have hb := (there_mem counts b).2 (by omega)
  by_cases h : 2 ≤ (there counts).length
  · have hf := there_facts hL h hm
    unfold pmLen
    rw [if_neg (by omega), if_neg (by omega)]
    have hup := syms_up (cnt counts) counts.length
    have key : ∀ l : List Nat, l.Pairwise (fun x y => cnt counts x ≤ cnt counts y) → l.Pairwise (fun x y => pmOcc (cnt counts) (there counts) L y ≤ pmOcc (cnt counts) (there counts) L x) → a ∈ l → b ∈ l → pmOcc (cnt counts) (there counts) L a ≤ pmOcc (cnt counts) (there counts) L b := by
      intro l
      induction l with
      | nil => intro _ _ h; cases h
      | cons x l ih =>
        intro h3 h4 h5 h6
        rw [List.pairwise_cons] at h3 h4
        rcases List.mem_cons.1 h5 with e5 | m5
        · rcases List.mem_cons.1 h6 with e6 | m6
          · rw [e5, e6]; exact Nat.le_refl _
          · have := h3.1 b m6
            rw [← e5] at this
            omega
        · rcases List.mem_cons.1 h6 with e6 | m6
          · have := h4.1 a m5
            rwa [← e6] at this
          · exact ih h3.2 h4.2 m5 m6
    exact key _ hup hf.down ha hb
  · have e1 : (there counts).length = 1 := by
      have := List.length_pos_of_mem ha; omega
    unfold pmLen
    rw [if_pos e1, if_pos e1]
    split <;> split <;> omega

/-- All counts times their lengths. -/
def costBy (counts : List Nat) (x : Nat → Nat) : Nat := ((List.range counts.length).map fun s => cnt counts s * x s).sum
theorem costBy_there (counts : List Nat) (x : Nat → Nat) : costBy counts x = ((there counts).map fun s => cnt counts s * x s).sum :=
  syms_sum (cnt counts) _ counts.length (fun s _ h0 => by rw [h0, Nat.zero_mul])

theorem cost_best {counts : List Nat} {L : Nat} (hL : 1 ≤ L) (hm : (there counts).length ≤ 2 ^ L) (n : Nat → Nat) (hn : ∀ s, cnt counts s ≠ 0 → n s ≤ L ∧ 1 ≤ n s) (hk : ((there counts).map fun s => 2 ^ (L - n s)).sum ≤ 2 ^ L) :
    costBy counts (pmLen counts L) ≤ costBy counts n := by
  rw [costBy_there, costBy_there]
  by_cases h1 : (there counts).length = 1
  · refine sum_le fun s hs => ?_
    have hc := (there_mem counts s).1 hs
    unfold pmLen
    rw [if_pos h1, if_neg hc]
    exact Nat.mul_le_mul_left _ (hn s hc).2
  · by_cases h2 : 2 ≤ (there counts).length
    · have hf := there_facts hL h2 hm
      rw [sum_congr (l := there counts) (f := fun s => cnt counts s * pmLen counts L s) (g := fun s => cnt counts s * pmOcc (cnt counts) (there counts) L s) (fun s _ => by unfold pmLen; rw [if_neg h1])]
      exact hf.best n (fun s hs => (hn s ((there_mem counts s).1 hs)).1) hk
    · have h0 : there counts = [] := List.eq_nil_of_length_eq_zero (by omega)
      rw [h0]
      simp

/-- No tree of one length costs less. -/
theorem cost_flat {counts : List Nat} {L f : Nat} (hL : 1 ≤ L) (hm : (there counts).length ≤ 2 ^ f) (hf1 : 1 ≤ f) (hf : f ≤ L) : costBy counts (pmLen counts L) ≤ costBy counts fun s => if cnt counts s = 0 then 0 else f := by
  refine cost_best hL (Nat.le_trans hm (Nat.pow_le_pow_right (by omega) hf)) _ (fun s hs => by rw [if_neg hs]; exact ⟨hf, hf1⟩) ?_
  rw [sum_congr (g := fun _ => 2 ^ (L - f)) (fun s hs => by rw [if_neg ((there_mem counts s).1 hs)]), sum_const_map]
  calc (there counts).length * 2 ^ (L - f) ≤ 2 ^ f * 2 ^ (L - f) := Nat.mul_le_mul_right _ hm
    _ = 2 ^ L := by rw [← Nat.pow_add]; congr 1; omega

/-- A lesser greatest length costs no less. -/
theorem cost_tight {counts : List Nat} {L : Nat} (hL : 1 ≤ L) (hm : (there counts).length ≤ 2 ^ L) : costBy counts (pmLen counts (L + 1)) ≤ costBy counts (pmLen counts L) := by
  have hm' : (there counts).length ≤ 2 ^ (L + 1) := Nat.le_trans hm (Nat.pow_le_pow_right (by omega) (by omega))
  refine cost_best (by omega) hm' _ (fun s hs => ?_) ?_
  · have := pmLen_pos hL hm s
    exact ⟨by omega, this.1.2 (by omega)⟩
  · have e : ∀ s ∈ there counts, 2 ^ (L + 1 - pmLen counts L s) = 2 * 2 ^ (L - pmLen counts L s) := fun s _ => by
      have := (pmLen_pos hL hm s).2
      rw [show L + 1 - pmLen counts L s = (L - pmLen counts L s) + 1 by omega, Nat.pow_succ, Nat.mul_comm]
    by_cases h1 : (there counts).length = 1
    · have : ((there counts).map fun s => 2 ^ (L + 1 - pmLen counts L s)).sum ≤ ((there counts).map fun _ => 2 ^ (L + 1)).sum := sum_le fun s _ => Nat.pow_le_pow_right (by omega) (by omega)
      rw [sum_const_map, h1, Nat.one_mul] at this
      exact this
    · by_cases h2 : 2 ≤ (there counts).length
      · have hf := there_facts hL h2 hm
        have e2 : ((there counts).map fun s => 2 ^ (L + 1 - pmLen counts L s)).sum = ((there counts).map fun s => 2 ^ (L - pmOcc (cnt counts) (there counts) L s) + 2 ^ (L - pmOcc (cnt counts) (there counts) L s)).sum := sum_congr fun s hs => by
          rw [e s hs]
          unfold pmLen
          rw [if_neg h1]
          omega
        rw [e2, sum_add, hf.kraft, Nat.pow_succ]
        omega
      · have h0 : there counts = [] := List.eq_nil_of_length_eq_zero (by omega)
        rw [h0]
        simp

/-- Counts all alike: nobody is longer than must be. -/
theorem many_most {counts : List Nat} {L f : Nat} (hL : 1 ≤ L) (hone : ∀ s, cnt counts s ≠ 0 → cnt counts s = 1) (h2 : 2 ≤ (there counts).length) (hlo : 2 ^ f < (there counts).length) (hhi : (there counts).length ≤ 2 ^ (f + 1)) (hf : f + 1 ≤ L) :
    (∀ s ∈ there counts, pmLen counts L s ≤ f + 1) ∧ ∃ s ∈ there counts, pmLen counts L s = f + 1 := by
  have hm : (there counts).length ≤ 2 ^ L := Nat.le_trans hhi (Nat.pow_le_pow_right (by omega) hf)
  have hfa := there_facts hL h2 hm
  have hpm : ∀ s, pmLen counts L s = pmOcc (cnt counts) (there counts) L s := fun s => by unfold pmLen; rw [if_neg (by omega)]
  have hkr := hfa.kraft
  obtain ⟨m, hmm⟩ : ∃ m, m = (there counts).length := ⟨_, rfl⟩
  rw [← hmm] at hlo hhi hm h2
  obtain ⟨x, hx⟩ : ∃ x, x = 2 ^ (L - (f + 1)) := ⟨_, rfl⟩
  have hx1 : 1 ≤ x := by rw [hx]; exact Nat.two_pow_pos _
  have hLx : 2 ^ L = x * 2 ^ (f + 1) := by rw [hx, ← Nat.pow_add]; congr 1; omega
  -- another tree: the first of them f + 1 long, the others f
  have hsplit : ∃ n : Nat → Nat, (∀ s ∈ there counts, n s ≤ L) ∧ ((there counts).map fun s => 2 ^ (L - n s)).sum ≤ 2 ^ L ∧ ((there counts).map n).sum + 2 ^ (f + 1) = m * (f + 2) := by
    have hnd : (there counts).Nodup := syms_nodup (cnt counts) counts.length
    obtain ⟨i, hi⟩ : ∃ i, i = 2 * m - 2 ^ (f + 1) := ⟨_, rfl⟩
    have h2f : 2 ^ (f + 1) = 2 * 2 ^ f := by rw [Nat.pow_succ, Nat.mul_comm]
    have him : i ≤ m := by omega
    obtain ⟨n, hn⟩ : ∃ n : Nat → Nat, ∀ s, n s = if s ∈ (there counts).take i then f + 1 else f := ⟨_, fun _ => rfl⟩
    have hnt : ∀ s ∈ (there counts).take i, n s = f + 1 := fun s hs => by rw [hn, if_pos hs]
    have hnl : ∀ s ∈ (there counts).drop i, n s = f := fun s hs => by rw [hn, if_neg (fun h => nodup_split hnd i h hs)]
    have hli : ((there counts).take i).length = i := by rw [List.length_take]; omega
    refine ⟨n, fun s _ => ?_, ?_, ?_⟩
    · rw [hn]; split <;> omega
    · rw [sum_split _ i, sum_congr (l := (there counts).take i) (g := fun _ => x) (fun s hs => by rw [hnt s hs, hx]),
        sum_congr (l := (there counts).drop i) (g := fun _ => 2 * x) (fun s hs => by rw [hnl s hs, hx, show L - f = L - (f + 1) + 1 by omega, Nat.pow_succ, Nat.mul_comm]),
        sum_const_map, sum_const_map, hli, List.length_drop, ← hmm, hLx]
      rw [← Nat.mul_assoc, ← Nat.add_mul, Nat.mul_comm]
      exact Nat.mul_le_mul_left _ (by omega)
    · rw [sum_split _ i, sum_congr (l := (there counts).take i) (g := fun _ => f + 1) hnt, sum_congr (l := (there counts).drop i) (g := fun _ => f) hnl,
        sum_const_map, sum_const_map, hli, List.length_drop, ← hmm]
      have e1 : i * (f + 1) = i * f + i := Nat.mul_succ i f
      have e2 : (m - i) * f + i * f = m * f := by rw [← Nat.add_mul]; congr 1; omega
      have e3 : m * (f + 2) = m * f + 2 * m := by rw [Nat.mul_add, Nat.mul_comm m 2]
      omega
  obtain ⟨n, hn1, hn2, hn3⟩ := hsplit
  have hb := hfa.best n hn1 hn2
  have hone' : ∀ (g : Nat → Nat), ((there counts).map fun s => cnt counts s * g s).sum = ((there counts).map g).sum := fun g => sum_congr fun s hs => by rw [hone s ((there_mem counts s).1 hs), Nat.one_mul]
  rw [hone', hone'] at hb
  -- each symbol: its width and its length together
  have hpt : ∀ k, k ≤ L → x * (f + 2) ≤ 2 ^ (L - k) + x * k := fun k hk => by
    by_cases hkf : k ≤ f + 1
    · obtain ⟨d, hd⟩ : ∃ d, f + 1 = k + d := ⟨f + 1 - k, by omega⟩
      have e : 2 ^ (L - k) = x * 2 ^ d := by rw [hx, ← Nat.pow_add]; congr 1; omega
      have h3 : d + 1 ≤ 2 ^ d := Nat.succ_le_of_lt (Nat.lt_two_pow_self)
      rw [e, ← Nat.mul_add]
      exact Nat.mul_le_mul_left _ (by omega)
    · have : x * (f + 2) ≤ x * k := Nat.mul_le_mul_left _ (by omega)
      exact Nat.le_trans this (Nat.le_add_left _ _)
  have hstrict : ∀ k, k ≤ L → f + 2 ≤ k → x * (f + 2) + 1 ≤ 2 ^ (L - k) + x * k := fun k hk h => by
    have h1 : x * (f + 2) ≤ x * k := Nat.mul_le_mul_left _ h
    have h3 := Nat.two_pow_pos (L - k)
    omega
  have hmul : ∀ (l : List Nat) (g : Nat → Nat), (l.map fun s => x * g s).sum = x * (l.map g).sum := by
    intro l g
    induction l with
    | nil => simp
    | cons a l ih => simp only [List.map_cons, List.sum_cons, ih, Nat.mul_add]
  have htot : ((there counts).map fun s => 2 ^ (L - pmOcc (cnt counts) (there counts) L s) + x * pmOcc (cnt counts) (there counts) L s).sum ≤ m * (x * (f + 2)) := by
    rw [sum_add, hmul, hkr, hLx, ← Nat.mul_add, Nat.mul_left_comm]
    refine Nat.mul_le_mul_left _ ?_
    rw [Nat.add_comm]
    omega
  constructor
  · intro s hs
    rw [hpm]
    rcases Nat.lt_or_ge (f + 1) (pmOcc (cnt counts) (there counts) L s) with hgt | hle
    · exfalso
      have hge : ∀ l : List Nat, s ∈ l → l.length * (x * (f + 2)) + 1 ≤ (l.map fun s => 2 ^ (L - pmOcc (cnt counts) (there counts) L s) + x * pmOcc (cnt counts) (there counts) L s).sum := by
        intro l
        induction l with
        | nil => intro h; cases h
        | cons a l ih =>
          intro h
          simp only [List.map_cons, List.sum_cons, List.length_cons, Nat.succ_mul]
          have h3 := hpt _ (hfa.most a)
          rcases List.mem_cons.1 h with e | h
          · rw [← e] at h3 ⊢
            have h4 := hstrict _ (hfa.most s) hgt
            have h5 : l.length * (x * (f + 2)) ≤ (l.map fun s => 2 ^ (L - pmOcc (cnt counts) (there counts) L s) + x * pmOcc (cnt counts) (there counts) L s).sum := by
              rw [← sum_const_map]
              exact sum_le fun y _ => hpt _ (hfa.most y)
            omega
          · have := ih h
            omega
      have := hge _ hs
      rw [← hmm] at this
      omega
    · exact hle
  · -- if all were shorter, they would be too wide
    apply Classical.byContradiction
    intro hno
    have hall : ∀ s ∈ there counts, 2 * x ≤ 2 ^ (L - pmOcc (cnt counts) (there counts) L s) := by
      intro s hs
      have hle : pmOcc (cnt counts) (there counts) L s ≤ f := by
        have hne : pmLen counts L s ≠ f + 1 := fun e => hno ⟨s, hs, e⟩
        rw [hpm] at hne
        rcases Nat.lt_or_ge (f + 1) (pmOcc (cnt counts) (there counts) L s) with hgt | hle
        · exfalso
          have hge : ∀ l : List Nat, s ∈ l → l.length * (x * (f + 2)) + 1 ≤ (l.map fun s => 2 ^ (L - pmOcc (cnt counts) (there counts) L s) + x * pmOcc (cnt counts) (there counts) L s).sum := by
            intro l
            induction l with
            | nil => intro h; cases h
            | cons a l ih =>
              intro h
              simp only [List.map_cons, List.sum_cons, List.length_cons, Nat.succ_mul]
              have h3 := hpt _ (hfa.most a)
              rcases List.mem_cons.1 h with e | h
              · rw [← e] at h3 ⊢
                have h4 := hstrict _ (hfa.most s) hgt
                have h5 : l.length * (x * (f + 2)) ≤ (l.map fun s => 2 ^ (L - pmOcc (cnt counts) (there counts) L s) + x * pmOcc (cnt counts) (there counts) L s).sum := by
                  rw [← sum_const_map]
                  exact sum_le fun y _ => hpt _ (hfa.most y)
                omega
              · have := ih h
                omega
          have := hge _ hs
          rw [← hmm] at this
          omega
        · omega
      have : 2 * x = 2 ^ (L - f) := by rw [hx, show L - f = L - (f + 1) + 1 by omega, Nat.pow_succ, Nat.mul_comm]
      rw [this]
      exact Nat.pow_le_pow_right (by omega) (by omega)
    have hs : ((there counts).map fun _ => 2 * x).sum ≤ ((there counts).map fun s => 2 ^ (L - pmOcc (cnt counts) (there counts) L s)).sum := sum_le hall
    rw [sum_const_map, hkr, ← hmm, hLx, Nat.pow_succ] at hs
    have : x * (2 ^ f * 2) < m * (2 * x) := by
      rw [show x * (2 ^ f * 2) = 2 ^ f * (2 * x) by rw [Nat.mul_comm x, Nat.mul_assoc]]
      exact Nat.mul_lt_mul_of_pos_right hlo (by omega)
    omega

/-- Counts that are all so many times as great. -/
theorem W_scale (wt : Nat → Nat) (c : Nat) (y : List Nat) : W (fun s => wt s * c) y = W wt y * c := by
  induction y with
  | nil => simp [W]
  | cons a y ih => simp only [W, List.map_cons, List.sum_cons, Nat.add_mul] at ih ⊢; rw [ih]
theorem mg_scale (wt : Nat → Nat) (c : Nat) (hc : 0 < c) : ∀ a b : List (List Nat), mg (fun s => wt s * c) a b = mg wt a b
  | [], b => by simp [mg]
  | a :: as', [] => by simp [mg]
  | a :: as', b :: bs => by
    have h1 := mg_scale wt c hc as' (b :: bs)
    have h2 := mg_scale wt c hc (a :: as') bs
    unfold mg
    rw [W_scale, W_scale, h1, h2]
    by_cases h : W wt a ≤ W wt b
    · rw [if_pos h, if_pos (Nat.mul_le_mul_right _ h)]
    · rw [if_neg h, if_neg (fun h' => h (Nat.le_of_mul_le_mul_right h' hc))]
termination_by a b => a.length + b.length
theorem lv_scale (wt : Nat → Nat) (c : Nat) (hc : 0 < c) (cs : List Nat) : ∀ k, lv (fun s => wt s * c) cs k = lv wt cs k
  | 0 => rfl
  | k + 1 => by rw [lv, lv, lv_scale wt c hc cs k, mg_scale wt c hc]
theorem ins_scale (wt : Nat → Nat) (c : Nat) (hc : 0 < c) (s : Nat) : ∀ l, insSym (fun s => wt s * c) s l = insSym wt s l
  | [] => rfl
  | y :: ys => by
    rw [insSym, insSym, ins_scale wt c hc s ys]
    by_cases h : wt s < wt y
    · rw [if_pos h, if_pos (Nat.mul_lt_mul_of_pos_right h hc)]
    · rw [if_neg h, if_neg (fun h' => h (Nat.lt_of_mul_lt_mul_right h'))]
theorem syms_scale (wt : Nat → Nat) (c : Nat) (hc : 0 < c) : ∀ n, symsTo (fun s => wt s * c) n = symsTo wt n
  | 0 => rfl
  | n + 1 => by
    rw [symsTo, symsTo, syms_scale wt c hc n, ins_scale wt c hc]
    by_cases h : wt n = 0
    · rw [if_pos h, if_pos (by rw [h, Nat.zero_mul])]
    · rw [if_neg h, if_neg (fun h' => by rcases Nat.mul_eq_zero.1 h' with h1 | h1 <;> omega)]
theorem pm_scale (counts : List Nat) (c : Nat) (hc : 0 < c) (L : Nat) : pmLens (counts.map (· * c)) L = pmLens counts L := by
  have hcnt : cnt (counts.map (· * c)) = fun s => cnt counts s * c := by
    funext s
    unfold cnt
    rw [List.getD_eq_getElem?_getD, List.getD_eq_getElem?_getD, List.getElem?_map]
    cases counts[s]? <;> simp
  have hth : there (counts.map (· * c)) = there counts := by unfold there; rw [hcnt, List.length_map, syms_scale _ c hc]
  have hlen : pmLen (counts.map (· * c)) L = pmLen counts L := by
    funext s
    unfold pmLen
    rw [hth]
    congr 1
    · rw [hcnt]
      by_cases h : cnt counts s = 0
      · rw [if_pos h, if_pos (show cnt counts s * c = 0 by rw [h, Nat.zero_mul])]
      · rw [if_neg h, if_neg (fun h' : cnt counts s * c = 0 => by rcases Nat.mul_eq_zero.1 h' with h1 | h1 <;> omega)]
    · unfold pmOcc
      rw [hcnt, lv_scale _ c hc]
  unfold pmLens
  rw [hth, hlen, List.length_map]

end Go.Proofs.Ytclfbdfgmeliaaa

/-
  Bits, bytes and numbers: plain mathematics, no program.
-/
namespace Go.Proofs.Ytclfbdfgmeliaaa

/-- Bit i of bytes, of each byte from the lowest on. -/
def bitAt (bs : List Nat) (i : Nat) : Bool := (bs.getD (i / 8) 0).testBit (i % 8)

/-- The bytes bs hold just the bits l, the last byte filled up with 0. -/
structure Packs (bs : List Nat) (l : List Bool) : Prop where
  len : bs.length = (l.length + 7) / 8
  small : ∀ j, bs.getD j 0 < 256
  bit : ∀ i, bitAt bs i = l.getD i false

theorem Packs.nil : Packs [] [] := ⟨rfl, fun j => by simp, fun i => by simp [bitAt]⟩

theorem testBit_small (x i : Nat) (hx : x < 256) (hi : 8 ≤ i) : x.testBit i = false := by
  apply Nat.testBit_lt_two_pow
  have : (2 : Nat) ^ 8 ≤ 2 ^ i := Nat.pow_le_pow_right (by omega) hi
  omega

theorem testBit_bool (b : Bool) (m i : Nat) : (b.toNat * 2 ^ m).testBit i = (b && decide (i = m)) := by
  cases b
  · simp
  · simp [Nat.testBit_two_pow]
    exact eq_comm

theorem bool_lt (b : Bool) (m : Nat) (hm : m < 8) : b.toNat * 2 ^ m < 256 := by
  have h2 : 2 ^ m ≤ 2 ^ 7 := Nat.pow_le_pow_right (by omega) (by omega)
  have h3 : b.toNat * 2 ^ m ≤ 1 * 2 ^ 7 := Nat.mul_le_mul (by cases b <;> simp) h2
  omega

theorem or_lt (x y : Nat) (hx : x < 256) (hy : y < 256) : x ||| y < 256 := Nat.or_lt_two_pow (n := 8) hx hy

theorem getD_set_nat (l : List Nat) (i j x : Nat) (hi : i < l.length) : (l.set i x).getD j 0 = if j = i then x else l.getD j 0 := by
  simp only [List.getD_eq_getElem?_getD, List.getElem?_set]
  by_cases h : i = j
  · subst h; simp [hi]
  · simp [h, Ne.symm h]

theorem getD_snoc (l : List Bool) (b : Bool) (i : Nat) : (l ++ [b]).getD i false = if i = l.length then b else l.getD i false := by
  simp only [List.getD_eq_getElem?_getD, List.getElem?_append]
  by_cases h1 : i < l.length
  · rw [if_pos h1, if_neg (by omega)]
  · rw [if_neg h1]
    by_cases h2 : i = l.length
    · subst h2; simp
    · rw [if_neg h2, List.getElem?_eq_none (by omega : l.length ≤ i), List.getElem?_eq_none (by simp; omega)]

theorem Packs.addIn {bs : List Nat} {l : List Bool} (h : Packs bs l) (hm : l.length % 8 ≠ 0) (b : Bool) :
    Packs (bs.set (l.length / 8) (bs.getD (l.length / 8) 0 ||| b.toNat * 2 ^ (l.length % 8))) (l ++ [b]) := by
  have hl := h.len
  have hlt : l.length / 8 < bs.length := by omega
  refine ⟨by simp; omega, fun j => ?_, fun i => ?_⟩
  · rw [getD_set_nat _ _ _ _ hlt]
    split
    · exact or_lt _ _ (h.small _) (bool_lt _ _ (by omega))
    · exact h.small _
  · rw [getD_snoc]
    have hi := h.bit i
    unfold bitAt at hi ⊢
    rw [getD_set_nat _ _ _ _ hlt]
    by_cases h1 : i / 8 = l.length / 8
    · rw [if_pos h1, Nat.testBit_or, testBit_bool, ← h1, hi]
      by_cases h2 : i = l.length
      · subst h2; simp
      · have : i % 8 ≠ l.length % 8 := by omega
        simp [this, h2]
    · rw [if_neg h1, hi, if_neg (by intro e; subst e; exact h1 rfl)]

theorem Packs.addNew {bs : List Nat} {l : List Bool} (h : Packs bs l) (hm : l.length % 8 = 0) (b : Bool) :
    Packs (bs ++ [0 ||| b.toNat * 2 ^ (l.length % 8)]) (l ++ [b]) := by
  have hl := h.len
  have hlt : bs.length = l.length / 8 := by omega
  have hg : ∀ j, (bs ++ [0 ||| b.toNat * 2 ^ (l.length % 8)]).getD j 0 = if j = bs.length then (b.toNat * 2 ^ (l.length % 8)) else bs.getD j 0 := by
    intro j
    simp only [List.getD_eq_getElem?_getD, List.getElem?_append]
    by_cases h1 : j < bs.length
    · rw [if_pos h1, if_neg (by omega)]
    · rw [if_neg h1]
      by_cases h2 : j = bs.length
      · subst h2; simp
      · rw [if_neg h2, List.getElem?_eq_none (by omega : bs.length ≤ j), List.getElem?_eq_none (by simp; omega)]
  refine ⟨by simp; omega, fun j => ?_, fun i => ?_⟩
  · rw [hg]
    split
    · exact bool_lt _ _ (by omega)
    · exact h.small _
  · rw [getD_snoc]
    have hi := h.bit i
    unfold bitAt at hi ⊢
    rw [hg]
    by_cases h1 : i / 8 = bs.length
    · rw [if_pos h1, testBit_bool]
      by_cases h2 : i = l.length
      · subst h2; simp
      · have h3 : i % 8 ≠ l.length % 8 := by omega
        rw [if_neg h2, decide_eq_false h3]
        simp only [List.getD_eq_getElem?_getD]
        rw [List.getElem?_eq_none (by omega : l.length ≤ i)]
        simp
    · rw [if_neg h1, hi, if_neg (by intro e; subst e; omega)]

theorem eq_of_bits (x y : Nat) (hx : x < 256) (hy : y < 256) (h : ∀ i, i < 8 → x.testBit i = y.testBit i) : x = y := by
  apply Nat.eq_of_testBit_eq
  intro i
  by_cases hi : i < 8
  · exact h i hi
  · rw [testBit_small x i hx (by omega), testBit_small y i hy (by omega)]

theorem ext_bits (bs bs' : List Nat) (hl : bs.length = bs'.length) (h1 : ∀ j, bs.getD j 0 < 256) (h2 : ∀ j, bs'.getD j 0 < 256) (h : ∀ i, bitAt bs i = bitAt bs' i) : bs = bs' := by
  apply List.ext_getElem hl
  intro j hj hj'
  have e := eq_of_bits (bs.getD j 0) (bs'.getD j 0) (h1 j) (h2 j) (fun i hi => by
    have := h (8 * j + i)
    unfold bitAt at this
    rwa [show (8 * j + i) / 8 = j by omega, show (8 * j + i) % 8 = i by omega] at this)
  simpa [List.getD_eq_getElem?_getD, hj, hj'] using e

theorem Packs.eq {bs bs' : List Nat} {l : List Bool} (h : Packs bs l) (h' : Packs bs' l) : bs = bs' :=
  ext_bits bs bs' (h.len.trans h'.len.symm) h.small h'.small (fun i => (h.bit i).trans (h'.bit i).symm)

/-- The lowest n bits of v, the highest of these first. -/
def putBits (v : Nat) : Nat → List Bool
  | 0 => []
  | n + 1 => v.testBit n :: putBits v n

theorem length_putBits (v n : Nat) : (putBits v n).length = n := by
  induction n with
  | zero => rfl
  | succ n ih => simp [putBits, ih]

/-- Bits as a number, the first of them the highest, behind a. -/
def numFrom (a : Nat) (l : List Bool) : Nat := l.foldl (fun a b => 2 * a + b.toNat) a
def num (l : List Bool) : Nat := numFrom 0 l

theorem numFrom_eq (l : List Bool) : ∀ a, numFrom a l = a * 2 ^ l.length + num l := by
  induction l with
  | nil => intro a; simp [numFrom, num]
  | cons b l ih =>
    intro a
    have h1 := ih (2 * a + b.toNat)
    have h2 := ih (2 * 0 + b.toNat)
    have e1 : numFrom a (b :: l) = numFrom (2 * a + b.toNat) l := rfl
    have e2 : num (b :: l) = numFrom (2 * 0 + b.toNat) l := rfl
    rw [e1, e2, h1, h2, List.length_cons, Nat.pow_succ, Nat.add_mul, Nat.add_mul]
    have : 2 * a * 2 ^ l.length = a * (2 ^ l.length * 2) := by rw [Nat.mul_comm 2 a, Nat.mul_assoc, Nat.mul_comm 2]
    omega

theorem num_cons (b : Bool) (l : List Bool) : num (b :: l) = b.toNat * 2 ^ l.length + num l := by
  have : num (b :: l) = numFrom (2 * 0 + b.toNat) l := rfl
  rw [this, numFrom_eq]; simp

theorem num_lt (l : List Bool) : num l < 2 ^ l.length := by
  induction l with
  | nil => simp [num, numFrom]
  | cons b l ih =>
    rw [num_cons, List.length_cons, Nat.pow_succ]
    cases b <;> simp <;> omega

theorem num_snoc (l : List Bool) (b : Bool) : num (l ++ [b]) = 2 * num l + b.toNat := by
  simp [num, numFrom, List.foldl_append]

theorem num_putBits (v n : Nat) : num (putBits v n) = v % 2 ^ n := by
  induction n with
  | zero => simp [putBits, num, numFrom, Nat.mod_one]
  | succ n ih =>
    rw [putBits, num_cons, length_putBits, ih]
    have h := Nat.mod_pow_succ (b := 2) (k := n) (x := v)
    rw [h, Nat.testBit_eq_decide_div_mod_eq]
    have h2 : v / 2 ^ n % 2 = 0 ∨ v / 2 ^ n % 2 = 1 := by omega
    rcases h2 with h2 | h2 <;> simp [h2] <;> omega

/-- All bits of bytes. -/
def unpack (bs : List Nat) : List Bool := (List.range (8 * bs.length)).map (bitAt bs)

theorem length_unpack (bs : List Nat) : (unpack bs).length = 8 * bs.length := by simp [unpack]
theorem get_unpack (bs : List Nat) (i : Nat) (h : i < 8 * bs.length) : (unpack bs)[i]? = some (bitAt bs i) := by simp [unpack, h]

theorem Packs.unpack {bs : List Nat} {l : List Bool} (h : Packs bs l) : unpack bs = l ++ List.replicate (8 * bs.length - l.length) false := by
  have hl := h.len
  apply List.ext_getElem?
  intro i
  by_cases hi : i < 8 * bs.length
  · rw [get_unpack _ _ hi, h.bit i, List.getElem?_append]
    by_cases h1 : i < l.length
    · rw [if_pos h1]; simp [h1]
    · rw [if_neg h1]
      simp only [List.getD_eq_getElem?_getD]
      rw [List.getElem?_eq_none (by omega : l.length ≤ i), List.getElem?_replicate, if_pos (by omega)]
      rfl
  · rw [List.getElem?_eq_none (by rw [length_unpack]; omega), List.getElem?_eq_none (by simp; omega)]

/-- How many bits a size counts as. -/
def wide (n : Int) : Nat := (min (max n 0) 64).toNat
theorem wide_le (n : Int) : wide n ≤ 64 := by unfold wide; omega
theorem wide_cast (n : Int) : (wide n : Int) = min (max n 0) 64 := by unfold wide; omega

/-- The bit f + i of bytes turned, if it is there and bit i of the mask is 1. -/
def flipStep (bs : List Nat) (f : Int) (mask i : Nat) : List Nat :=
  if (-(i : Int) ≤ f ∧ f < 8 * (bs.length : Int) - i) ∧ mask.testBit i = true then bs.set ((f + i).toNat / 8) (bs.getD ((f + i).toNat / 8) 0 ^^^ 2 ^ ((f + i).toNat % 8)) else bs
def flips (bs : List Nat) (f : Int) (mask : Nat) : Nat → List Nat
  | 0 => bs
  | k + 1 => flipStep (flips bs f mask k) f mask k

theorem length_flipStep (bs : List Nat) (f : Int) (mask i : Nat) : (flipStep bs f mask i).length = bs.length := by unfold flipStep; split <;> simp
theorem length_flips (bs : List Nat) (f : Int) (mask k : Nat) : (flips bs f mask k).length = bs.length := by
  induction k with
  | zero => rfl
  | succ k ih => rw [flips, length_flipStep, ih]

theorem xor_lt (x y : Nat) (hx : x < 256) (hy : y < 256) : x ^^^ y < 256 := Nat.xor_lt_two_pow (n := 8) hx hy
theorem pow_lt (m : Nat) (hm : m < 8) : 2 ^ m < 256 := by have := bool_lt true m hm; simpa using this

theorem small_flipStep (bs : List Nat) (f : Int) (mask i : Nat) (h : ∀ j, bs.getD j 0 < 256) : ∀ j, (flipStep bs f mask i).getD j 0 < 256 := by
  intro j
  unfold flipStep
  split
  · rename_i hc
    rw [getD_set_nat _ _ _ _ (by omega)]
    split
    · exact xor_lt _ _ (h _) (pow_lt _ (by omega))
    · exact h j
  · exact h j

theorem small_flips (bs : List Nat) (f : Int) (mask k : Nat) (h : ∀ j, bs.getD j 0 < 256) : ∀ j, (flips bs f mask k).getD j 0 < 256 := by
  induction k with
  | zero => exact h
  | succ k ih => exact small_flipStep _ _ _ _ ih

/-- Which bit of the mask falls on bit j. -/
def hit (f : Int) (mask k j : Nat) : Bool := decide (f ≤ j ∧ (j : Int) < f + k) && mask.testBit ((j : Int) - f).toNat

theorem bit_flipStep (bs : List Nat) (f : Int) (mask i j : Nat) (hj : j < 8 * bs.length) :
    bitAt (flipStep bs f mask i) j = (bitAt bs j ^^ (decide ((j : Int) = f + i) && mask.testBit i)) := by
  unfold flipStep
  split
  · rename_i hc
    unfold bitAt
    rw [getD_set_nat _ _ _ _ (by omega)]
    by_cases h1 : j / 8 = (f + i).toNat / 8
    · rw [if_pos h1, ← h1, Nat.testBit_xor, Nat.testBit_two_pow]
      by_cases h2 : (j : Int) = f + i
      · have : (f + i).toNat % 8 = j % 8 := by omega
        simp [this, h2, hc.2]
      · have : (f + i).toNat % 8 ≠ j % 8 := by omega
        simp [this, h2]
    · rw [if_neg h1]
      have h2 : ¬ (j : Int) = f + i := by omega
      simp [h2]
  · rename_i hc
    by_cases h2 : (j : Int) = f + i
    · have h3 : mask.testBit i = false := by
        cases h4 : mask.testBit i
        · rfl
        · exact absurd ⟨by omega, h4⟩ hc
      simp [h3]
    · simp [h2]

theorem bit_flips (bs : List Nat) (f : Int) (mask k j : Nat) (hj : j < 8 * bs.length) : bitAt (flips bs f mask k) j = (bitAt bs j ^^ hit f mask k j) := by
  induction k with
  | zero =>
    have : hit f mask 0 j = false := by unfold hit; simp; intro h1 h2; omega
    rw [flips, this]; simp
  | succ k ih =>
    rw [flips, bit_flipStep _ _ _ _ _ (by rw [length_flips]; exact hj), ih, Bool.xor_assoc]
    congr 1
    unfold hit
    by_cases h2 : (j : Int) = f + k
    · have e1 : ((j : Int) - f).toNat = k := by omega
      have e2 : decide (f ≤ (j : Int) ∧ (j : Int) < f + (k : Nat)) = false := decide_eq_false (by omega)
      have e3 : decide (f ≤ (j : Int) ∧ (j : Int) < f + ((k + 1 : Nat) : Int)) = true := decide_eq_true (by omega)
      rw [e2, e3, e1, decide_eq_true h2]; simp
    · have e2 : decide (f ≤ (j : Int) ∧ (j : Int) < f + ((k + 1 : Nat) : Int)) = decide (f ≤ (j : Int) ∧ (j : Int) < f + (k : Nat)) := by
        apply decide_eq_decide.2; omega
      rw [e2, decide_eq_false h2]; simp

theorem flips_flips (bs : List Nat) (f : Int) (mask k : Nat) (h : ∀ j, bs.getD j 0 < 256) : flips (flips bs f mask k) f mask k = bs := by
  apply ext_bits _ _ (by rw [length_flips, length_flips]) (small_flips _ _ _ _ (small_flips _ _ _ _ h)) h
  intro j
  by_cases hj : j < 8 * bs.length
  · rw [bit_flips _ _ _ _ _ (by rw [length_flips]; exact hj), bit_flips _ _ _ _ _ hj, Bool.xor_assoc]; simp
  · unfold bitAt
    simp only [List.getD_eq_getElem?_getD]
    rw [List.getElem?_eq_none (by rw [length_flips, length_flips]; omega), List.getElem?_eq_none (by omega)]

end Go.Proofs.Ytclfbdfgmeliaaa

/-
  Canonical codes of lengths: plain mathematics, no program. Each code as a piece of 0 to 2^15; the pieces lie one behind another.
-/
namespace Go.Proofs.Ytclfbdfgmeliaaa

/-- The length of a symbol. -/
def ln (l : List Nat) (s : Nat) : Nat := l.getD s 0
/-- Is ahead of the symbols of length n from s on. -/
abbrev Ahd (l : List Nat) (n s t : Nat) : Prop := 0 < ln l t ∧ (ln l t < n ∨ ln l t = n ∧ t < s)
def piece (l : List Nat) (n s t : Nat) : Nat := if Ahd l n s t then 2 ^ (15 - ln l t) else 0
/-- How much is ahead. -/
def ac (l : List Nat) (n s : Nat) : Nat := ((List.range l.length).map (piece l n s)).sum
def codeOf (l : List Nat) (s : Nat) : Nat := if ln l s = 0 then 0 else ac l (ln l s) s / 2 ^ (15 - ln l s)

theorem sum_one (n s c : Nat) (hs : s < n) : ((List.range n).map fun t => if t = s then c else 0).sum = c := by
  induction n with
  | zero => omega
  | succ n ih =>
    rw [List.range_succ, List.map_append, List.sum_append]
    by_cases h : s < n
    · rw [ih h]
      simp
      omega
    · have e : s = n := by omega
      subst e
      have : ((List.range s).map fun t => if t = s then c else 0).sum = 0 := by
        rw [sum_congr (l := List.range s) (g := fun _ => 0) (fun t ht => by rw [if_neg (by have := List.mem_range.1 ht; omega)]), sum_const_map]
        simp
      rw [this]
      simp
theorem ac_step (l : List Nat) (n s : Nat) (hs : s < l.length) : ac l n (s + 1) = ac l n s + if ln l s = n ∧ 0 < n then 2 ^ (15 - n) else 0 := by
  by_cases h : ln l s = n ∧ 0 < n
  · rw [if_pos h]
    unfold ac
    rw [← sum_one l.length s (2 ^ (15 - n)) hs, ← sum_add]
    refine sum_congr fun t _ => ?_
    unfold piece
    by_cases ht : t = s
    · subst ht
      rw [if_pos rfl, if_pos ⟨by omega, .inr ⟨h.1, by omega⟩⟩, if_neg (by unfold Ahd; omega), h.1]
      omega
    · rw [if_neg ht]
      have : Ahd l n (s + 1) t ↔ Ahd l n s t := by unfold Ahd; omega
      by_cases h2 : Ahd l n s t
      · rw [if_pos h2, if_pos (this.2 h2)]; omega
      · rw [if_neg h2, if_neg (fun h3 => h2 (this.1 h3))]
  · rw [if_neg h]
    unfold ac
    rw [Nat.add_zero]
    refine sum_congr fun t _ => ?_
    unfold piece
    have : Ahd l n (s + 1) t ↔ Ahd l n s t := by
      unfold Ahd
      constructor
      · rintro ⟨h1, h2 | ⟨h2, h3⟩⟩
        · exact ⟨h1, .inl h2⟩
        · refine ⟨h1, .inr ⟨h2, ?_⟩⟩
          rcases Nat.lt_or_ge t s with h4 | h4
          · exact h4
          · have : t = s := by omega
            subst this
            exact absurd ⟨h2, by omega⟩ h
      · rintro ⟨h1, h2 | ⟨h2, h3⟩⟩
        · exact ⟨h1, .inl h2⟩
        · exact ⟨h1, .inr ⟨h2, by omega⟩⟩
    by_cases h2 : Ahd l n s t
    · rw [if_pos h2, if_pos (this.2 h2)]
    · rw [if_neg h2, if_neg (fun h3 => h2 (this.1 h3))]
theorem ac_next (l : List Nat) (n : Nat) : ac l (n + 1) 0 = ac l n l.length := by
  unfold ac
  refine sum_congr fun t ht => ?_
  have ht := List.mem_range.1 ht
  unfold piece
  have : Ahd l (n + 1) 0 t ↔ Ahd l n l.length t := by unfold Ahd; omega
  by_cases h2 : Ahd l n l.length t
  · rw [if_pos h2, if_pos (this.2 h2)]
  · rw [if_neg h2, if_neg (fun h3 => h2 (this.1 h3))]
theorem ac_zero (l : List Nat) : ac l 1 0 = 0 := by
  unfold ac
  rw [sum_congr (l := List.range l.length) (g := fun _ => 0) (fun t _ => by unfold piece; rw [if_neg (by unfold Ahd; omega)]), sum_const_map]
  simp
theorem map_ln (l : List Nat) (f : Nat → Nat) : (List.range l.length).map (fun s => f (ln l s)) = l.map f := by
  apply List.ext_getElem (by simp)
  intro i h1 h2
  simp at h1 h2
  simp [ln, List.getD_eq_getElem?_getD, h2]
theorem ac_all (l : List Nat) (h : ∀ s, ln l s ≤ 15) : ac l 16 0 = kraftOf l := by
  unfold ac kraftOf
  rw [← map_ln l fun n => if 1 ≤ n ∧ n ≤ 15 then 2 ^ (15 - n) else 0]
  refine sum_congr fun t _ => ?_
  unfold piece
  have := h t
  by_cases h0 : 0 < ln l t
  · rw [if_pos ⟨h0, .inl (by omega)⟩, if_pos (by omega)]
  · rw [if_neg (by unfold Ahd; omega), if_neg (by omega)]
theorem ac_mono (l : List Nat) {n s n' s' : Nat} (h : ∀ t, Ahd l n s t → Ahd l n' s' t) : ac l n s ≤ ac l n' s' := by
  unfold ac
  refine sum_le fun t _ => ?_
  unfold piece
  by_cases h2 : Ahd l n s t
  · rw [if_pos h2, if_pos (h t h2)]; exact Nat.le_refl _
  · rw [if_neg h2]; exact Nat.zero_le _
theorem ac_dvd (l : List Nat) (n s : Nat) : 2 ^ (15 - n) ∣ ac l n s := by
  unfold ac
  have : ∀ (r : List Nat), 2 ^ (15 - n) ∣ (r.map (piece l n s)).sum := by
    intro r
    induction r with
    | nil => simp
    | cons a r ih =>
      rw [List.map_cons, List.sum_cons]
      refine Nat.dvd_add ?_ ih
      unfold piece
      split
      · rename_i h
        exact Nat.pow_dvd_pow 2 (by unfold Ahd at h; omega)
      · simp
  exact this _
theorem ac_ahead (l : List Nat) {a n s : Nat} (ha : a < l.length) (h : Ahd l n s a) : ac l (ln l a) a + 2 ^ (15 - ln l a) ≤ ac l n s := by
  have h1 := ac_step l (ln l a) a ha
  rw [if_pos ⟨rfl, h.1⟩] at h1
  rw [← h1]
  refine ac_mono l fun t ht => ?_
  unfold Ahd at h ht ⊢
  omega

section
variable {l : List Nat}
theorem ln_lt {s : Nat} (h : 0 < ln l s) : s < l.length := by
  rcases Nat.lt_or_ge s l.length with h1 | h1
  · exact h1
  · unfold ln at h
    rw [List.getD_eq_getElem?_getD, List.getElem?_eq_none h1] at h
    simp at h
theorem code_mul {s : Nat} (h : 0 < ln l s) : codeOf l s * 2 ^ (15 - ln l s) = ac l (ln l s) s := by
  unfold codeOf
  rw [if_neg (by omega)]
  exact Nat.div_mul_cancel (ac_dvd l _ s)
/-- Who comes first is below. -/
theorem code_order (h15 : ∀ s, ln l s ≤ 15) {a b : Nat} (ha : 0 < ln l a) (hb : 0 < ln l b) (h : Ahd l (ln l b) b a) : (codeOf l a + 1) * 2 ^ (ln l b - ln l a) ≤ codeOf l b := by
  have h1 := ac_ahead l (ln_lt ha) h
  rw [← code_mul ha, ← code_mul hb, ← Nat.succ_mul] at h1
  have hab : ln l a ≤ ln l b := by unfold Ahd at h; omega
  have h2 := h15 b
  have e : 2 ^ (15 - ln l a) = 2 ^ (ln l b - ln l a) * 2 ^ (15 - ln l b) := by rw [← Nat.pow_add]; congr 1; omega
  rw [e, ← Nat.mul_assoc] at h1
  exact Nat.le_of_mul_le_mul_right h1 (Nat.two_pow_pos _)
theorem code_lt (h15 : ∀ s, ln l s ≤ 15) (hk : kraftOf l ≤ 2 ^ 15) {s : Nat} (h : 0 < ln l s) : codeOf l s < 2 ^ ln l s := by
  have h2 := h15 s
  have h1 := ac_ahead l (ln_lt h) (n := 16) (s := 0) ⟨h, .inl (by omega)⟩
  rw [ac_all l h15, ← code_mul h, ← Nat.succ_mul] at h1
  have e : 2 ^ 15 = 2 ^ ln l s * 2 ^ (15 - ln l s) := by rw [← Nat.pow_add]; congr 1; omega
  have h3 := Nat.le_trans h1 hk
  rw [e] at h3
  exact Nat.le_of_mul_le_mul_right h3 (Nat.two_pow_pos _)
theorem ahd_or {a b : Nat} (ha : 0 < ln l a) (hb : 0 < ln l b) (hab : a ≠ b) : Ahd l (ln l b) b a ∨ Ahd l (ln l a) a b := by unfold Ahd; omega
/-- No code begins another one. -/
theorem code_free (h15 : ∀ s, ln l s ≤ 15) {a b : Nat} (ha : 0 < ln l a) (hb : 0 < ln l b) (hab : a ≠ b) (hle : ln l a ≤ ln l b) : codeOf l b / 2 ^ (ln l b - ln l a) ≠ codeOf l a ∧ (codeOf l a < codeOf l b / 2 ^ (ln l b - ln l a) ↔ ln l a < ln l b ∨ a < b) := by
  rcases ahd_or ha hb hab with h | h
  · have h1 := code_order h15 ha hb h
    have h2 : codeOf l a + 1 ≤ codeOf l b / 2 ^ (ln l b - ln l a) := (Nat.le_div_iff_mul_le (Nat.two_pow_pos _)).2 h1
    refine ⟨by omega, ⟨fun _ => by unfold Ahd at h; omega, fun _ => by omega⟩⟩
  · have h1 := code_order h15 hb ha h
    have e : ln l a = ln l b := by unfold Ahd at h; omega
    rw [e, Nat.sub_self, Nat.pow_zero, Nat.mul_one] at h1
    rw [e, Nat.sub_self, Nat.pow_zero, Nat.div_one]
    refine ⟨by omega, ⟨fun _ => by omega, fun h3 => by unfold Ahd at h; omega⟩⟩
theorem code_inj (h15 : ∀ s, ln l s ≤ 15) {a b : Nat} (ha : 0 < ln l a) (hl : ln l a = ln l b) (hc : codeOf l a = codeOf l b) : a = b := by
  by_cases hab : a = b
  · exact hab
  · have := (code_free h15 ha (by omega) hab (by omega)).1
    rw [hl, Nat.sub_self, Nat.pow_zero, Nat.div_one] at this
    exact absurd hc.symm this
/-- The first code is nought. -/
theorem code_first {s : Nat} (h : 0 < ln l s) (hf : ∀ t, 0 < ln l t → ¬ Ahd l (ln l s) s t) : codeOf l s = 0 := by
  have h0 : ac l (ln l s) s = 0 := by
    unfold ac
    rw [sum_congr (l := List.range l.length) (g := fun _ => 0) (fun t _ => by unfold piece; rw [if_neg (fun ha => hf t ha.1 ha)]), sum_const_map]
    simp
  unfold codeOf
  rw [if_neg (by omega), h0]
  simp
/-- The last code has all bits. -/
theorem code_last (h15 : ∀ s, ln l s ≤ 15) (hk : kraftOf l = 2 ^ 15) {s : Nat} (h : 0 < ln l s) (hf : ∀ t, 0 < ln l t → t ≠ s → Ahd l (ln l s) s t) : codeOf l s + 1 = 2 ^ ln l s := by
  have h2 := h15 s
  have h1 := ac_step l (ln l s) s (ln_lt h)
  rw [if_pos ⟨rfl, h⟩] at h1
  have h3 : ac l (ln l s) (s + 1) = ac l 16 0 := by
    apply Nat.le_antisymm
    · refine ac_mono l fun t ht => ?_
      have := h15 t
      unfold Ahd at ht ⊢
      omega
    · refine ac_mono l fun t ht => ?_
      by_cases hts : t = s
      · subst hts
        exact ⟨h, .inr ⟨rfl, by omega⟩⟩
      · have := hf t ht.1 hts
        unfold Ahd at this ⊢
        omega
  rw [h3, ac_all l h15, hk, ← code_mul h, ← Nat.succ_mul] at h1
  have e : 2 ^ 15 = 2 ^ ln l s * 2 ^ (15 - ln l s) := by rw [← Nat.pow_add]; congr 1; omega
  rw [e] at h1
  exact (Nat.mul_right_cancel (Nat.two_pow_pos _) h1).symm
end

/-- Which symbol has a code. -/
def findSym (l : List Nat) (n v : Nat) : Option Nat := (List.range l.length).find? fun s => ln l s == n && codeOf l s == v
def seekSym (l : List Nat) (bs : List Bool) : Nat → Nat → Option (Nat × Nat)
  | _, 0 => none
  | n, f + 1 => if bs.length < n then none else match findSym l n (num (bs.take n)) with
    | some s => some (s, n)
    | none => seekSym l bs (n + 1) f
/-- The symbol that bits begin with, and how long it is. -/
def takeSym (l : List Nat) (bs : List Bool) : Option (Nat × Nat) := seekSym l bs 1 15

theorem putBits_take (v : Nat) : ∀ (m n : Nat), n ≤ m → (putBits v m).take n = putBits (v / 2 ^ (m - n)) n
  | 0, n, h => by
    have : n = 0 := by omega
    subst this
    rfl
  | m + 1, 0, _ => by simp [putBits]
  | m + 1, n + 1, h => by
    rw [putBits, List.take_succ_cons, putBits_take v m n (by omega), putBits, show m + 1 - (n + 1) = m - n by omega]
    congr 1
    rw [Nat.testBit_div_two_pow]
    congr 1
    omega
theorem num_take_put {v m n : Nat} (hv : v < 2 ^ m) (hn : n ≤ m) (r : List Bool) : num ((putBits v m ++ r).take n) = v / 2 ^ (m - n) := by
  rw [List.take_append_of_le_length (by rw [length_putBits]; exact hn), putBits_take v m n hn, num_putBits]
  apply Nat.mod_eq_of_lt
  rw [Nat.div_lt_iff_lt_mul (Nat.two_pow_pos _), ← Nat.pow_add]
  rwa [show n + (m - n) = m by omega]

section
variable {l : List Nat}
theorem findSym_some {n v s : Nat} (h : findSym l n v = some s) : s < l.length ∧ ln l s = n ∧ codeOf l s = v := by
  unfold findSym at h
  have h1 := List.find?_some h
  have h2 := List.mem_of_find?_eq_some h
  simp at h1 h2
  exact ⟨h2, h1⟩
theorem findSym_is (h15 : ∀ s, ln l s ≤ 15) {n v s : Nat} (h0 : 0 < n) (h1 : ln l s = n) (h2 : codeOf l s = v) : findSym l n v = some s := by
  cases h : findSym l n v with
  | none =>
    unfold findSym at h
    rw [List.find?_eq_none] at h
    have := h s (List.mem_range.2 (ln_lt (by omega)))
    simp [h1, h2] at this
  | some t =>
    obtain ⟨h3, h4, h5⟩ := findSym_some h
    rw [code_inj h15 (a := s) (b := t) (by omega) (by omega) (by omega)]
theorem seek_put (h15 : ∀ s, ln l s ≤ 15) (hk : kraftOf l ≤ 2 ^ 15) {s : Nat} (hs : 0 < ln l s) (r : List Bool) : ∀ (f n : Nat), 1 ≤ n → n ≤ ln l s → ln l s < n + f → seekSym l (putBits (codeOf l s) (ln l s) ++ r) n f = some (s, ln l s)
  | 0, n, _, h1, h2 => by omega
  | f + 1, n, h0, h1, h2 => by
    unfold seekSym
    rw [if_neg (by rw [List.length_append, length_putBits]; omega), num_take_put (code_lt h15 hk hs) h1]
    by_cases e : n = ln l s
    · subst e
      rw [Nat.sub_self, Nat.pow_zero, Nat.div_one, findSym_is h15 (by omega) rfl rfl]
    · have hn : findSym l n (codeOf l s / 2 ^ (ln l s - n)) = none := by
        cases h : findSym l n (codeOf l s / 2 ^ (ln l s - n)) with
        | none => rfl
        | some t =>
          obtain ⟨h3, h4, h5⟩ := findSym_some h
          have := (code_free h15 (a := t) (b := s) (by omega) hs (by intro e2; subst e2; omega) (by omega)).1
          rw [h4] at this
          exact absurd h5.symm this
      rw [hn]
      exact seek_put h15 hk hs r f (n + 1) (by omega) (by omega) (by omega)
/-- What was put is taken. -/
theorem take_put (h15 : ∀ s, ln l s ≤ 15) (hk : kraftOf l ≤ 2 ^ 15) {s : Nat} (hs : 0 < ln l s) (r : List Bool) : takeSym l (putBits (codeOf l s) (ln l s) ++ r) = some (s, ln l s) :=
  seek_put h15 hk hs r 15 1 (by omega) hs (by have := h15 s; omega)
end

/-- Which lengths may be. -/
def someOf (l : List Nat) : Nat := l.countP (0 < ·)
structure RightL (l : List Nat) : Prop where
  most : l.length ≤ 256
  le : ∀ n ∈ l, n ≤ 15
  how : (someOf l = 1 ∧ ∀ n ∈ l, 0 < n → n = 1) ∨ kraftOf l = 2 ^ 15
theorem RightL.ln {l : List Nat} (h : RightL l) (s : Nat) : ln l s ≤ 15 := by
  unfold Proofs.Ytclfbdfgmeliaaa.ln
  rw [List.getD_eq_getElem?_getD]
  cases hs : l[s]? with
  | none => simp
  | some n => simpa using h.le n (List.mem_of_getElem? hs)
theorem kraft_one : ∀ (l : List Nat), (∀ n ∈ l, 0 < n → n = 1) → kraftOf l = someOf l * 2 ^ 14
  | [], _ => by simp [kraftOf, someOf]
  | n :: l, h => by
    have ih := kraft_one l (fun m hm => h m (by simp [hm]))
    unfold kraftOf someOf at ih ⊢
    rw [List.map_cons, List.sum_cons, ih, List.countP_cons]
    have := h n (by simp)
    by_cases h0 : 0 < n
    · have := this h0
      subst this
      simp
      omega
    · have : n = 0 := by omega
      subst this
      simp
theorem RightL.kraft {l : List Nat} (h : RightL l) : kraftOf l ≤ 2 ^ 15 := by
  rcases h.how with ⟨h1, h2⟩ | h1
  · rw [kraft_one l h2, h1]; decide
  · omega

end Go.Proofs.Ytclfbdfgmeliaaa

/-
  A law for a statement whose order of evaluation Go leaves open: one order is walked, step by step; an operation that is taken early must yield its value in every world that the rest of the statement can lead to. No program is named here.
-/
namespace Go.Proofs.Ytclfbdfgmeliaaa
open Go.RowKit

section
variable {P : Program} {ops : Array Oper} {Q : Exit → Act → World → Prop} {md : Region.Mode} {T : Nat → Prop} {js : List Nat}

/-- Is 'ks' an order that can be walked for all: each of 'js' comes up alone, each other one may be taken first? -/
def schedChk (md : Region.Mode) (ops : Array Oper) (js : List Nat) : List Nat → Array Bool → Bool
  | [], listed => Region.ready md ops listed == []
  | k :: ks, listed => (if js.contains k then Region.ready md ops listed == [k] else Region.free md ops listed k && (Region.ready md ops listed).contains k) && schedChk md ops js ks (listed.setIfInBounds k true)

def wpLex (P : Program) (ops : Array Oper) (Q : Exit → Act → World → Prop) (T : Nat → Prop) (js : List Nat) : List Nat → Act → World → Prop
  | [], a, w => Q .normal a w
  | k :: ks, a, w => (js.contains k = false ∧ ∃ o v, ops[k]? = some o ∧ YieldsIf P ops (fun x => Fr w x T) o v a ∧ wpLex P ops Q T js ks (a.put o.dst v) w) ∨
      (js.contains k = true ∧ wpOp P ops (NoPanic Q) k (fun a' w' => Fr w w' T ∧ wpLex P ops Q T js ks a' w') a w)

theorem wpAnyH_mono {S S' : World → Prop} (hS : ∀ x, S' x → S x) : ∀ (fuel : Nat) (listed : Array Bool) (a : Act) (w : World), wpAnyH P md ops Q S' fuel listed a w → wpAnyH P md ops Q S fuel listed a w
  | 0, _, _, _, h => h
  | fuel + 1, _, _, _, h => ⟨h.1, fun i hi => wpOp_mono (fun a' w' h' => ⟨hS _ h'.1, wpAnyH_mono hS fuel _ a' w' h'.2⟩) (h.2 i hi)⟩

theorem wpAnyH_of_lex (hs : Region.noSelect ops = true) : ∀ (ks : List Nat) (listed : Array Bool) (a : Act) (w : World), schedChk md ops js ks listed = true → wpLex P ops Q T js ks a w →
    wpAnyH P md ops (NoPanic Q) (fun x => Fr w x T) ks.length listed a w
  | [], listed, a, w, hc, h => by
    have hr : Region.ready md ops listed = [] := by simpa [schedChk] using hc
    exact wpAnyH_done hr (NoPanic.normal h) _
  | k :: ks, listed, a, w, hc, h => by
    simp only [schedChk, Bool.and_eq_true] at hc
    obtain ⟨hc1, hc2⟩ := hc
    rcases h with ⟨hk, o, v, ho, hy, h⟩ | ⟨hk, h⟩
    · rw [hk] at hc1
      simp only [Bool.false_eq_true, if_false, Bool.and_eq_true] at hc1
      exact wpAnyH_take ho hs hc1.1 hc1.2 (fun _ _ _ h => h) hy (Fr.refl _ _) (wpAnyH_of_lex hs ks _ _ w hc2 h)
    · rw [hk] at hc1
      have hr : Region.ready md ops listed = [k] := by simpa using hc1
      refine wpAnyH_all hr (by simp) (fun i hi => ?_)
      obtain rfl : i = k := by simpa using hi
      refine wpOp_mono (fun a' w' h' => ⟨h'.1, ?_⟩) h
      exact wpAnyH_mono (fun x hx => h'.1.trans hx (fun _ _ ht => ht)) _ _ _ _ (wpAnyH_of_lex hs ks _ a' w' hc2 h'.2)

/-- The law: for a region that draws its order, of the operations l: js: those that come up alone (calls, stores); ks: the order that is walked; T: the blocks that they may touch. -/
theorem wp_region_lex {id : Nat} {a : Act} {w : World} {l : List Oper} (T : Nat → Prop) (js ks : List Nat) (hm : P.follows .mixedOrders = true) (hs : Region.noSelect l.toArray = true)
    (hl : ks.length = l.length) (hc : schedChk .any l.toArray js ks (Array.replicate l.length false) = true)
    (h : wpLex P l.toArray Q T js ks a w.drew) : (Code.region id l.toArray true).wp P Q a w := by
  refine wp_region_noPanic (wp_region_held (S := fun x => Fr w.drew x T) hm ?_)
  have := wpAnyH_of_lex (md := .any) hs ks _ a w.drew hc h
  rw [hl] at this
  simpa using this

theorem wpLex_nil {a : Act} {w : World} (h : Q .normal a w) : wpLex P ops Q T js [] a w := h

theorem wpLex_take {l : List Oper} {k : Nat} {ks : List Nat} {o : Oper} {v : Value} {a : Act} {w : World} (hk : js.contains k = false) (ho : l[k]? = some o) (hw : Region.wanted o (yielded l.toArray a.tmps) = true)
    (hy : ∀ x, Fr w x T → (execOp a.eval o).run P x = .ok (.value v) x) (h : wpLex P l.toArray Q T js ks (a.put o.dst v) w) : wpLex P l.toArray Q T js (k :: ks) a w :=
  .inl ⟨hk, o, v, by simpa using ho, .inl ⟨hw, hy⟩, h⟩

theorem wpLex_pass {l : List Oper} {k : Nat} {ks : List Nat} {o : Oper} {a : Act} {w : World} (hk : js.contains k = false) (ho : l[k]? = some o) (hw : Region.wanted o (yielded l.toArray a.tmps) = false)
    (h : wpLex P l.toArray Q T js ks (a.put o.dst undef) w) : wpLex P l.toArray Q T js (k :: ks) a w :=
  .inl ⟨hk, o, undef, by simpa using ho, .inr ⟨hw, rfl⟩, h⟩

theorem wpLex_step {l : List Oper} {k : Nat} {ks : List Nat} {o : Oper} {a : Act} {w : World} (hk : js.contains k = true) (ho : l[k]? = some o) (hw : Region.wanted o (yielded l.toArray a.tmps) = true)
    (h : ∀ K : Act → World → Prop, (∀ a' w', Fr w w' T → wpLex P l.toArray Q T js ks a' w' → K a' w') → o.wp P a w K (NoPanic Q)) : wpLex P l.toArray Q T js (k :: ks) a w := by
  have ho' : l.toArray[k]? = some o := by simpa using ho
  refine .inr ⟨hk, ?_⟩
  unfold wpOp
  simp only [ho', hw, if_true]
  exact .inl (h _ (fun a' w' h1 h2 => ⟨h1, h2⟩))

end
end Go.Proofs.Ytclfbdfgmeliaaa

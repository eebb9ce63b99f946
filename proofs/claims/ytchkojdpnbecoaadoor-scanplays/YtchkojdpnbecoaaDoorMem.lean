/-
  What a call may have touched: a frame by a set of blocks; and what the call's own rows keep. No program is named here.
-/
import Derived.WalkKit
import Derived.WalkSpells
import Derived.Deep.QuietTactic
import Derived.BigQuiet
import Derived.Deep.AppendLies
import Derived.ProofKit
import Derived.OpenShut
namespace Go.Proofs.YtchkojdpnbecoaaDoor
open Go.RowKit

/-- Of the blocks that were there all but those of S are as they were. -/
structure Fr (w w' : World) (S : Nat → Prop) : Prop where
  os : w'.os = w.os
  tape : w'.tape = w.tape
  output : w'.output = w.output
  size : w.heap.size ≤ w'.heap.size
  block : ∀ k, k < w.heap.size → ¬ S k → w'.heap[k]? = w.heap[k]?

theorem Fr.refl (w : World) (S : Nat → Prop) : Fr w w S := ⟨rfl, rfl, rfl, Nat.le_refl _, fun _ _ _ => rfl⟩

theorem Fr.trans {a b c : World} {S T : Nat → Prop} (h : Fr a b S) (k : Fr b c T) (hT : ∀ i, i < a.heap.size → T i → S i) : Fr a c S :=
  ⟨k.os.trans h.os, k.tape.trans h.tape, k.output.trans h.output, Nat.le_trans h.size k.size,
    fun i hi hs => (k.block i (Nat.lt_of_lt_of_le hi h.size) (fun ht => hs (hT i hi ht))).trans (h.block i hi hs)⟩

theorem Fr.mono {a b : World} {S T : Nat → Prop} (h : Fr a b S) (hT : ∀ i, i < a.heap.size → S i → T i) : Fr a b T :=
  ⟨h.os, h.tape, h.output, h.size, fun i hi hs => h.block i hi (fun ht => hs (hT i hi ht))⟩

theorem Fr.alloc {a b : World} {S : Nat → Prop} (h : Fr a b S) (o : Obj) : Fr a (b.alloc o) S :=
  ⟨h.os, h.tape, h.output, by have := h.size; simp; omega, fun k hk hs => (Below.heap_alloc _ _ _ (by have := h.size; omega)).trans (h.block k hk hs)⟩

theorem Fr.drew {a b : World} {S : Nat → Prop} (h : Fr a b S) : Fr a b.drew S := ⟨h.os, h.tape, h.output, h.size, h.block⟩

theorem Fr.drewN {a b : World} {S : Nat → Prop} (h : Fr a b S) (n : Nat) : Fr a (b.drewN n) S := ⟨h.os, h.tape, h.output, h.size, h.block⟩

theorem Fr.setCell {a b : World} {S : Nat → Prop} (h : Fr a b S) (p : Addr) (hp : p.block < a.heap.size → S p.block) (u : Value) : Fr a (b.setCell p u) S :=
  ⟨h.os, h.tape, h.output, by have := h.size; simp [World.setCell]; omega, fun k hk hs => (Below.heap_setCell _ _ _ _ (fun e => by subst e; exact hs (hp hk))).trans (h.block k hk hs)⟩

theorem Fr.grown {a b c : World} {S : Nat → Prop} {row : Option Nat} (h : Fr a b S) (hg : b.grownBy c row) (hr : ∀ k, row = some k → k < a.heap.size → S k) : Fr a c S :=
  ⟨hg.os.trans h.os, hg.tape.trans h.tape, hg.output.trans h.output, Nat.le_trans h.size hg.size,
    fun k hk hs => (hg.block k (by have := h.size; omega) (fun e => hs (hr k e.symm hk))).trans (h.block k hk hs)⟩

theorem Fr.below {w w' : World} {S : Nat → Prop} (h : Fr w w' S) {B : Nat} (hB : B ≤ w.heap.size) (hS : ∀ k, S k → B ≤ k) : Below B w w' :=
  ⟨h.os, h.tape, h.output, h.size, fun k hk => h.block k (by omega) (fun hs => by have := hS k hs; omega)⟩

theorem Fr.of_below {w w' : World} (h : Below w.heap.size w w') (S : Nat → Prop) : Fr w w' S :=
  ⟨h.os, h.tape, h.output, h.size, fun k hk _ => h.block k hk⟩

theorem Fr.kept {w w' : World} {S : Nat → Prop} (h : Fr w w' S) {b : Nat} {o : Obj} (hb : w.heap[b]? = some o) (hs : ¬ S b) : w'.heap[b]? = some o :=
  (h.block b (lt_of_block hb) hs).trans hb

theorem Fr.owns {w w' : World} {S : Nat → Prop} (h : Fr w w' S) {base : Nat} {e : TypeId} {size : Nat} {v : Value} {n : Nat} {xs : List Value} (ho : w.ownsRow base e size v n xs)
    (hs : ∀ k, v.ownBlock = some k → ¬ S k) : w'.ownsRow base e size v n xs := by
  refine ⟨ho.1, ?_⟩
  rcases ho.2 with hn | ⟨g, cap, cur, rfl, hb, hgg, rest⟩
  · exact .inl hn
  · exact .inr ⟨g, cap, cur, rfl, hb, h.kept hgg (hs g rfl), rest⟩

/-- A block of two cells. -/
theorem two_cell0 {w : World} {b : Nat} {x y : Value} {t : TypeId} (h : w.heap[b]? = some (.cells #[x, y] t (0, 0))) : w.cell? ⟨b, 0, none⟩ = some x := by simp [World.cell?, h]
theorem two_cell1 {w : World} {b : Nat} {x y : Value} {t : TypeId} (h : w.heap[b]? = some (.cells #[x, y] t (0, 0))) : w.cell? ⟨b, 1, none⟩ = some y := by simp [World.cell?, h]
theorem two_free {w : World} {b : Nat} {x y : Value} {t : TypeId} (h : w.heap[b]? = some (.cells #[x, y] t (0, 0))) (j : Nat) : w.frozen? ⟨b, j, none⟩ = false := by simp [World.frozen?, h]
theorem two_set0 {w : World} {b : Nat} {x y u : Value} {t : TypeId} (h : w.heap[b]? = some (.cells #[x, y] t (0, 0))) : (w.setCell ⟨b, 0, none⟩ u).heap[b]? = some (.cells #[u, y] t (0, 0)) := by
  have := heap_setCell_same w b 0 #[x, y] t u h
  simpa using this
theorem two_set1 {w : World} {b : Nat} {x y u : Value} {t : TypeId} (h : w.heap[b]? = some (.cells #[x, y] t (0, 0))) : (w.setCell ⟨b, 1, none⟩ u).heap[b]? = some (.cells #[x, u] t (0, 0)) := by
  have := heap_setCell_same w b 1 #[x, y] t u h
  simpa using this
/-- A store into another block. -/
theorem blk_set_other {w : World} {b : Nat} {o : Obj} {a : Addr} {u : Value} (h : w.heap[b]? = some o) (hne : b ≠ a.block) : (w.setCell a u).heap[b]? = some o := by
  rw [Below.heap_setCell _ _ _ _ hne]; exact h
theorem blk_alloc {w : World} {b : Nat} {o : Obj} (x : Obj) (h : w.heap[b]? = some o) : (w.alloc x).heap[b]? = some o := by
  rw [Below.heap_alloc _ _ _ (lt_of_block h)]; exact h

/-- A row of numbers of one kind. -/
def row (k : IntKind) (bs : List Nat) : List Value := bs.map fun (b : Nat) => Value.int k (b : Int)
theorem length_row (k : IntKind) (bs : List Nat) : (row k bs).length = bs.length := by simp [row]
theorem row_get (k : IntKind) (bs : List Nat) (j : Nat) (h : j < bs.length) : (row k bs)[j]? = some (.int k ((bs.getD j 0 : Nat) : Int)) := by simp [row, h, List.getD]
theorem row_append (k : IntKind) (a b : List Nat) : row k (a ++ b) = row k a ++ row k b := by simp [row]
theorem row_set (k : IntKind) (a : List Nat) (j x : Nat) : row k (a.set j x) = (row k a).set j (.int k (x : Int)) := by simp [row, List.map_set]
theorem row_take (k : IntKind) (a : List Nat) (n : Nat) : row k (a.take n) = (row k a).take n := by simp [row, List.map_take]
theorem row_drop (k : IntKind) (a : List Nat) (n : Nat) : row k (a.drop n) = (row k a).drop n := by simp [row, List.map_drop]
theorem row_one (k : IntKind) (bs : List Nat) : ∀ u ∈ row k bs, u.oneCell' = true := by
  intro u hu
  simp only [row, List.mem_map] at hu
  obtain ⟨b, _, rfl⟩ := hu
  rfl

theorem add_none (b off j : Nat) : (⟨b, off, none⟩ : Addr).add j = ⟨b, off + j, none⟩ := by unfold Addr.add; split <;> simp_all

/-- A slice that can be read: the cells xs. -/
def Holds (w : World) (v : Value) (xs : List Value) : Prop :=
  ∃ ao cap, v = .slice ao xs.length cap ∧ xs.length ≤ cap ∧ (0 < xs.length → ∃ b off, ao = some ⟨b, off, none⟩ ∧ ∀ j u, xs[j]? = some u → w.cell? ⟨b, off + j, none⟩ = some u)
/-- A slice of numbers of one kind that can be read: bs. -/
def Reads (k : IntKind) (w : World) (v : Value) (bs : List Nat) : Prop := Holds w v (row k bs)

theorem Holds.frame' {w w' : World} {v : Value} {xs : List Value} {S : Nat → Prop} (h : Holds w v xs) (f : Fr w w' S) (hs : 0 < xs.length → ∀ k, v.ownBlock = some k → ¬ S k) : Holds w' v xs := by
  obtain ⟨ao, cap, rfl, hlc, hc⟩ := h
  refine ⟨ao, cap, rfl, hlc, fun hp => ?_⟩
  obtain ⟨b, off, rfl, hcell⟩ := hc hp
  refine ⟨b, off, rfl, fun j u hj => ?_⟩
  have h1 := hcell j u hj
  have h2 := World.block_lt_of_cell? _ _ h1
  rw [World.cell?_of_block (w := w) (f.block _ h2 (hs hp _ rfl))]
  exact h1
theorem Holds.frame {w w' : World} {v : Value} {xs : List Value} {S : Nat → Prop} (h : Holds w v xs) (f : Fr w w' S) (hs : ∀ k, v.ownBlock = some k → ¬ S k) : Holds w' v xs := h.frame' f (fun _ => hs)
theorem Holds.keep {w w' : World} {v : Value} {xs : List Value} (h : Holds w v xs) (f : Fr w w' (fun _ => False)) : Holds w' v xs := h.frame f (fun _ _ h => h)
theorem Reads.keep {k : IntKind} {w w' : World} {v : Value} {bs : List Nat} (h : Reads k w v bs) (f : Fr w w' (fun _ => False)) : Reads k w' v bs := Holds.keep h f
theorem Reads.frame {k : IntKind} {w w' : World} {v : Value} {bs : List Nat} {S : Nat → Prop} (h : Reads k w v bs) (f : Fr w w' S) (hs : ∀ k, v.ownBlock = some k → ¬ S k) : Reads k w' v bs := Holds.frame h f hs
theorem Reads.frame' {k : IntKind} {w w' : World} {v : Value} {bs : List Nat} {S : Nat → Prop} (h : Reads k w v bs) (f : Fr w w' S) (hs : 0 < bs.length → ∀ k, v.ownBlock = some k → ¬ S k) : Reads k w' v bs :=
  Holds.frame' h f (by rw [length_row]; exact hs)

theorem holds_own {w : World} {e : TypeId} {v : Value} {n : Nat} {xs : List Value} (h : w.ownsRow 0 e 1 v n xs) : Holds w v xs := by
  have hl : xs.length = n := by have := h.1; omega
  rcases h.2 with ⟨rfl, h0⟩ | ⟨g, cap, cur, rfl, _, _, hcc, _⟩
  · exact ⟨_, 0, by rw [hl, h0], by omega, fun hp => by omega⟩
  · exact ⟨some ⟨g, 0, _⟩, cap, by rw [hl], by omega, fun _ => ⟨g, 0, rfl, fun j u hj => by have := h.cells rfl j u hj; rwa [add_none] at this⟩⟩

/-- The first cells of a slice: what b[:n] is. -/
theorem Holds.take {w : World} {ao : Option Addr} {len cap : Nat} {xs : List Value} (h : Holds w (.slice ao len cap) xs) (n : Nat) (hn : n ≤ len) (cap' : Nat) (hcap : n ≤ cap') : Holds w (.slice ao n cap') (xs.take n) := by
  obtain ⟨ao', cap0, e, -, hc⟩ := h
  simp only [Value.slice.injEq] at e
  obtain ⟨rfl, rfl, rfl⟩ := e
  refine ⟨ao, cap', by rw [List.length_take, Nat.min_eq_left hn], by rw [List.length_take]; omega, fun hp => ?_⟩
  obtain ⟨b, off, rfl, hcell⟩ := hc (by rw [List.length_take] at hp; omega)
  refine ⟨b, off, rfl, fun j u hj => hcell j u ?_⟩
  rw [List.getElem?_take] at hj
  split at hj
  · exact hj
  · cases hj
/-- The cells of a slice from n on: what b[n:] is. -/
theorem Holds.drop {w : World} {b off len cap : Nat} {xs : List Value} (h : Holds w (.slice (some ⟨b, off, none⟩) len cap) xs) (n : Nat) (_hn : n ≤ len) (cap' : Nat) (hcap : len - n ≤ cap') : Holds w (.slice (some ⟨b, off + n, none⟩) (len - n) cap') (xs.drop n) := by
  obtain ⟨ao', cap0, e, -, hc⟩ := h
  simp only [Value.slice.injEq] at e
  obtain ⟨rfl, rfl, rfl⟩ := e
  refine ⟨some ⟨b, off + n, _⟩, cap', by rw [List.length_drop], by rw [List.length_drop]; exact hcap, fun hp => ⟨b, off + n, rfl, fun j u hj => ?_⟩⟩
  rw [List.length_drop] at hp
  obtain ⟨b', off', e, hcell⟩ := hc (by omega)
  simp only [Option.some.injEq, Addr.mk.injEq, and_true] at e
  obtain ⟨rfl, rfl⟩ := e
  rw [List.getElem?_drop] at hj
  rw [Nat.add_assoc]
  exact hcell _ u hj

/-- The slice is where it was, or in new memory. -/
def Moved (w : World) (sv sv' : Value) : Prop := ∀ k, sv'.ownBlock = some k → sv.ownBlock = some k ∨ w.heap.size ≤ k
theorem Moved.refl (w : World) (sv : Value) : Moved w sv sv := fun _ h => .inl h
theorem Moved.trans {w w1 : World} {a b c : Value} (h : Moved w a b) (h1 : Moved w1 b c) (hs : w.heap.size ≤ w1.heap.size) : Moved w a c := fun k hk => by
  rcases h1 k hk with h2 | h2
  · exact h k h2
  · exact .inr (by omega)
theorem Moved.mono' {w w1 : World} {a b : Value} (h : Moved w1 a b) (hs : w.heap.size ≤ w1.heap.size) : Moved w a b := fun k hk => by
  rcases h k hk with h2 | h2
  · exact .inl h2
  · exact .inr (by omega)
theorem Fr.none {a b c : World} {S : Nat → Prop} (h : Fr a b S) (k : Fr b c (fun _ => False)) : Fr a c S :=
  h.trans k (fun _ _ ht => ht.elim)
/-- Behind a step that touches a slice's own row alone. -/
theorem Fr.own {a b c : World} {sv sv' : Value} (h : Fr a b (fun k => sv.ownBlock = some k)) (k : Fr b c (fun k => sv'.ownBlock = some k)) (hm : Moved a sv sv') : Fr a c (fun k => sv.ownBlock = some k) :=
  h.trans k (fun i hi ht => by
    rcases hm i ht with h2 | h2
    · exact h2
    · omega)
/-- Behind a step that touches what is newer alone. -/
theorem Fr.newer {a b c : World} {S T : Nat → Prop} (h : Fr a b S) (k : Fr b c T) (hn : ∀ i, T i → a.heap.size ≤ i) : Fr a c S :=
  h.trans k (fun i hi ht => by have := hn i ht; omega)

/-- A slice that is written out. -/
theorem own_lit (w : World) (e : TypeId) (cs : List Value) (h : cs.length ≤ 1000) : (w.alloc (.cells cs.toArray e)).ownsRow 0 e 1 (.slice (some ⟨w.heap.size, 0, Option.none⟩) cs.length cs.length) cs.length cs := by
  have := World.ownsRow_lit (e := e) (size := 1) (base := 0) w cs.toArray cs.length (Nat.zero_le _) (by unfold maxLen; omega) (by simp)
  simpa using this
theorem holds_lit (w : World) (e : TypeId) (cs : List Value) (h : cs.length ≤ 1000) : Holds (w.alloc (.cells cs.toArray e)) (.slice (some ⟨w.heap.size, 0, Option.none⟩) cs.length cs.length) cs :=
  holds_own (own_lit w e cs h)
theorem row1_one (k : IntKind) (x : Int) : ∀ y ∈ [Value.int k x], y.oneCell' = true := by intro y hy; simp at hy; subst hy; rfl

/-- append onto a slice that the call owns, of a slice that can be read: what was there still reads as it did. -/
theorem run_append_holds {P : Program} (w : World) (t ty e : TypeId) (i : TypeInfo) (z : Value) (bytes : Nat) (ht : P.underlying t = some (.slice e)) (hi : P.info? e = some i) (hz : i.zero = some z)
    (hsize : i.size = 1) (hby : i.bytes = bytes) (hzs : z.cells.size = 1) (hb8 : bytes ≤ 1000) (v : Value) (n : Nat) (xs : List Value) (hown : w.ownsRow 0 e 1 v n xs) (u : Value) (ys : List Value) (hu : Holds w u ys)
    (h1 : ∀ y ∈ ys, y.oneCell' = true) (hb : n + ys.length ≤ 100000000000) :
    ∃ v' w', (Builtin.append_ #[t, t] ty #[v, u]).run P w = .ok v' w' ∧ w'.ownsRow 0 e 1 v' (n + ys.length) (xs ++ ys) ∧ Fr w w' (fun k => v.ownBlock = some k) ∧ Moved w v v' ∧ Holds w' v xs ∧ (∀ k, v'.ownBlock = some k → k < w'.heap.size) := by
  obtain ⟨ao, cap, rfl, hlc, hc⟩ := hu
  have hbb : (n + ys.length) * bytes ≤ 140737488355328 := by
    have := Nat.mul_le_mul hb hb8
    omega
  by_cases h0 : 0 < ys.length
  · obtain ⟨b, off, rfl, hcell⟩ := hc h0
    have hnews : ∀ j u, ys[j]? = some u → w.cell? ((⟨b, off, Option.none⟩ : Addr).add j) = some u := fun j u hj => by rw [add_none]; exact hcell j u hj
    obtain ⟨v', w', hr, ho, hg, _, hat⟩ := run_append_own_at (P := P) w 0 t ty e i z 1 bytes ht hi hz hsize hby hzs (by decide) v n xs hown ⟨b, off, Option.none⟩ ys.length cap ys (by omega) hnews h1 (by unfold maxLen; omega) hbb (Nat.zero_le _)
    refine ⟨v', w', hr, ho, (Fr.refl w _).grown hg (fun k hk _ => hk), fun k hk => ?_, ?_, fun k hk => (ho.lt k hk).2⟩
    · rcases hat with hat | hat
      · exact .inl (hat ▸ hk)
      · rw [hat] at hk; simp at hk; exact .inr (by omega)
    · have hxl : xs.length = n := by have := hown.1; omega
      rcases hown.2 with ⟨rfl, h0⟩ | ⟨g, cp, cur, rfl, hbg, hgg, hnc, hcm, hcs, htake⟩
      · exact ⟨Option.none, 0, by rw [hxl, h0], by omega, fun hp => by omega⟩
      · by_cases hroom : n + ys.length ≤ cp
        · have hr2 := run_append_room (P := P) w t ty e i ht hi g n cp cur hgg ⟨b, off, Option.none⟩ ys.length cap ys (by rw [hsize]; omega) hnews h1 hroom (by rw [hsize]; omega)
          rw [hr] at hr2
          simp only [Result.ok.injEq] at hr2
          obtain ⟨rfl, _⟩ := hr2
          refine ⟨some ⟨g, 0, Option.none⟩, cp, by rw [hxl], by omega, fun _ => ⟨g, 0, rfl, fun j u hj => ?_⟩⟩
          have := ho.cells (g := g) rfl j u (by rw [List.getElem?_append_left (List.getElem?_eq_some_iff.1 hj).1]; exact hj)
          rwa [add_none] at this
        · have hr2 := run_append_grow (P := P) w t ty e i z ht hi hz ⟨g, 0, Option.none⟩ n cp xs (by rw [hsize]; exact hown.1) (hown.cells rfl) ⟨b, off, Option.none⟩ ys.length cap ys (by rw [hsize]; omega) hnews (by omega) (by omega) (growslice_fits (by omega) (by rw [hby]; exact hbb))
          rw [hr] at hr2
          simp only [Result.ok.injEq] at hr2
          obtain ⟨_, rfl⟩ := hr2
          exact (holds_own hown).keep ((Fr.refl w (fun _ => False)).drew.alloc _)
  · have e0 : ys = [] := List.eq_nil_of_length_eq_zero (by omega)
    subst e0
    refine ⟨v, w, ?_, by simpa using hown, Fr.refl _ _, Moved.refl _ _, holds_own hown, fun k hk => (hown.lt k hk).2⟩
    cases ao with
    | none =>
      by_cases hc0 : cap = 0
      · subst hc0
        exact run_append_owned_none (P := P) w 0 t ty e i 1 ht hi v n xs hown
      · rcases hown.2 with ⟨rfl, rfl⟩ | ⟨g, cp, cur, rfl, _, _, hnc, _⟩
        · simp [Builtin.append_, run_underlying ht, sizeOf, typeInfo, hi, Builtin.lenOf, Builtin.firstCells]
        · simp [Builtin.append_, run_underlying ht, sizeOf, typeInfo, hi, Builtin.lenOf, Builtin.firstCells, hnc, storeCells]
    | some a =>
      rcases hown.2 with ⟨rfl, rfl⟩ | ⟨g, cp, cur, rfl, _, _, hnc, _⟩
      · simp [Builtin.append_, run_underlying ht, sizeOf, typeInfo, hi, Builtin.lenOf, Builtin.firstCells, loadCells, loadCellsFrom]
      · simp [Builtin.append_, run_underlying ht, sizeOf, typeInfo, hi, Builtin.lenOf, Builtin.firstCells, loadCells, loadCellsFrom, hnc, storeCells]

/-- append outside a region that draws, by its run. -/
theorem wpList_append_run {P : Program} {w : World} {ops : Array Oper} {rest : List Oper} {o : Oper} {a : Act} {Q : Exit → Act → World → Prop} (hgd : o.guard = none) (s x : Operand) (t : TypeId)
    (ho : o.op = .call { callee := .builtin .append, args := #[s, x], argTypes := #[t, t] }) {u v v' : Value} {w' : World} (hs : a.eval s = u) (hx : a.eval x = v)
    (hrun : (Builtin.append_ #[t, t] o.type #[u, v]).run P w = .ok v' w') (h : wpList P ops Q rest (a.put o.dst v') w') : wpList P ops Q (o :: rest) a w := by
  refine wpList_plain hgd fun K hK => ?_
  unfold Oper.wp execOp
  simp only [ho, resolve, invoke, builtin, Sem.run_bind, Sem.run_pure, Result.andThen_ok, List.map_toArray, List.map_cons, List.map_nil, hs, hx, hrun]
  exact hK _ _ h

/-- What is known of a slice of integers that came in. -/
def IsRow (k : IntKind) (w : World) (a : Option Addr) (len cap : Nat) (zs : List Int) : Prop :=
  (a = none ∧ len = 0 ∧ cap = 0 ∧ zs = []) ∨
  ∃ x, a = some x ∧ len ≤ cap ∧ cap ≤ maxLen ∧ zs.length = cap ∧ (∀ i, i < zs.length → w.cell? (x.add i) = some (.int k (zs.getD i 0))) ∧ ∀ n ∈ zs, (Lit.int k n).wf = true

theorem spot_none {w : World} {x : Addr} {u : Value} (h : w.cell? (x.add 0) = some u) : ∃ b off, x = ⟨b, off, none⟩ := by
  obtain ⟨b, off, spot⟩ := x
  cases spot with
  | none => exact ⟨b, off, rfl⟩
  | some s =>
    exfalso
    unfold World.cell? at h
    split at h
    · simp [Addr.add] at h
    · cases h

/-- It can be read, as numbers below m. -/
theorem reads_isRow {k : IntKind} {m : Nat} (hm : ∀ n : Int, (Lit.int k n).wf = true → 0 ≤ n ∧ n < m) (hm0 : 0 < m) {w : World} {a : Option Addr} {len cap : Nat} {zs : List Int} (h : IsRow k w a len cap zs) :
    ∃ bs : List Nat, bs.length = len ∧ (∀ j, bs.getD j 0 < m) ∧ Reads k w (.slice a len cap) bs ∧ (∀ k, (Value.slice a len cap).ownBlock = some k → 0 < len → k < w.heap.size) := by
  rcases h with ⟨rfl, rfl, rfl, rfl⟩ | ⟨x, rfl, hl, _, hz, hc, hw⟩
  · exact ⟨[], rfl, fun j => by simpa using hm0, ⟨Option.none, 0, rfl, Nat.le_refl _, fun h => by simp [row] at h⟩, fun k h => by simp [Value.ownBlock] at h⟩
  · refine ⟨(zs.take len).map Int.toNat, by simp; omega, fun j => ?_, ⟨some x, cap, by simp [row]; omega, by simp [row]; omega, fun hp => ?_⟩, fun k hk hp => ?_⟩
    · simp only [List.getD_eq_getElem?_getD, List.getElem?_map]
      cases hj : (zs.take len)[j]? with
      | none => simpa using hm0
      | some z =>
        have hmm : z ∈ zs := List.mem_of_mem_take (List.mem_of_getElem? hj)
        have := hm z (hw z hmm)
        simp; omega
    · have hp' : 0 < len := by simp [row] at hp; omega
      obtain ⟨b, off, rfl⟩ := spot_none (hc 0 (by omega))
      refine ⟨b, off, rfl, fun j u hj => ?_⟩
      have hjl : j < len := by
        have := (List.getElem?_eq_some_iff.1 hj).1
        simp [row] at this; omega
      have hcj := hc j (by omega)
      rw [add_none] at hcj
      rw [hcj]
      have hzj : j < zs.length := by omega
      have hb := hm _ (hw (zs.getD j 0) (by rw [List.getD_eq_getElem?_getD, List.getElem?_eq_getElem hzj]; exact List.getElem_mem hzj))
      simp only [row, List.getElem?_map, List.getElem?_take, hjl, if_true, List.getElem?_eq_getElem hzj, Option.map_some, Option.some.injEq] at hj
      rw [← hj]
      simp only [List.getD_eq_getElem?_getD, List.getElem?_eq_getElem hzj, Option.getD_some] at hb ⊢
      congr 2
      omega
    · simp [Value.ownBlock] at hk
      subst hk
      have := World.block_lt_of_cell? _ _ (hc 0 (by omega))
      obtain ⟨b, off, rfl⟩ := spot_none (hc 0 (by omega))
      exact this
theorem small_u8 (n : Int) (h : (Lit.int .u8 n).wf = true) : 0 ≤ n ∧ n < (256 : Nat) := by have := bounds_u8 h; omega
theorem small_u64 (n : Int) (h : (Lit.int .u64 n).wf = true) : 0 ≤ n ∧ n < (18446744073709551616 : Nat) := by have := bounds_u64 h; omega

/-- A row that is owned and has an element is no nil: its block. -/
theorem own_form {w : World} {base : Nat} {e : TypeId} {size : Nat} {v : Value} {n : Nat} {xs : List Value} (h : w.ownsRow base e size v n xs) (hn : 0 < n) :
    ∃ g cap, v = .slice (some ⟨g, 0, none⟩) n cap ∧ ∃ cur, w.heap[g]? = some (.cells cur e (0, 0)) := by
  rcases h.2 with ⟨_, h'⟩ | ⟨g, cap, cur, h', _, hg, _⟩
  · omega
  · exact ⟨g, cap, h', cur, hg⟩

theorem getD_mem {us : List Nat} {i : Nat} (h : i < us.length) : us.getD i 0 ∈ us := by
  rw [List.getD_eq_getElem?_getD, List.getElem?_eq_getElem h]; exact List.getElem_mem h
theorem take_step {us : List Nat} {i : Nat} (h : i < us.length) : us.take (i + 1) = us.take i ++ [us.getD i 0] := by
  rw [List.take_add_one, List.getD_eq_getElem?_getD, List.getElem?_eq_getElem h]; rfl

theorem drop_step {bs : List Nat} {i : Nat} (h : i < bs.length) : bs.drop i = bs.getD i 0 :: bs.drop (i + 1) := by
  rw [List.drop_eq_getElem_cons h, List.getD_eq_getElem?_getD, List.getElem?_eq_getElem h]; rfl

theorem getD_lt {bs : List Nat} {m : Nat} (hm : 0 < m) (h : ∀ x ∈ bs, x < m) (j : Nat) : bs.getD j 0 < m := by
  rw [List.getD_eq_getElem?_getD]
  cases hj : bs[j]? with
  | none => simpa using hm
  | some x => simpa using h x (List.mem_of_getElem? hj)

theorem mem_take_lt {bs : List Nat} {n : Nat} (h : ∀ x ∈ bs, x < 256) : ∀ x ∈ bs.take n, x < 256 := fun x hx => h x (List.mem_of_mem_take hx)

/-- What b[n:] is. -/
theorem reads_drop {k : IntKind} {w : World} {ao : Option Addr} {len cap : Nat} {bs : List Nat} (h : Reads k w (.slice ao len cap) bs) (n : Nat) (hn : n ≤ len) :
    Reads k w (.slice (if cap = n then ao else Option.map (fun x => x.add n) ao) (len - n) (cap - n)) (bs.drop n) := by
  obtain ⟨ao', cap', e, hlc, hc⟩ := id h
  simp only [Value.slice.injEq] at e
  obtain ⟨rfl, hl, rfl⟩ := e
  rw [length_row] at hl hlc hc
  by_cases h0 : 0 < bs.length - n
  · obtain ⟨b, off, rfl, -⟩ := hc (by omega)
    rw [if_neg (by omega)]
    simp only [Option.map_some, add_none]
    have := Holds.drop h n hn (cap - n) (by omega)
    rwa [← row_drop] at this
  · refine ⟨if cap = n then ao else Option.map (fun x => x.add n) ao, cap - n, ?_, ?_, fun hp => ?_⟩
    · rw [length_row, List.length_drop, hl]
    · rw [length_row, List.length_drop]; omega
    · rw [length_row, List.length_drop] at hp; omega

/-- A slice that can be read is a slice. -/
theorem Reads.form {k : IntKind} {w : World} {v : Value} {bs : List Nat} (h : Reads k w v bs) : ∃ a l c, v = .slice a l c := by
  obtain ⟨a, c, h, _⟩ := h
  exact ⟨_, _, _, h⟩

end Go.Proofs.YtchkojdpnbecoaaDoor
